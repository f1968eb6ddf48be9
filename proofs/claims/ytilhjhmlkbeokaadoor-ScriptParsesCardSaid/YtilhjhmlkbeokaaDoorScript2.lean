/- script: the act of a line. -/
import Derived.Test.YtilhjhmlkbeokaaDoorScript1
import Derived.Test.YtilhjhmlkbeokaaDoorPairsV
import Derived.Deep.DeepCutAuto
namespace Go.Proofs.YtilhjhmlkbeokaaDoor
open Go.RowKit

/-- Two results: an act that lies in a box, and a value. -/
theorem results_act2 {fn : Func} {p q : Tmp} (h : fn.results = #[.cell p 36, .tmp q]) (tmps : Array Value) (w : World) (g : Nat) (x y v : Value) (hp : tmps.getD p undef = .pointer (some ⟨g, 0, none⟩)) (hq : tmps.getD q undef = v) (hc : Whole w g 36 #[x, y]) :
    (results fn tmps).run Tryd.prog w = .ok (.tuple #[.agg #[x, y], v]) w := by
  have hp' : tmps[p]?.getD undef = .pointer (some ⟨g, 0, none⟩) := by simpa using hp
  have hq' : tmps[q]?.getD undef = v := by simpa using hq
  have c0 : w.cell? ⟨g, 0, none⟩ = some x := hc.cell 0
  have c1 : w.cell? ⟨g, 1, none⟩ = some y := hc.cell 1
  simp [results, h, hp', hq', asAddr, loadVar, go_sem, c0, c1]
/-- What parse tells of a line. -/
def LineTo (l : List UInt8) (w : World) (e : Ending) (w' : World) : Prop :=
  Below w.heap.size w w' ∧ ∃ (x y : Int) (ok : Bool), e = .returned (.tuple #[.agg #[.int .i64 x, .int .i64 y], .bool ok]) ∧ ((ok = true ∧ goodA (x, y) = true ∧ lineB (x, y) = l) ∨ (ok = false ∧ ∀ a, goodA a = true → lineB a ≠ l))
theorem act_put {w : World} {g : Nat} {a b : Value} (h : Whole w g 36 #[a, b]) (x y : Value) : Whole ((w.setCell ⟨g, 0, none⟩ x).setCell ⟨g, 1, none⟩ y) g 36 #[x, y] := (h.put 0 x).put 1 y
theorem below_put {B : Nat} {a w : World} {g : Nat} (h : Below B a w) (hg : B ≤ g) (x y : Value) : Below B a ((w.setCell ⟨g, 0, none⟩ x).setCell ⟨g, 1, none⟩ y) := (h.setCell (p := ⟨g, 0, none⟩) hg x).setCell (p := ⟨g, 1, none⟩) hg y
set_option maxRecDepth 100000 in
set_option maxHeartbeats 4000000 in
theorem parse_any (l : List UInt8) (hl : l.length ≤ 1000000) (w : World) (hg : GT w) :
    Calls Tryd.prog 20 #[.string (str l)] w (LineTo l w) := by
  have hb0 : Below w.heap.size w (w.alloc (.cells #[.int .i64 0, .int .i64 0] 36)) := (Below.refl _ _).alloc (Nat.le_refl _) _
  have hw0 := Whole.new w 36 #[.int .i64 0, .int .i64 0]
  have HCUT := Lib.hid (cut_at l 32 _ (hg.below hb0 (Nat.le_refl _)) (by omega))
  obtain ⟨p, q, z, hc, hcase⟩ : ∃ p q z, Lib.cut l [32] = (p, q, z) ∧ ((z = true ∧ (32 : UInt8) ∉ p ∧ l = p ++ 32 :: q) ∨ (z = false ∧ (32 : UInt8) ∉ l ∧ p = l ∧ q = [])) := by
    rcases cut_cases l 32 with h | ⟨p, q, e, h⟩
    · exact ⟨l, [], false, cut_no h, Or.inr ⟨rfl, h, rfl, rfl⟩⟩
    · refine ⟨p, q, true, ?_, Or.inl ⟨rfl, h, e⟩⟩
      rw [e]
      exact cut_yes h
  rw [hc] at HCUT
  simp only at HCUT
  have hq : q.length ≤ 1000000 := by
    rcases hcase with ⟨_, _, e⟩ | ⟨_, _, _, e⟩
    · rw [e] at hl; simp at hl; omega
    · rw [e]; simp
  have HCASE := Lib.hid hcase; have HG := Lib.hid hg; have HB0 := Lib.hid hb0; have HW0 := Lib.hid hw0; have HQ := Lib.hid hq
  clear hcase hc hg hb0 hw0 hq
  obtain ⟨s, hs⟩ : ∃ s, str l = s := ⟨_, rfl⟩
  obtain ⟨ps, hps⟩ : ∃ s, str p = s := ⟨_, rfl⟩
  obtain ⟨qs, hqs⟩ : ∃ s, str q = s := ⟨_, rfl⟩
  rw [hs, hps, hqs] at HCUT
  rw [hs]
  have HPS := Lib.hid hps; have HQS := Lib.hid hqs
  clear hs hps hqs
  go_enter Tryd.func20, Tryd.ntmps20
  go_wp2_with fail
  refine HCUT.out.mono ?_
  rintro e w1 ⟨rfl, hb1⟩
  have HB1 := Lib.hid (HB0.out.trans (hb1.mono HB0.out.size))
  have HW1 := Lib.hid (HW0.out.below hb1 (by rw [World.size_alloc]; omega))
  clear hb1
  go_wp2_with fail
  go_loopg [7] 6 (fun g kv wr => ∃ k : Nat, k ≤ 6 ∧ g = 6 - k ∧ kv = .int .i64 (k : Nat) ∧ (∀ j : Nat, j < k → wordB (j : Int) ≠ p) ∧ Below w.heap.size w wr ∧ Whole wr w.heap.size 36 #[.int .i64 0, .int .i64 0])
  case atStart => exact ⟨0, by omega, rfl, rfl, fun j hj => by omega, HB1.out, HW1.out⟩
  case round =>
    obtain ⟨k, hk, rfl, rfl, hne, hB, hW⟩ := hrel
    have HNE := Lib.hid hne; have HB := Lib.hid hB; have HW := Lib.hid hW
    clear hne hB hW
    by_cases hlt : k < 6
    · have HNAME := Lib.hid (name_any (k : Int) (by omega) (by omega) wr)
      have t3 : decide ((k : Int) ≤ 5) = true := decide_eq_true (by omega)
      have t3' : decide (k ≤ 5) = true := decide_eq_true (by omega)
      obtain ⟨d, hd⟩ : ∃ d, str (wordB (k : Int)) = d := ⟨_, rfl⟩
      rw [hd] at HNAME
      have HD := Lib.hid hd
      clear hd
      by_cases heq : wordB (k : Int) = p
      · have HEQ := Lib.hid heq
        have HCNT := Lib.hid (counts_any (k : Int) (by omega) (by omega) wr)
        have hdp : ps = d := by rw [← HPS.out, ← HD.out, heq]
        subst hdp
        clear heq
        have hk3 : decide ((k : Int) ≤ 3) = decide (k ≤ 3) := by
          by_cases h : k ≤ 3
          · rw [decide_eq_true h, decide_eq_true (by omega)]
          · rw [decide_eq_false h, decide_eq_false (by omega)]
        rw [hk3] at HCNT
        clear hk3
        by_cases hk4 : k ≤ 3
        · rw [decide_eq_true hk4] at HCNT
          have HK4 := Lib.hid hk4
          have HNUM := Lib.hid (number_any q HQ.out wr (HG.out.below HB.out (Nat.le_refl _)))
          rw [HQS.out] at HNUM
          clear hk4
          go_wp2_with fail
          refine HNAME.out.mono ?_; rintro e w2 ⟨rfl, hw⟩; obtain rfl := hw.symm
          clear hw
          go_wp2_with fail
          refine HCNT.out.mono ?_; rintro e w2 ⟨rfl, hw⟩; obtain rfl := hw.symm
          clear hw
          go_wp2_with fail
          refine HNUM.out.mono ?_; rintro e w3 ⟨hb3, n, ok, rfl, hn⟩
          have HB3 := Lib.hid (HB.out.trans (hb3.mono HB.out.size)); have HW3 := Lib.hid (HW.out.below hb3 HW.out.lt); have HNN := Lib.hid hn
          clear hb3 hn
          have c0 : w3.cell? ⟨w.heap.size, 0, none⟩ = some (.int .i64 0) := HW3.out.cell 0
          have c1 : w3.cell? ⟨w.heap.size, 1, none⟩ = some (.int .i64 0) := HW3.out.cell 1
          have f0 : w3.frozen? ⟨w.heap.size, 0, none⟩ = false := HW3.out.free 0
          have f1 : w3.frozen? ⟨w.heap.size, 1, none⟩ = false := HW3.out.free 1
          go_wp2_with fail
          refine bodyPost_ret (results_act2 rfl _ _ _ _ _ _ rfl rfl (act_put HW3.out (.int .i64 k) (.int .i64 n))) rfl ⟨below_put HB3.out (Nat.le_refl _) _ _, k, n, ok, rfl, ?_⟩
          have hw32 := (word_no (k := (k : Int)) (by omega) (by omega)).1
          have hk3 : (k : Int) ≤ 3 := by have := HK4.out; omega
          rcases HNN.out with ⟨rfl, n0, n1, e⟩ | ⟨rfl, hno⟩
          · rcases HCASE.out with ⟨hz, _, el⟩ | ⟨_, _, _, eq⟩
            · refine Or.inl ⟨rfl, good_iff.2 ⟨by omega, by omega, n0, n1, Or.inl hk3⟩, ?_⟩
              unfold lineB
              rw [if_pos hk3, HEQ.out, e, el]
            · rw [eq] at e
              exact absurd e (dec_ne _)
          · refine Or.inr ⟨rfl, fun a ha e => ?_⟩
            obtain ⟨a0, a5, a2, a3, a4⟩ := good_iff.1 ha
            unfold lineB at e
            have wn := (word_no a0 a5).1
            rcases HCASE.out with ⟨hz, hp, el⟩ | ⟨_, hl2, ep, eq⟩
            · by_cases h3 : a.1 ≤ 3
              · rw [if_pos h3, el] at e
                exact hno a.2.toNat (by omega) (split_inj wn hp e).2
              · rw [if_neg h3, List.append_nil, el] at e
                exact wn (by rw [e]; simp)
            · by_cases h3 : a.1 ≤ 3
              · rw [if_pos h3] at e
                exact hl2 (by rw [← e]; simp)
              · rw [if_neg h3, List.append_nil, ← ep, ← HEQ.out] at e
                have := word_inj a0 a5 (by omega) (by omega) e
                omega
        · rw [decide_eq_false hk4] at HCNT
          have HK4 := Lib.hid hk4
          clear hk4
          have c0 : wr.cell? ⟨w.heap.size, 0, none⟩ = some (.int .i64 0) := HW.out.cell 0
          have c1 : wr.cell? ⟨w.heap.size, 1, none⟩ = some (.int .i64 0) := HW.out.cell 1
          have f0 : wr.frozen? ⟨w.heap.size, 0, none⟩ = false := HW.out.free 0
          have f1 : wr.frozen? ⟨w.heap.size, 1, none⟩ = false := HW.out.free 1
          go_wp2_with fail
          refine HNAME.out.mono ?_; rintro e w2 ⟨rfl, hw⟩; obtain rfl := hw.symm
          clear hw
          go_wp2_with fail
          refine HCNT.out.mono ?_; rintro e w2 ⟨rfl, hw⟩; obtain rfl := hw.symm
          clear hw
          go_wp2_with fail
          refine bodyPost_ret (results_act2 rfl _ _ _ _ _ _ rfl rfl (act_put HW.out (.int .i64 k) (.int .i64 0))) rfl ⟨below_put HB.out (Nat.le_refl _) _ _, k, 0, !z, rfl, ?_⟩
          have hk3 : ¬ (k : Int) ≤ 3 := by have := HK4.out; omega
          rcases HCASE.out with ⟨rfl, hp, el⟩ | ⟨rfl, hl2, ep, _⟩
          · refine Or.inr ⟨rfl, fun a ha e => ?_⟩
            obtain ⟨a0, a5, a2, a3, a4⟩ := good_iff.1 ha
            unfold lineB at e
            have wn := (word_no a0 a5).1
            by_cases h3 : a.1 ≤ 3
            · rw [if_pos h3, el, ← HEQ.out] at e
              have := word_inj a0 a5 (by omega) (by omega) (split_inj wn (by rw [HEQ.out]; exact hp) e).1
              omega
            · rw [if_neg h3, List.append_nil, el] at e
              exact wn (by rw [e]; simp)
          · refine Or.inl ⟨rfl, good_iff.2 ⟨by omega, by omega, by omega, by omega, Or.inr rfl⟩, ?_⟩
            unfold lineB
            rw [if_neg hk3, List.append_nil, HEQ.out]
            exact ep
      · have hdp : (d.toList == ps.toList) = false := by
          rw [← HD.out, ← HPS.out, str_toList, str_toList, beq_eq_false_iff_ne]
          exact heq
        have HEQ := Lib.hid heq
        clear heq
        go_wp2_with fail
        refine HNAME.out.mono ?_; rintro e w2 ⟨rfl, hw⟩; obtain rfl := hw.symm
        clear hw
        go_wp2_with fail
        go_roundg (6 - (k + 1))
        case rel =>
          refine ⟨k + 1, by omega, rfl, by go_num, fun j hj => ?_, HB.out, HW.out⟩
          rcases Nat.lt_or_ge j k with h | h
          · exact HNE.out j h
          · obtain rfl : j = k := by omega
            exact HEQ.out
        case measure => omega
    · obtain rfl : k = 6 := by omega
      have c0 : wr.cell? ⟨w.heap.size, 0, none⟩ = some (.int .i64 0) := HW.out.cell 0
      have c1 : wr.cell? ⟨w.heap.size, 1, none⟩ = some (.int .i64 0) := HW.out.cell 1
      have f0 : wr.frozen? ⟨w.heap.size, 0, none⟩ = false := HW.out.free 0
      have f1 : wr.frozen? ⟨w.heap.size, 1, none⟩ = false := HW.out.free 1
      go_wp2_with fail
      refine bodyPost_ret (results_act2 rfl _ _ _ _ _ _ rfl rfl (act_put HW.out (.int .i64 0) (.int .i64 0))) rfl ⟨below_put HB.out (Nat.le_refl _) _ _, 0, 0, false, rfl, Or.inr ⟨rfl, fun a ha e => ?_⟩⟩
      obtain ⟨a0, a5, _⟩ := good_iff.1 ha
      obtain ⟨j, hj⟩ : ∃ j : Nat, a.1 = j := ⟨a.1.toNat, by omega⟩
      have hno := HNE.out j (by omega)
      rw [← hj] at hno
      unfold lineB at e
      have wn := (word_no a0 a5).1
      rcases HCASE.out with ⟨_, hp, el⟩ | ⟨_, hl2, ep, _⟩
      · by_cases h3 : a.1 ≤ 3
        · rw [if_pos h3, el] at e
          exact hno (split_inj wn hp e).1
        · rw [if_neg h3, List.append_nil, el] at e
          exact wn (by rw [e]; simp)
      · by_cases h3 : a.1 ≤ 3
        · rw [if_pos h3] at e
          exact hl2 (by rw [← e]; simp)
        · rw [if_neg h3, List.append_nil] at e
          exact hno (by rw [ep]; exact e)
end Go.Proofs.YtilhjhmlkbeokaaDoor
