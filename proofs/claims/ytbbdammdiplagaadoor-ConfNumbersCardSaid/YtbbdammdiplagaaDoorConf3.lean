/- conf: Parse of lines. -/
import Derived.Test.YtbbdammdiplagaaDoorConf2
namespace Go.Proofs.YtbbdammdiplagaaDoor
open Go.RowKit

theorem Tryd.infoString : (Tryd.prog.info? 9).map (fun i => (i.zero, i.size, i.bytes)) = some (some (.string ⟨#[]⟩), 1, 16) := by kernel_rfl
/-- Six cells put anew. -/
abbrev put6 (w : World) (g : Nat) (a b c d e f : Value) : World := (((((w.setCell ⟨g, 0, none⟩ a).setCell ⟨g, 1, none⟩ b).setCell ⟨g, 2, none⟩ c).setCell ⟨g, 3, none⟩ d).setCell ⟨g, 4, none⟩ e).setCell ⟨g, 5, none⟩ f
theorem whole_put6 {w : World} {g : Nat} {t : TypeId} {a0 b0 c0 d0 e0 f0 : Value} (h : Whole w g t #[a0, b0, c0, d0, e0, f0]) (a b c d e f : Value) : Whole (put6 w g a b c d e f) g t #[a, b, c, d, e, f] :=
  (((((h.put 0 a).put 1 b).put 2 c).put 3 d).put 4 e).put 5 f
theorem below_put6 {B : Nat} {x w : World} {g : Nat} (h : Below B x w) (hg : B ≤ g) (a b c d e f : Value) : Below B x (put6 w g a b c d e f) :=
  (((((h.setCell (p := ⟨g, 0, none⟩) hg a).setCell (p := ⟨g, 1, none⟩) hg b).setCell (p := ⟨g, 2, none⟩) hg c).setCell (p := ⟨g, 3, none⟩) hg d).setCell (p := ⟨g, 4, none⟩) hg e).setCell (p := ⟨g, 5, none⟩) hg f
theorem other_put6 {w : World} {k g : Nat} {t : TypeId} {cs : Array Value} (h : Whole w k t cs) (hk : k ≠ g) (a b c d e f : Value) : Whole (put6 w g a b c d e f) k t cs :=
  (((((h.other (p := ⟨g, 0, none⟩) hk a).other (p := ⟨g, 1, none⟩) hk b).other (p := ⟨g, 2, none⟩) hk c).other (p := ⟨g, 3, none⟩) hk d).other (p := ⟨g, 4, none⟩) hk e).other (p := ⟨g, 5, none⟩) hk f
/-- Two results: what is asked, that lies in a box, and a value. -/
theorem results_conf {fn : Func} {p q : Tmp} (h : fn.results = #[.cell p 29, .tmp q]) (tmps : Array Value) (w : World) (g : Nat) (a b c d e f v : Value) (hp : tmps.getD p undef = .pointer (some ⟨g, 0, none⟩)) (hq : tmps.getD q undef = v) (hc : Whole w g 29 #[a, b, c, d, e, f]) :
    (results fn tmps).run Tryd.prog w = .ok (.tuple #[.agg #[a, b, c, d, e, f], v]) w := by
  have hp' : tmps[p]?.getD undef = .pointer (some ⟨g, 0, none⟩) := by simpa using hp
  have hq' : tmps[q]?.getD undef = v := by simpa using hq
  have c0 : w.cell? ⟨g, 0, none⟩ = some a := hc.cell 0
  have c1 : w.cell? ⟨g, 1, none⟩ = some b := hc.cell 1
  have c2 : w.cell? ⟨g, 2, none⟩ = some c := hc.cell 2
  have c3 : w.cell? ⟨g, 3, none⟩ = some d := hc.cell 3
  have c4 : w.cell? ⟨g, 4, none⟩ = some e := hc.cell 4
  have c5 : w.cell? ⟨g, 5, none⟩ = some f := hc.cell 5
  simp [results, h, hp', hq', asAddr, loadVar, go_sem, c0, c1, c2, c3, c4, c5]
theorem run_bad1 {c : CP} {st : List (List UInt8)} {p : List UInt8 × List UInt8} {t : List (List UInt8 × List UInt8)} (h : (decide (st = []) != decide (p.1 = wJob)) = true ∨ p.1 ∈ st) : runP c st (p :: t) = .inl st.length := by
  unfold runP
  rw [if_pos h]
theorem run_bad2 {c : CP} {st : List (List UInt8)} {p : List UInt8 × List UInt8} {t : List (List UInt8 × List UInt8)} (h : setP c p.1 p.2 = none) : runP c st (p :: t) = .inl st.length := by
  unfold runP
  by_cases h1 : (decide (st = []) != decide (p.1 = wJob)) = true ∨ p.1 ∈ st
  · rw [if_pos h1]
  · rw [if_neg h1, h]
theorem run_step {c c' : CP} {st : List (List UInt8)} {p : List UInt8 × List UInt8} {t : List (List UInt8 × List UInt8)} (h1 : (decide (st = []) != decide (p.1 = wJob)) = false) (h2 : p.1 ∉ st) (h : setP c p.1 p.2 = some c') : runP c st (p :: t) = runP c' (st ++ [p.1]) t := by
  conv => lhs; unfold runP
  rw [if_neg (by rintro (x | x); (rw [h1] at x; cases x); exact h2 x), h]
theorem tell_inl {L : List (List UInt8 × List UInt8)} {i : Nat} (h : runP ⟨0, 0, 0, 1, 1000000⟩ [] L = .inl i) : tellP L = .inl i := by
  unfold tellP
  rw [h]
theorem tell_inr {L : List (List UInt8 × List UInt8)} {c : CP} (h : runP ⟨0, 0, 0, 1, 1000000⟩ [] L = .inr c) : tellP L = if c.size = 0 ∨ (c.kind = 3 ∧ c.sup = 0) then .inl L.length else .inr c := by
  unfold tellP
  rw [h]
/-- Nothing asked. -/
def zC : Array Value := #[.int .i64 0, .int .i64 0, .int .i64 0, .int .i64 0, .int .i64 0, .slice none 0 0]
/-- What Parse tells. -/
def ConfTo (L : List (List UInt8 × List UInt8)) (w : World) (e : Ending) (w' : World) : Prop :=
  Below w.heap.size w w' ∧ ((∃ i : Nat, tellP L = .inl i ∧ ∃ u, e = .returned (.tuple #[.agg zC, u]) ∧ FaultAt 12 i w' u) ∨ (∃ c, tellP L = .inr c ∧ e = .returned (.tuple #[.agg (cV c), .nilIface])))
set_option maxRecDepth 100000 in
set_option maxHeartbeats 4000000 in
theorem confParse_any (L : List (List UInt8 × List UInt8)) (hL : ∀ p ∈ L, FineL p ∧ p.1 ≠ wKeep) (l : List UInt8) (hl : l = linesB L) (hn : l.length ≤ 200000) (w : World) (hg : GT w) :
    Calls Tryd.prog 5 #[.string (str l)] w (ConfTo L w) := by
  obtain ⟨i0, hi, hz0, hz1, hz2⟩ := info_parts Tryd.infoString
  subst hl
  obtain ⟨n, hln⟩ : ∃ n, L.length = n := ⟨_, rfl⟩
  have hnn : n ≤ 200000 := by have := linesB_len L; omega
  have hsz : (str (linesB L)).size ≤ 200000 := hn
  have HL := Lib.hid hL; have HLN := Lib.hid hln; have HN := Lib.hid hn; have HG := Lib.hid hg
  obtain ⟨s, hs⟩ : ∃ s, str (linesB L) = s := ⟨_, rfl⟩
  rw [hs] at hsz ⊢
  have HS := Lib.hid hs
  have HITO := Lib.hid (fun (k : Nat) (W : World) (hk : k ≤ 200000) (h : Below w.heap.size w W) => itoa_at k (by omega) W (HG.out.below h (Nat.le_refl _)))
  have t1 : decide ((262144 : Int) < (s.size : Int)) = false := decide_eq_false (by omega)
  have t1' : decide (262144 < s.size) = false := decide_eq_false (by omega)
  clear hL hln hn hg hs hsz
  have W0 : Whole (w.alloc (.cells zC 29)) w.heap.size 29 zC := Whole.new w _ _
  have W1 : Whole ((w.alloc (.cells zC 29)).alloc (.cells (cV ⟨0, 0, 0, 1, 1000000⟩) 29)) (w.heap.size + 1) 29 (cV ⟨0, 0, 0, 1, 1000000⟩) := by
    have := Whole.new (w.alloc (.cells zC 29)) 29 (cV ⟨0, 0, 0, 1, 1000000⟩)
    rwa [World.size_alloc] at this
  have hbb : Below w.heap.size w ((w.alloc (.cells zC 29)).alloc (.cells (cV ⟨0, 0, 0, 1, 1000000⟩) 29)) := ((Below.refl _ _).alloc (Nat.le_refl _) _).alloc (by rw [World.size_alloc]; omega) _
  have H1 : Hid (Whole _ _ _ _) := Lib.hid W1
  have H0 := Lib.hid (W0.alloc (.cells (cV ⟨0, 0, 0, 1, 1000000⟩) 29))
  have HBB := Lib.hid hbb
  clear hbb W0 W1
  go_enter Tryd.func5, Tryd.ntmps5
  go_wp2_with fail
  go_loopg [0, 5] n (fun g sv lv wr => ∃ (L2 : List (List UInt8 × List UInt8)) (st : List (List UInt8)) (c : CP), g = L2.length ∧ (∀ p ∈ L2, FineL p ∧ p.1 ≠ wKeep) ∧ runP ⟨0, 0, 0, 1, 1000000⟩ [] L = runP c st L2 ∧ st.length + L2.length = n ∧ (linesB L2).length ≤ 200000 ∧ sv = .string (str (linesB L2)) ∧
    wr.ownsRow (w.heap.size + 2) 9 1 lv st.length (strsL st) ∧ Whole wr (w.heap.size + 1) 29 (cV c) ∧ Whole wr w.heap.size 29 zC ∧ Below w.heap.size w wr)
  case atStart => exact ⟨L, [], ⟨0, 0, 0, 1, 1000000⟩, HLN.out.symm, HL.out, rfl, by simpa using HLN.out, HN.out, by rw [HS.out], World.ownsRow_nil _ _ _ 1, H1.out, H0.out, HBB.out⟩
  case round =>
    obtain ⟨L2, st, c, rfl, hF, hrun, hlen, hl2, rfl, hown, hc, hr0, hB⟩ := hrel
    obtain ⟨ao, co, rfl⟩ := own_form hown
    obtain ⟨k, hk⟩ : ∃ k, st.length = k := ⟨_, rfl⟩
    rw [hk] at hown hlen ⊢
    have hkle : k ≤ 200000 := by omega
    have hit := fun W h => HITO.out k W (by omega) h
    obtain ⟨dk, hdk⟩ : ∃ d, str (Lib.decDigits k) = d := ⟨_, rfl⟩
    have hds : dk.size ≤ 6 := by rw [← hdk, str_size]; exact (dec_len_iff k 6 (by decide)).2 (by omega)
    rw [hdk] at hit
    have HIT := Lib.hid hit
    clear hit hdk
    have HF := Lib.hid hF; have HRUN := Lib.hid hrun; have HLEN := Lib.hid hlen; have HL2 := Lib.hid hl2; have HOWN := Lib.hid hown; have HC := Lib.hid hc; have HR0 := Lib.hid hr0; have HB := Lib.hid hB; have HK := Lib.hid hk
    have hsr := hc.lt
    clear hF hrun hl2 hown hc hr0 hB hk
    cases L2 with
    | nil =>
      have hrun : runP ⟨0, 0, 0, 1, 1000000⟩ [] L = .inr c := HRUN.out
      have HT := Lib.hid (tell_inr hrun)
      have te : ((str (linesB [])).toList == []) = true := by rw [str_toList]; rfl
      obtain ⟨es, hes⟩ : ∃ s, str (linesB []) = s := ⟨_, rfl⟩
      rw [hes] at te ⊢
      have HKN : Hid ((L.length : Int) = k) := Lib.hid (by have h : k = n := by simpa using hlen
                                                           rw [h, HLN.out])
      clear hrun hes hlen
      obtain ⟨kd, sz, su, wk, cp⟩ := c
      have hc := HC.out
      have c0 : wr.cell? ⟨w.heap.size + 1, 0, none⟩ = some (.int .i64 kd) := hc.cell 0
      have cf0 : wr.frozen? ⟨w.heap.size + 1, 0, none⟩ = false := hc.free 0
      have c1 : wr.cell? ⟨w.heap.size + 1, 1, none⟩ = some (.int .i64 sz) := hc.cell 1
      have cf1 : wr.frozen? ⟨w.heap.size + 1, 1, none⟩ = false := hc.free 1
      have c2 : wr.cell? ⟨w.heap.size + 1, 2, none⟩ = some (.int .i64 su) := hc.cell 2
      have cf2 : wr.frozen? ⟨w.heap.size + 1, 2, none⟩ = false := hc.free 2
      have c3 : wr.cell? ⟨w.heap.size + 1, 3, none⟩ = some (.int .i64 wk) := hc.cell 3
      have cf3 : wr.frozen? ⟨w.heap.size + 1, 3, none⟩ = false := hc.free 3
      have c4 : wr.cell? ⟨w.heap.size + 1, 4, none⟩ = some (.int .i64 cp) := hc.cell 4
      have cf4 : wr.frozen? ⟨w.heap.size + 1, 4, none⟩ = false := hc.free 4
      have c5 : wr.cell? ⟨w.heap.size + 1, 5, none⟩ = some (.slice none 0 0) := hc.cell 5
      have cf5 : wr.frozen? ⟨w.heap.size + 1, 5, none⟩ = false := hc.free 5
      clear hc
      simp only at HT
      have HNEW := Lib.hid (fun s => new_any 12 (k : Int) s wr)
      by_cases z1 : sz = 0 ∨ (kd = 3 ∧ su = 0)
      · rw [if_pos z1] at HT
        have hcs : sz = 0 ∨ (¬ sz = 0 ∧ kd = 3 ∧ su = 0) := by
          by_cases h : sz = 0
          · exact Or.inl h
          · exact Or.inr ⟨h, z1.resolve_left h⟩
        clear z1
        rcases hcs with h1 | ⟨h1, h2, h3⟩
        · subst h1
          go_wp2_with fail
          refine (HNEW.out _).mono ?_; rintro e w7 ⟨rfl, hw7⟩
          have HB7 : Hid (Below w.heap.size w w7) := by rw [← hw7]; exact Lib.hid (HB.out.alloc HB.out.size _)
          have hr7 : Whole w7 w.heap.size 29 zC := by rw [← hw7]; exact HR0.out.alloc _
          have hf7 : ∃ s, Whole w7 wr.heap.size 46 #[.int .i64 12, .int .i64 k, .string s] := by rw [← hw7]; exact ⟨_, Whole.new wr _ _⟩
          have HR7 := Lib.hid hr7; have HF7 := Lib.hid hf7; have HLT := Lib.hid HR0.out.lt
          have q0 : w7.cell? ⟨w.heap.size, 0, none⟩ = some (.int .i64 0) := hr7.cell 0
          have qf0 : w7.frozen? ⟨w.heap.size, 0, none⟩ = false := hr7.free 0
          have q1 : w7.cell? ⟨w.heap.size, 1, none⟩ = some (.int .i64 0) := hr7.cell 1
          have qf1 : w7.frozen? ⟨w.heap.size, 1, none⟩ = false := hr7.free 1
          have q2 : w7.cell? ⟨w.heap.size, 2, none⟩ = some (.int .i64 0) := hr7.cell 2
          have qf2 : w7.frozen? ⟨w.heap.size, 2, none⟩ = false := hr7.free 2
          have q3 : w7.cell? ⟨w.heap.size, 3, none⟩ = some (.int .i64 0) := hr7.cell 3
          have qf3 : w7.frozen? ⟨w.heap.size, 3, none⟩ = false := hr7.free 3
          have q4 : w7.cell? ⟨w.heap.size, 4, none⟩ = some (.int .i64 0) := hr7.cell 4
          have qf4 : w7.frozen? ⟨w.heap.size, 4, none⟩ = false := hr7.free 4
          have q5 : w7.cell? ⟨w.heap.size, 5, none⟩ = some (.slice none 0 0) := hr7.cell 5
          have qf5 : w7.frozen? ⟨w.heap.size, 5, none⟩ = false := hr7.free 5
          clear hw7 hr7 hf7
          go_wp2_with fail
          refine bodyPost_ret (results_conf rfl _ _ _ _ _ _ _ _ _ _ rfl rfl (whole_put6 HR7.out _ _ _ _ _ _)) rfl ⟨below_put6 HB7.out (Nat.le_refl _) _ _ _ _ _ _, Or.inl ⟨_, HT.out, _, rfl, ?_⟩⟩
          obtain ⟨s, hwb⟩ := HF7.out
          rw [HKN.out]
          exact ⟨_, s, rfl, other_put6 hwb (by have := HLT.out; omega) _ _ _ _ _ _⟩
        · subst h2 h3
          go_wp2_with fail
          refine (HNEW.out _).mono ?_; rintro e w7 ⟨rfl, hw7⟩
          have HB7 : Hid (Below w.heap.size w w7) := by rw [← hw7]; exact Lib.hid (HB.out.alloc HB.out.size _)
          have hr7 : Whole w7 w.heap.size 29 zC := by rw [← hw7]; exact HR0.out.alloc _
          have hf7 : ∃ s, Whole w7 wr.heap.size 46 #[.int .i64 12, .int .i64 k, .string s] := by rw [← hw7]; exact ⟨_, Whole.new wr _ _⟩
          have HR7 := Lib.hid hr7; have HF7 := Lib.hid hf7; have HLT := Lib.hid HR0.out.lt
          have q0 : w7.cell? ⟨w.heap.size, 0, none⟩ = some (.int .i64 0) := hr7.cell 0
          have qf0 : w7.frozen? ⟨w.heap.size, 0, none⟩ = false := hr7.free 0
          have q1 : w7.cell? ⟨w.heap.size, 1, none⟩ = some (.int .i64 0) := hr7.cell 1
          have qf1 : w7.frozen? ⟨w.heap.size, 1, none⟩ = false := hr7.free 1
          have q2 : w7.cell? ⟨w.heap.size, 2, none⟩ = some (.int .i64 0) := hr7.cell 2
          have qf2 : w7.frozen? ⟨w.heap.size, 2, none⟩ = false := hr7.free 2
          have q3 : w7.cell? ⟨w.heap.size, 3, none⟩ = some (.int .i64 0) := hr7.cell 3
          have qf3 : w7.frozen? ⟨w.heap.size, 3, none⟩ = false := hr7.free 3
          have q4 : w7.cell? ⟨w.heap.size, 4, none⟩ = some (.int .i64 0) := hr7.cell 4
          have qf4 : w7.frozen? ⟨w.heap.size, 4, none⟩ = false := hr7.free 4
          have q5 : w7.cell? ⟨w.heap.size, 5, none⟩ = some (.slice none 0 0) := hr7.cell 5
          have qf5 : w7.frozen? ⟨w.heap.size, 5, none⟩ = false := hr7.free 5
          clear hw7 hr7 hf7
          go_wp2_with fail
          refine bodyPost_ret (results_conf rfl _ _ _ _ _ _ _ _ _ _ rfl rfl (whole_put6 HR7.out _ _ _ _ _ _)) rfl ⟨below_put6 HB7.out (Nat.le_refl _) _ _ _ _ _ _, Or.inl ⟨_, HT.out, _, rfl, ?_⟩⟩
          obtain ⟨s, hwb⟩ := HF7.out
          rw [HKN.out]
          exact ⟨_, s, rfl, other_put6 hwb (by have := HLT.out; omega) _ _ _ _ _ _⟩
      · rw [if_neg z1] at HT
        have hcs : (¬ sz = 0 ∧ ¬ kd = 3) ∨ (¬ sz = 0 ∧ kd = 3 ∧ ¬ su = 0) := by
          by_cases h : kd = 3
          · exact Or.inr ⟨fun e => z1 (Or.inl e), h, fun e => z1 (Or.inr ⟨h, e⟩)⟩
          · exact Or.inl ⟨fun e => z1 (Or.inl e), h⟩
        clear z1
        have hr0 := HR0.out
        have q0 : wr.cell? ⟨w.heap.size, 0, none⟩ = some (.int .i64 0) := hr0.cell 0
        have qf0 : wr.frozen? ⟨w.heap.size, 0, none⟩ = false := hr0.free 0
        have q1 : wr.cell? ⟨w.heap.size, 1, none⟩ = some (.int .i64 0) := hr0.cell 1
        have qf1 : wr.frozen? ⟨w.heap.size, 1, none⟩ = false := hr0.free 1
        have q2 : wr.cell? ⟨w.heap.size, 2, none⟩ = some (.int .i64 0) := hr0.cell 2
        have qf2 : wr.frozen? ⟨w.heap.size, 2, none⟩ = false := hr0.free 2
        have q3 : wr.cell? ⟨w.heap.size, 3, none⟩ = some (.int .i64 0) := hr0.cell 3
        have qf3 : wr.frozen? ⟨w.heap.size, 3, none⟩ = false := hr0.free 3
        have q4 : wr.cell? ⟨w.heap.size, 4, none⟩ = some (.int .i64 0) := hr0.cell 4
        have qf4 : wr.frozen? ⟨w.heap.size, 4, none⟩ = false := hr0.free 4
        have q5 : wr.cell? ⟨w.heap.size, 5, none⟩ = some (.slice none 0 0) := hr0.cell 5
        have qf5 : wr.frozen? ⟨w.heap.size, 5, none⟩ = false := hr0.free 5
        clear hr0
        rcases hcs with ⟨h1, h2⟩ | ⟨h1, rfl, h3⟩
        · have t7 : decide (kd = 3) = false := decide_eq_false h2
          go_wp2_with fail
          all_goals exact bodyPost_ret (results_conf rfl _ _ _ _ _ _ _ _ _ _ rfl rfl (whole_put6 HR0.out _ _ _ _ _ _)) rfl ⟨below_put6 HB.out (Nat.le_refl _) _ _ _ _ _ _, Or.inr ⟨_, HT.out, rfl⟩⟩
        · have b1 : (sz == 0) = false := beq_eq_false_iff_ne.2 h1
          have b3 : (su == 0) = false := beq_eq_false_iff_ne.2 h3
          go_wp2_with fail
          exact bodyPost_ret (results_conf rfl _ _ _ _ _ _ _ _ _ _ rfl rfl (whole_put6 HR0.out _ _ _ _ _ _)) rfl ⟨below_put6 HB.out (Nat.le_refl _) _ _ _ _ _ _, Or.inr ⟨_, HT.out, rfl⟩⟩
    | cons p t =>
      clear hlen
      obtain ⟨⟨h32, h10, h10v⟩, hkp⟩ := HF.out p (List.mem_cons_self ..)
      have hF2 : ∀ q ∈ t, FineL q ∧ q.1 ≠ wKeep := fun q hq => HF.out q (List.mem_cons_of_mem _ hq)
      have HF2 := Lib.hid hF2
      have hcat : linesB (p :: t) = (p.1 ++ 32 :: p.2) ++ 10 :: linesB t := by rw [linesB_cons]; simp
      have hlens := HL2.out
      have hno : (10 : UInt8) ∉ p.1 ++ 32 :: p.2 := by
        intro h
        rcases List.mem_append.1 h with h | h
        · exact h10 h
        · rcases List.mem_cons.1 h with h | h
          · exact absurd h (by decide)
          · exact h10v h
      have hC1 := cut_at (linesB (p :: t)) 10 wr (HG.out.below HB.out (Nat.le_refl _)) (by omega)
      rw [hcat, cut_yes hno] at hC1
      rw [← hcat] at hC1
      have hlp : (p.1 ++ 32 :: p.2).length + (linesB t).length + 1 = (linesB (p :: t)).length := by rw [hcat]; simp; omega
      have hl3 : (linesB t).length ≤ 200000 := by omega
      have hlv : p.2.length ≤ 200000 := by simp at hlp; omega
      have hC2 := fun (W : World) (h : Below w.heap.size w W) => cut_at (p.1 ++ 32 :: p.2) 32 W (HG.out.below h (Nat.le_refl _)) (by omega)
      rw [cut_yes h32] at hC2
      simp only at hC1 hC2
      have hCON := fun (W : World) (v : Value) (h : W.ownsRow (w.heap.size + 2) 9 1 v k (strsL st)) => contains_any st p.1 h (by omega)
      have hSET := fun (W : World) (hb : Below w.heap.size w W) (h : Whole W (w.heap.size + 1) 29 (cV c)) => set_any c (w.heap.size + 1) p.1 p.2 hkp (by omega) W (HG.out.below hb (Nat.le_refl _)) h
      have te : ((str (linesB (p :: t))).toList == []) = false := by rw [str_toList, hcat, beq_eq_false_iff_ne]; simp
      have HL3 := Lib.hid hl3
      clear hlv hlp hl3 hno hcat hlens hF2 h32 h10 h10v hkp
      have tj : ((str p.1).toList == [106, 111, 98]) = decide (p.1 = wJob) := by rw [str_toList]; exact beq_dec p.1 _
      obtain ⟨ss, hss⟩ : ∃ s, str (linesB (p :: t)) = s := ⟨_, rfl⟩
      obtain ⟨ls, hls⟩ : ∃ s, str (p.1 ++ 32 :: p.2) = s := ⟨_, rfl⟩
      obtain ⟨ws, hws⟩ : ∃ s, str p.1 = s := ⟨_, rfl⟩
      obtain ⟨vs, hvs⟩ : ∃ s, str p.2 = s := ⟨_, rfl⟩
      obtain ⟨rs, hrs⟩ : ∃ s, str (linesB t) = s := ⟨_, rfl⟩
      rw [hss, hls, hrs] at hC1
      rw [hls, hws, hvs] at hC2
      rw [hws] at tj hCON
      rw [hws, hvs] at hSET
      rw [hss] at te ⊢
      have HC1 := Lib.hid hC1; have HC2 := Lib.hid hC2; have HCON := Lib.hid hCON; have HSET := Lib.hid hSET; have HRS := Lib.hid hrs; have HWS := Lib.hid hws
      obtain ⟨f1, hf1⟩ : ∃ f, decide (st = []) = f := ⟨_, rfl⟩
      obtain ⟨j1, hj1⟩ : ∃ f, decide (p.1 = wJob) = f := ⟨_, rfl⟩
      rw [hj1] at tj
      have tf : ((k : Int) == 0) = f1 := by
        rw [← hf1, ← HK.out]
        by_cases h : st = []
        · rw [decide_eq_true h, h]; rfl
        · rw [decide_eq_false h, beq_eq_false_iff_ne]
          exact fun e => h (List.length_eq_zero_iff.1 (by omega))
      have hfj : (f1 != j1) = true → tellP L = .inl k := fun h => tell_inl (by rw [HRUN.out, ← HK.out]; exact run_bad1 (Or.inl (by rw [hf1, hj1]; exact h)))
      have hmem : p.1 ∈ st → tellP L = .inl k := fun h => tell_inl (by rw [HRUN.out, ← HK.out]; exact run_bad1 (Or.inr h))
      have hset : setP c p.1 p.2 = none → tellP L = .inl k := fun h => tell_inl (by rw [HRUN.out, ← HK.out]; exact run_bad2 h)
      have hstep : ∀ c', (f1 != j1) = false → p.1 ∉ st → setP c p.1 p.2 = some c' → runP ⟨0, 0, 0, 1, 1000000⟩ [] L = runP c' (st ++ [p.1]) t := fun c' h1 h2 h3 => by rw [HRUN.out]; exact run_step (by rw [hf1, hj1]; exact h1) h2 h3
      have HFJ := Lib.hid hfj; have HMEM := Lib.hid hmem; have HSETN := Lib.hid hset; have HSTEP := Lib.hid hstep
      clear hfj hmem hset hstep hf1 hj1 hC1 hC2 hCON hSET hrs hws hvs hls hss
      go_wp2_with fail
      refine HC1.out.mono ?_; rintro e w1 ⟨rfl, hb1⟩
      have hB1 := HB.out.trans (hb1.mono HB.out.size)
      have HB1 := Lib.hid hB1; have HO1 := Lib.hid (own_below HOWN.out hb1 (Nat.le_refl _)); have HW1 := Lib.hid (HC.out.below hb1 HC.out.lt); have HR1 := Lib.hid (HR0.out.below hb1 HR0.out.lt)
      have HP2 := Lib.hid (HC2.out w1 hB1)
      clear hB1 hb1
      go_wp2_with fail
      refine HP2.out.mono ?_; rintro e w2 ⟨rfl, hb2⟩
      have hB2 := HB1.out.trans (hb2.mono HB1.out.size)
      have HB2 := Lib.hid hB2; have HO2 := Lib.hid (own_below HO1.out hb2 (Nat.le_refl _)); have HW2 := Lib.hid (HW1.out.below hb2 HW1.out.lt); have HR2 := Lib.hid (HR1.out.below hb2 HR1.out.lt)
      clear hB2 hb2
      by_cases hx : (f1 != j1) = true
      · have HT := Lib.hid (HFJ.out hx)
        have hne : ¬ f1 = j1 := by simpa using hx
        clear hx
        go_wp2_with fail
        refine (HIT.out _ HB2.out).mono ?_; rintro e w6 ⟨rfl, hb6⟩
        have hB6 := HB2.out.trans (hb6.mono HB2.out.size)
        have HB6 := Lib.hid hB6; have HR6 := Lib.hid (HR2.out.below hb6 HR2.out.lt)
        have HNEW := Lib.hid (fun s => new_any 12 (k : Int) s w6)
        clear hb6 hB6
        go_wp2_with fail
        refine (HNEW.out _).mono ?_; rintro e w7 ⟨rfl, hw7⟩
        have HB7 : Hid (Below w.heap.size w w7) := by rw [← hw7]; exact Lib.hid (HB6.out.alloc HB6.out.size _)
        have hr7 : Whole w7 w.heap.size 29 zC := by rw [← hw7]; exact HR6.out.alloc _
        have hf7 : ∃ s, Whole w7 w6.heap.size 46 #[.int .i64 12, .int .i64 k, .string s] := by rw [← hw7]; exact ⟨_, Whole.new w6 _ _⟩
        have HR7 := Lib.hid hr7; have HF7 := Lib.hid hf7; have HLT := Lib.hid HR6.out.lt
        have q0 : w7.cell? ⟨w.heap.size, 0, none⟩ = some (.int .i64 0) := hr7.cell 0
        have qf0 : w7.frozen? ⟨w.heap.size, 0, none⟩ = false := hr7.free 0
        have q1 : w7.cell? ⟨w.heap.size, 1, none⟩ = some (.int .i64 0) := hr7.cell 1
        have qf1 : w7.frozen? ⟨w.heap.size, 1, none⟩ = false := hr7.free 1
        have q2 : w7.cell? ⟨w.heap.size, 2, none⟩ = some (.int .i64 0) := hr7.cell 2
        have qf2 : w7.frozen? ⟨w.heap.size, 2, none⟩ = false := hr7.free 2
        have q3 : w7.cell? ⟨w.heap.size, 3, none⟩ = some (.int .i64 0) := hr7.cell 3
        have qf3 : w7.frozen? ⟨w.heap.size, 3, none⟩ = false := hr7.free 3
        have q4 : w7.cell? ⟨w.heap.size, 4, none⟩ = some (.int .i64 0) := hr7.cell 4
        have qf4 : w7.frozen? ⟨w.heap.size, 4, none⟩ = false := hr7.free 4
        have q5 : w7.cell? ⟨w.heap.size, 5, none⟩ = some (.slice none 0 0) := hr7.cell 5
        have qf5 : w7.frozen? ⟨w.heap.size, 5, none⟩ = false := hr7.free 5
        clear hw7 hr7 hf7
        go_wp2_with fail
        refine bodyPost_ret (results_conf rfl _ _ _ _ _ _ _ _ _ _ rfl rfl (whole_put6 HR7.out _ _ _ _ _ _)) rfl ⟨below_put6 HB7.out (Nat.le_refl _) _ _ _ _ _ _, Or.inl ⟨_, HT.out, _, rfl, ?_⟩⟩
        obtain ⟨s, hwb⟩ := HF7.out
        exact ⟨_, s, rfl, other_put6 hwb (by have := HLT.out; omega) _ _ _ _ _ _⟩
      · have hx' : (f1 != j1) = false := by simpa using hx
        have HX := Lib.hid hx'
        have hfe : f1 = j1 := by simpa using hx'
        subst hfe
        clear hx hx'
        have HP3 := Lib.hid (HCON.out w2 _ HO2.out)
        have HP4 := Lib.hid (HSET.out w2 HB2.out HW2.out)
        obtain ⟨zz, hzz⟩ : ∃ z, decide (p.1 ∈ st) = z := ⟨_, rfl⟩
        rw [hzz] at HP3
        have HZZ := Lib.hid hzz
        clear hzz
        go_wp2_with fail
        refine HP3.out.mono ?_; rintro e w3 ⟨rfl, hw⟩
        obtain rfl := hw.symm
        clear hw
        cases zz
        · go_wp2_with fail
          refine HP4.out.mono ?_; rintro e w3 ⟨hgr, hcase⟩
          have hB3 := HB2.out.grown hgr HB2.out.size (fun j hj => by cases hj; omega)
          have HB3 := Lib.hid hB3; have HO3 := Lib.hid (HO2.out.kept hgr (Or.inr (own_ne HO2.out HW2.out (by decide)))); have HR3 := Lib.hid (HR2.out.grown hgr (fun e => by injection e; omega))
          clear hB3 hgr
          rcases hcase with ⟨c', hc', rfl, hW3⟩ | ⟨hno, rfl⟩
          · have HRN := Lib.hid (HSTEP.out c' HX.out (of_decide_eq_false HZZ.out) hc')
            have HW3 := Lib.hid hW3
            have hs3 := hW3.lt
            clear hc' hW3
            go_wp2_with (at_builtin; refine wpList_app1 _ rfl _ _ 23 rfl (w.heap.size + 2) 9 i0 (.string ⟨#[]⟩) 16 Tryd.underlying23 hi hz0 hz1 hz2 rfl _ k _ rfl HO3.out _ rfl rfl (by omega) (by omega) (by omega) ?_)
            intro A' c2 w4 hown4 hgr4
            have HB4 := Lib.hid (app_below HB3.out (by omega) (by omega) HO3.out _ hgr4); have HO4 := Lib.hid hown4; have HW4 := Lib.hid (app_whole HW3.out HO3.out (by decide) _ hgr4); have HR4 := Lib.hid (app_whole HR3.out HO3.out (by decide) _ hgr4)
            clear hown4 hgr4
            go_wp2_with fail
            go_roundg t.length
            case rel => exact ⟨t, st ++ [p.1], c', rfl, HF2.out, HRN.out, by have := HLEN.out; simp at this ⊢; have := HK.out; omega, HL3.out, by rw [HRS.out], by rw [List.length_append, strsL_app, HK.out]; simpa [strsL, HWS.out] using HO4.out, HW4.out, HR4.out, HB4.out⟩
            case measure => simp
          · have HT := Lib.hid (HSETN.out hno)
            clear hno
            go_wp2_with fail
            refine (HIT.out _ HB3.out).mono ?_; rintro e w6 ⟨rfl, hb6⟩
            have hB6 := HB3.out.trans (hb6.mono HB3.out.size)
            have HB6 := Lib.hid hB6; have HR6 := Lib.hid (HR3.out.below hb6 HR3.out.lt)
            have HNEW := Lib.hid (fun s => new_any 12 (k : Int) s w6)
            clear hb6 hB6
            go_wp2_with fail
            refine (HNEW.out _).mono ?_; rintro e w7 ⟨rfl, hw7⟩
            have HB7 : Hid (Below w.heap.size w w7) := by rw [← hw7]; exact Lib.hid (HB6.out.alloc HB6.out.size _)
            have hr7 : Whole w7 w.heap.size 29 zC := by rw [← hw7]; exact HR6.out.alloc _
            have hf7 : ∃ s, Whole w7 w6.heap.size 46 #[.int .i64 12, .int .i64 k, .string s] := by rw [← hw7]; exact ⟨_, Whole.new w6 _ _⟩
            have HR7 := Lib.hid hr7; have HF7 := Lib.hid hf7; have HLT := Lib.hid HR6.out.lt
            have q0 : w7.cell? ⟨w.heap.size, 0, none⟩ = some (.int .i64 0) := hr7.cell 0
            have qf0 : w7.frozen? ⟨w.heap.size, 0, none⟩ = false := hr7.free 0
            have q1 : w7.cell? ⟨w.heap.size, 1, none⟩ = some (.int .i64 0) := hr7.cell 1
            have qf1 : w7.frozen? ⟨w.heap.size, 1, none⟩ = false := hr7.free 1
            have q2 : w7.cell? ⟨w.heap.size, 2, none⟩ = some (.int .i64 0) := hr7.cell 2
            have qf2 : w7.frozen? ⟨w.heap.size, 2, none⟩ = false := hr7.free 2
            have q3 : w7.cell? ⟨w.heap.size, 3, none⟩ = some (.int .i64 0) := hr7.cell 3
            have qf3 : w7.frozen? ⟨w.heap.size, 3, none⟩ = false := hr7.free 3
            have q4 : w7.cell? ⟨w.heap.size, 4, none⟩ = some (.int .i64 0) := hr7.cell 4
            have qf4 : w7.frozen? ⟨w.heap.size, 4, none⟩ = false := hr7.free 4
            have q5 : w7.cell? ⟨w.heap.size, 5, none⟩ = some (.slice none 0 0) := hr7.cell 5
            have qf5 : w7.frozen? ⟨w.heap.size, 5, none⟩ = false := hr7.free 5
            clear hw7 hr7 hf7
            go_wp2_with fail
            refine bodyPost_ret (results_conf rfl _ _ _ _ _ _ _ _ _ _ rfl rfl (whole_put6 HR7.out _ _ _ _ _ _)) rfl ⟨below_put6 HB7.out (Nat.le_refl _) _ _ _ _ _ _, Or.inl ⟨_, HT.out, _, rfl, ?_⟩⟩
            obtain ⟨s, hwb⟩ := HF7.out
            exact ⟨_, s, rfl, other_put6 hwb (by have := HLT.out; omega) _ _ _ _ _ _⟩
        · have HT := Lib.hid (HMEM.out (of_decide_eq_true HZZ.out))
          go_wp2_with fail
          refine (HIT.out _ HB2.out).mono ?_; rintro e w6 ⟨rfl, hb6⟩
          have hB6 := HB2.out.trans (hb6.mono HB2.out.size)
          have HB6 := Lib.hid hB6; have HR6 := Lib.hid (HR2.out.below hb6 HR2.out.lt)
          have HNEW := Lib.hid (fun s => new_any 12 (k : Int) s w6)
          clear hb6 hB6
          go_wp2_with fail
          refine (HNEW.out _).mono ?_; rintro e w7 ⟨rfl, hw7⟩
          have HB7 : Hid (Below w.heap.size w w7) := by rw [← hw7]; exact Lib.hid (HB6.out.alloc HB6.out.size _)
          have hr7 : Whole w7 w.heap.size 29 zC := by rw [← hw7]; exact HR6.out.alloc _
          have hf7 : ∃ s, Whole w7 w6.heap.size 46 #[.int .i64 12, .int .i64 k, .string s] := by rw [← hw7]; exact ⟨_, Whole.new w6 _ _⟩
          have HR7 := Lib.hid hr7; have HF7 := Lib.hid hf7; have HLT := Lib.hid HR6.out.lt
          have q0 : w7.cell? ⟨w.heap.size, 0, none⟩ = some (.int .i64 0) := hr7.cell 0
          have qf0 : w7.frozen? ⟨w.heap.size, 0, none⟩ = false := hr7.free 0
          have q1 : w7.cell? ⟨w.heap.size, 1, none⟩ = some (.int .i64 0) := hr7.cell 1
          have qf1 : w7.frozen? ⟨w.heap.size, 1, none⟩ = false := hr7.free 1
          have q2 : w7.cell? ⟨w.heap.size, 2, none⟩ = some (.int .i64 0) := hr7.cell 2
          have qf2 : w7.frozen? ⟨w.heap.size, 2, none⟩ = false := hr7.free 2
          have q3 : w7.cell? ⟨w.heap.size, 3, none⟩ = some (.int .i64 0) := hr7.cell 3
          have qf3 : w7.frozen? ⟨w.heap.size, 3, none⟩ = false := hr7.free 3
          have q4 : w7.cell? ⟨w.heap.size, 4, none⟩ = some (.int .i64 0) := hr7.cell 4
          have qf4 : w7.frozen? ⟨w.heap.size, 4, none⟩ = false := hr7.free 4
          have q5 : w7.cell? ⟨w.heap.size, 5, none⟩ = some (.slice none 0 0) := hr7.cell 5
          have qf5 : w7.frozen? ⟨w.heap.size, 5, none⟩ = false := hr7.free 5
          clear hw7 hr7 hf7
          go_wp2_with fail
          refine bodyPost_ret (results_conf rfl _ _ _ _ _ _ _ _ _ _ rfl rfl (whole_put6 HR7.out _ _ _ _ _ _)) rfl ⟨below_put6 HB7.out (Nat.le_refl _) _ _ _ _ _ _, Or.inl ⟨_, HT.out, _, rfl, ?_⟩⟩
          obtain ⟨s, hwb⟩ := HF7.out
          exact ⟨_, s, rfl, other_put6 hwb (by have := HLT.out; omega) _ _ _ _ _ _⟩
end Go.Proofs.YtbbdammdiplagaaDoor
