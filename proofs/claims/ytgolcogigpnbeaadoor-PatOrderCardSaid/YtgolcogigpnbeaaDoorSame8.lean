/- Layer 8: Same. -/
import Derived.Test.YtgolcogigpnbeaaDoorPat9
namespace Go.Proofs.YtgolcogigpnbeaaDoor
open Go.RowKit

theorem sameI_list (L M : List Int) : sameI (fun i => L.getD i 0) L.length (fun i => M.getD i 0) M.length = decide (L = M) := by
  unfold sameI
  by_cases h : L = M
  · subst h
    rw [decide_eq_true rfl, decide_eq_true rfl, Bool.true_and, eqUpto_iff]
    exact fun i _ => rfl
  · rw [decide_eq_false h]
    by_cases hl : L.length = M.length
    · rw [decide_eq_true hl, Bool.true_and]
      cases he : eqUpto (fun i => L.getD i 0) (fun i => M.getD i 0) L.length with
      | false => rfl
      | true =>
        refine absurd (List.ext_getElem hl fun i h1 h2 => ?_) h
        have := eqUpto_iff.1 he i h1
        simpa [List.getD, h1, h2] using this
    · rw [decide_eq_false hl, Bool.false_and]
theorem edges_ext {E F : List (Int × Int)} (hl : E.length = F.length) (h : ∀ i, i < E.length → E.getD i (0, 0) = F.getD i (0, 0)) : E = F :=
  List.ext_getElem hl fun i h1 h2 => by
    have := h i h1
    rwa [getD_at h1, getD_at h2] at this

set_option maxRecDepth 100000 in
set_option maxHeartbeats 4000000 in
theorem same_any {w : World} {vl ve vm vf : Value} {L M : List Int} {E F : List (Int × Int)} (hl : SeqV w vl L) (he : EdgesV w ve E) (hm : SeqV w vm M) (hf : EdgesV w vf F)
    (k1 : L.length ≤ 1000000) (k2 : E.length ≤ 1000000) (k4 : F.length ≤ 1000000) :
    Calls Tryd.prog 9 #[.agg #[vl, ve], .agg #[vm, vf]] w fun e w' => e = .returned (.bool (decide (L = M ∧ E = F))) ∧ Below w.heap.size w w' := by
  obtain ⟨Al, cl, rfl⟩ := IntsV.form hl
  obtain ⟨Ae, ce, rfl⟩ := he.form
  obtain ⟨Am, cm, rfl⟩ := IntsV.form hm
  obtain ⟨Af, cf, rfl⟩ := hf.form
  have hb1 : Below w.heap.size w ((w.alloc (.cells #[.slice Al L.length cl, .slice Ae E.length ce] 29)).alloc (.cells #[.slice Am M.length cm, .slice Af F.length cf] 25)) := ((Below.refl _ _).alloc (Nat.le_refl _) _).alloc (by simp) _
  have hx := (Whole.new w 29 #[.slice Al L.length cl, .slice Ae E.length ce]).alloc (.cells #[.slice Am M.length cm, .slice Af F.length cf] 25)
  have hy := Whole.new (w.alloc (.cells #[.slice Al L.length cl, .slice Ae E.length ce] 29)) 25 #[.slice Am M.length cm, .slice Af F.length cf]
  rw [World.size_alloc] at hy
  obtain ⟨w1, hw1⟩ : ∃ W, (w.alloc (.cells #[.slice Al L.length cl, .slice Ae E.length ce] 29)).alloc (.cells #[.slice Am M.length cm, .slice Af F.length cf] 25) = W := ⟨_, rfl⟩
  rw [hw1] at hb1 hx hy
  obtain ⟨xb, hxb⟩ : ∃ g, w.heap.size = g := ⟨_, rfl⟩
  rw [hxb] at hx hy
  have SI := sameInts_any L.length M.length (fun i => L.getD i 0) (fun i => M.getD i 0) _ _ w1 (hl.below hb1 (Nat.le_refl _)) (hm.below hb1 (Nat.le_refl _)) (by omega)
  rw [sameI_list] at SI
  have he1 := he.below hb1 (Nat.le_refl _)
  have hf1 := hf.below hb1 (Nat.le_refl _)
  obtain ⟨R, hR⟩ : ∃ R, decide (L = M ∧ E = F) = R := ⟨_, rfl⟩
  rw [hR]
  have HR := Lib.hid hR
  obtain ⟨n1, hn1⟩ : ∃ n, L.length = n := ⟨_, rfl⟩
  obtain ⟨n2, hn2⟩ : ∃ n, M.length = n := ⟨_, rfl⟩
  obtain ⟨m1, hm1⟩ : ∃ n, E.length = n := ⟨_, rfl⟩
  obtain ⟨m2, hm2⟩ : ∃ n, F.length = n := ⟨_, rfl⟩
  rw [hn1, hn2] at SI hw1 ⊢
  rw [hm1, hm2] at hw1 ⊢
  rw [hn1, hm1] at hx
  rw [hn2, hm2] at hy
  rw [hm1] at he1 k2
  rw [hm2] at hf1 k4
  obtain ⟨z, hz⟩ : ∃ z, decide (L = M) = z := ⟨_, rfl⟩
  rw [hz] at SI
  have x0 : w1.cell? ⟨xb, 0, none⟩ = some (.slice Al n1 cl) := hx.cell 0
  have x1 : w1.cell? ⟨xb, 1, none⟩ = some (.slice Ae m1 ce) := hx.cell 1
  have y0 : w1.cell? ⟨xb + 1, 0, none⟩ = some (.slice Am n2 cm) := hy.cell 0
  have y1 : w1.cell? ⟨xb + 1, 1, none⟩ = some (.slice Af m2 cf) := hy.cell 1
  have HSI := Lib.hid SI; have HE := Lib.hid he1; have HF := Lib.hid hf1; have HM1 := Lib.hid hm1; have HM2 := Lib.hid hm2; have HZ := Lib.hid hz; have HB1 := Lib.hid hb1; have HW1 := Lib.hid hw1; have HXB := Lib.hid hxb
  clear hl he hm hf k1 hb1 hx hy hw1 hxb SI he1 hf1 hR hn1 hn2 hm1 hm2 hz
  cases z with
  | false =>
    have HQ : Hid (R = false) := Lib.hid (by rw [← HR.out]; exact decide_eq_false (fun h => of_decide_eq_false HZ.out h.1))
    go_enter Tryd.func9, Tryd.ntmps9
    go_upto_region 1 with fail
    rw [HW1.out, HXB.out]
    go_wp2_with fail
    refine HSI.out.mono ?_; rintro e w2 ⟨rfl, d, rfl⟩
    go_wp2_with fail
    go_ret
    exact ⟨by rw [HQ.out]; rfl, below_drewN' HB1.out _⟩
  | true =>
    by_cases hmm : m1 = m2
    · subst hmm
      have t0 : ((m1 : Int) != m1) = false := by simp
      go_enter Tryd.func9, Tryd.ntmps9
      go_upto_region 1 with fail
      rw [HW1.out, HXB.out]
      go_wp2_with fail
      refine HSI.out.mono ?_; rintro e w2 ⟨rfl, d, rfl⟩
      go_wp2_with fail
      go_loopg [5] m1 (fun g y wr => ∃ k, k ≤ m1 ∧ g = m1 - k ∧ y = .int .i64 (k : Nat) ∧ (∀ i, i < k → E.getD i (0, 0) = F.getD i (0, 0)) ∧ ∃ d, wr = w1.drewN d)
      case atStart => exact ⟨0, Nat.zero_le _, rfl, rfl, fun i hi => absurd hi (Nat.not_lt_zero i), _, rfl⟩
      case round =>
        obtain ⟨k, hk, rfl, rfl, hall, d2, rfl⟩ := hrel
        have HALL := Lib.hid hall
        clear hall
        by_cases hlt : k < m1
        · obtain ⟨b, off, rfl, d0, d1⟩ := HE.out.pos (i := k) (by rw [HM1.out]; exact hlt)
          obtain ⟨b', off', rfl, f0, f1⟩ := HF.out.pos (i := k) (by rw [HM2.out]; exact hlt)
          obtain ⟨x, hx⟩ : ∃ x, E.getD k (0, 0) = x := ⟨_, rfl⟩
          obtain ⟨y, hy⟩ : ∃ y, F.getD k (0, 0) = y := ⟨_, rfl⟩
          rw [hx] at d0 d1
          rw [hy] at f0 f1
          have HX := Lib.hid hx; have HY := Lib.hid hy
          obtain ⟨a, q⟩ := x
          obtain ⟨c, r⟩ := y
          simp only at d0 d1 f0 f1
          have t3 : decide (k < m1) = true := decide_eq_true hlt
          have j1 : (k : Int) < m1 := by omega
          have j2 : (0 : Int) ≤ k := by omega
          have HLT := Lib.hid hlt
          have e1 := neq_refEdge a q c r
          have e2 := guard_refEdge
          clear hlt hx hy
          by_cases hxy : (a, q) = (c, r)
          · have HXY := Lib.hid hxy
            rw [decide_eq_true hxy] at e1
            clear hxy
            go_wp2_with fail
            go_quiet (fail)
            go_wp2_with fail
            go_roundg (m1 - (k + 1))
            case rel =>
              refine ⟨k + 1, HLT.out, rfl, by go_num, fun i hi => ?_, _, rfl⟩
              rcases Nat.lt_or_ge i k with h | h
              · exact HALL.out i h
              · obtain rfl : i = k := by omega
                rw [HX.out, HY.out]
                exact HXY.out
            case measure => have := HLT.out; omega
          · have HQ : Hid (R = false) := Lib.hid (by
              rw [← HR.out]
              refine decide_eq_false (fun h => hxy ?_)
              rw [← HX.out, ← HY.out, h.2])
            rw [decide_eq_false hxy] at e1
            clear hxy
            go_wp2_with fail
            go_quiet (fail)
            go_wp2_with fail
            go_ret
            exact ⟨by rw [HQ.out]; rfl, below_drewN' (below_drewN' HB1.out _) _⟩
        · obtain rfl : k = m1 := by omega
          have t3 : decide (k < k) = false := by simp
          have HQ : Hid (R = true) := Lib.hid (by
            rw [← HR.out]
            exact decide_eq_true ⟨of_decide_eq_true HZ.out, edges_ext (by rw [HM1.out, HM2.out]) (by rw [HM1.out]; exact HALL.out)⟩)
          clear hlt
          go_wp2_with fail
          go_ret
          exact ⟨by rw [HQ.out]; rfl, below_drewN' HB1.out _⟩
    · have t0 : ((m1 : Int) != m2) = true := by simp; omega
      have HQ : Hid (R = false) := Lib.hid (by rw [← HR.out]; exact decide_eq_false (fun h => hmm (by rw [← HM1.out, ← HM2.out, h.2])))
      clear hmm
      go_enter Tryd.func9, Tryd.ntmps9
      go_upto_region 1 with fail
      rw [HW1.out, HXB.out]
      go_wp2_with fail
      refine HSI.out.mono ?_; rintro e w2 ⟨rfl, d, rfl⟩
      go_wp2_with fail
      go_ret
      exact ⟨by rw [HQ.out]; rfl, below_drewN' HB1.out _⟩
end Go.Proofs.YtgolcogigpnbeaaDoor
