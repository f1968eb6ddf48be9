/- pat: cmp.Or, cmp.Compare, slices.Compare and slices.CompareFunc; the order of edges. -/
import Derived.Test.YtgolcogigpnbeaaGreatDoorPatRightP
import Derived.Sort.Grow
import Derived.StillTailTactics
import Derived.Lib.AppendIntMem
namespace Go.Proofs.YtgolcogigpnbeaaGreatDoor
open Go.RowKit
open Go.Sort (grow grow_grow alloc_eq_grow)

set_option maxRecDepth 100000 in
theorem cmp_ints (a b : Int) (w : World) : Calls Tryz.prog 41 #[.int .i64 a, .int .i64 b] w fun e w' => e = .returned (.int .i64 (cmp3 a b)) ∧ w' = w := by
  have N1 := fun (x : Int) (w : World) => show Calls Tryz.prog 73 #[.int .i64 x] w fun e w' => e = .returned (.bool false) ∧ w' = w by
    have t : (x != x) = false := by simp
    go_enter Tryz.func73, Tryz.ntmps73
    go_wp2
    go_ret
    exact ⟨rfl, rfl⟩
  have H1 := Lib.hid (N1 a w); have H2 := Lib.hid (N1 b w)
  clear N1
  by_cases h1 : a < b
  · have t1 : decide (a < b) = true := decide_eq_true h1
    have HR : Hid (cmp3 a b = -1) := Lib.hid (cmp3_lt h1)
    clear h1
    go_enter Tryz.func41, Tryz.ntmps41
    go_wp2_with fail
    refine H1.out.mono ?_; rintro e w1 ⟨rfl, hw1⟩; obtain rfl := hw1.symm
    go_wp2_with fail
    refine H2.out.mono ?_; rintro e w1 ⟨rfl, hw1⟩; obtain rfl := hw1.symm
    go_wp2_with fail
    go_ret
    exact ⟨by rw [HR.out]; rfl, rfl⟩
  · have t1 : decide (a < b) = false := decide_eq_false h1
    by_cases h2 : b < a
    · have t2 : decide (b < a) = true := decide_eq_true h2
      have HR : Hid (cmp3 a b = 1) := Lib.hid (cmp3_gt h1 h2)
      clear h1 h2
      go_enter Tryz.func41, Tryz.ntmps41
      go_wp2_with fail
      refine H1.out.mono ?_; rintro e w1 ⟨rfl, hw1⟩; obtain rfl := hw1.symm
      go_wp2_with fail
      refine H2.out.mono ?_; rintro e w1 ⟨rfl, hw1⟩; obtain rfl := hw1.symm
      go_wp2_with fail
      go_ret
      exact ⟨by rw [HR.out]; rfl, rfl⟩
    · have t2 : decide (b < a) = false := decide_eq_false h2
      have HR : Hid (cmp3 a b = 0) := Lib.hid (cmp3_eq h1 h2)
      clear h1 h2
      go_enter Tryz.func41, Tryz.ntmps41
      go_wp2_with fail
      refine H1.out.mono ?_; rintro e w1 ⟨rfl, hw1⟩; obtain rfl := hw1.symm
      go_wp2_with fail
      refine H2.out.mono ?_; rintro e w1 ⟨rfl, hw1⟩; obtain rfl := hw1.symm
      go_wp2_with fail
      go_ret
      exact ⟨by rw [HR.out]; rfl, rfl⟩

set_option maxRecDepth 100000 in
set_option maxHeartbeats 2000000 in
theorem slCompare_any (A B : List Int) (v u : Value) (w : World) (ha : SeqV w v A) (hb : SeqV w u B) (hl : A.length ≤ 1000000000) (_hm : B.length ≤ 1000000000) :
    Calls Tryz.prog 42 #[v, u] w fun e w' => e = .returned (.int .i64 (cmpL A B)) ∧ w' = w := by
  obtain ⟨Aa, ca, rfl⟩ := IntsV.form ha
  obtain ⟨Ab, cb, rfl⟩ := IntsV.form hb
  obtain ⟨n, hn⟩ : ∃ n, A.length = n := ⟨_, rfl⟩
  obtain ⟨m, hm⟩ : ∃ m, B.length = m := ⟨_, rfl⟩
  unfold SeqV at ha hb
  rw [hn] at ha hl ⊢
  rw [hm] at hb _hm ⊢
  have HA := Lib.hid ha; have HB := Lib.hid hb; have HN := Lib.hid hn; have HM := Lib.hid hm
  clear ha hb hn hm
  go_enter Tryz.func42, Tryz.ntmps42
  go_wp2_with fail
  go_loopg [11] n (fun g y wr => ∃ k, k ≤ n ∧ k ≤ m ∧ g = n - k ∧ y = .int .i64 (k : Nat) ∧ cmpL A B = cmpL (A.drop k) (B.drop k) ∧ wr = w)
  case atStart => exact ⟨0, by omega, by omega, rfl, rfl, rfl, rfl⟩
  case round =>
    obtain ⟨k, hk, hkm, rfl, rfl, heq, rfl⟩ := hrel
    have HE := Lib.hid heq
    clear heq
    by_cases hlt : k < n
    · obtain ⟨b, off, rfl, hcell⟩ := HA.out.pos hlt
      have hc := hcell k hlt
      obtain ⟨z, hz⟩ : ∃ z : Int, A.getD k 0 = z := ⟨_, rfl⟩
      have hc1 : wr.cell? ⟨b, off + k, none⟩ = some (.int .i64 z) := by rw [← hz]; exact hc
      have t1 : decide (k < n) = true := decide_eq_true hlt
      have i1 : (k : Int) < n := by omega
      have i2 : (0 : Int) ≤ k := by omega
      have HLT := Lib.hid hlt; have HZ := Lib.hid hz
      clear hcell hc hz hlt
      by_cases hltm : k < m
      · obtain ⟨b', off', rfl, hcell'⟩ := HB.out.pos hltm
        have hc' := hcell' k hltm
        obtain ⟨y, hy⟩ : ∃ z : Int, B.getD k 0 = z := ⟨_, rfl⟩
        have hc2 : wr.cell? ⟨b', off' + k, none⟩ = some (.int .i64 y) := by rw [← hy]; exact hc'
        have t2 : decide (m ≤ k) = false := decide_eq_false (by omega)
        have t2' : decide ((m : Int) ≤ k) = false := decide_eq_false (by omega)
        have i3 : (k : Int) < m := by omega
        have HST : Hid (cmpL A B = if z < y then -1 else if y < z then 1 else cmpL (A.drop (k + 1)) (B.drop (k + 1))) := Lib.hid (by
          rw [HE.out, cmpL_step (by rw [HN.out]; exact HLT.out) (by rw [HM.out]; exact hltm), HZ.out, hy])
        have HC := Lib.hid (cmp_ints z y wr)
        have HLM := Lib.hid hltm
        clear hcell' hc' hy hltm
        go_wp2_with fail
        refine HC.out.mono ?_; rintro e w1 ⟨rfl, hw1⟩; obtain rfl := hw1.symm
        by_cases h1 : z < y
        · have HF : Hid (cmpL A B = -1) := Lib.hid (by rw [HST.out, if_pos h1])
          rw [cmp3_lt h1]
          go_wp2_with fail
          go_ret
          exact ⟨by rw [HF.out]; rfl, rfl⟩
        · by_cases h2 : y < z
          · have HF : Hid (cmpL A B = 1) := Lib.hid (by rw [HST.out, if_neg h1, if_pos h2])
            rw [cmp3_gt h1 h2]
            go_wp2_with fail
            go_ret
            exact ⟨by rw [HF.out]; rfl, rfl⟩
          · have HF : Hid (cmpL A B = cmpL (A.drop (k + 1)) (B.drop (k + 1))) := Lib.hid (by rw [HST.out, if_neg h1, if_neg h2])
            rw [cmp3_eq h1 h2]
            go_wp2_with fail
            go_roundg (n - (k + 1))
            case rel => exact ⟨k + 1, HLT.out, HLM.out, rfl, by go_num, HF.out, rfl⟩
            case measure => have := HLT.out; omega
      · have t2 : decide (m ≤ k) = true := decide_eq_true (by omega)
        have t2' : decide ((m : Int) ≤ k) = true := decide_eq_true (by omega)
        have HF : Hid (cmpL A B = 1) := Lib.hid (by rw [HE.out, cmpL_endB (by rw [HM.out]; omega) (by rw [HN.out]; exact HLT.out)])
        clear hltm
        go_wp2_with fail
        go_ret
        exact ⟨by rw [HF.out]; rfl, rfl⟩
    · obtain rfl : k = n := by omega
      have t1 : decide (k < k) = false := by simp
      have HF : Hid (cmpL A B = if k < m then -1 else 0) := Lib.hid (by rw [HE.out, cmpL_endA (by rw [HN.out]; omega), HM.out])
      clear hlt
      by_cases hkm2 : k < m
      · have t2 : decide (k < m) = true := decide_eq_true hkm2
        have HG : Hid (cmpL A B = -1) := Lib.hid (by rw [HF.out, if_pos hkm2])
        clear hkm2
        go_wp2_with fail
        go_ret
        exact ⟨by rw [HG.out]; rfl, rfl⟩
      · have t2 : decide (k < m) = false := decide_eq_false hkm2
        have HG : Hid (cmpL A B = 0) := Lib.hid (by rw [HF.out, if_neg hkm2])
        clear hkm2
        go_wp2_with fail
        go_ret
        exact ⟨by rw [HG.out]; rfl, rfl⟩

set_option maxRecDepth 100000 in
set_option maxHeartbeats 2000000 in
theorem or_any (n : Nat) (Z : Nat → Int) (g : Nat) (r : Int) (w : World) (hn : n ≤ 100) (hc : ∀ i, i < n → w.cell? ⟨g, i, none⟩ = some (.int .i64 (Z i)))
    (hr : ∀ k, k < n → (∀ i, i < k → Z i = 0) → Z k ≠ 0 → r = Z k) (hr0 : (∀ i, i < n → Z i = 0) → r = 0) :
    Calls Tryz.prog 40 #[.slice (some ⟨g, 0, none⟩) n n] w fun e w' => e = .returned (.int .i64 r) ∧ w' = w := by
  have HC := Lib.hid hc; have HR := Lib.hid hr; have HR0 := Lib.hid hr0
  clear hc hr hr0
  go_enter Tryz.func40, Tryz.ntmps40
  go_wp2_with fail
  go_loopg [8] n (fun gh y wr => ∃ k, k ≤ n ∧ gh = n - k ∧ y = .int .i64 (k : Nat) ∧ (∀ i, i < k → Z i = 0) ∧ wr = w)
  case atStart => exact ⟨0, Nat.zero_le _, rfl, rfl, fun i h => absurd h (Nat.not_lt_zero i), rfl⟩
  case round =>
    obtain ⟨k, hk, rfl, rfl, ha, rfl⟩ := hrel
    have HA := Lib.hid ha
    clear ha
    by_cases hlt : k < n
    · have c0 := HC.out k hlt
      obtain ⟨z, hz⟩ : ∃ z, Z k = z := ⟨_, rfl⟩
      rw [hz] at c0
      have HZ := Lib.hid hz
      have HLT := Lib.hid hlt
      have t3 : decide (k < n) = true := decide_eq_true hlt
      have j1 : (k : Int) < n := by omega
      have j2 : (0 : Int) ≤ k := by omega
      clear hz hlt
      by_cases h : z = 0
      · have t1 : (z != 0) = false := by simp [h]
        have H := Lib.hid h
        clear h
        go_wp2_with fail
        go_roundg (n - (k + 1))
        case rel =>
          refine ⟨k + 1, HLT.out, rfl, by go_num, fun i hi => ?_, rfl⟩
          rcases Nat.lt_or_ge i k with h | h
          · exact HA.out i h
          · obtain rfl : i = k := by omega
            rw [HZ.out]
            exact H.out
        case measure => have := HLT.out; omega
      · have t1 : (z != 0) = true := by simpa using h
        have H : Hid (r = z) := Lib.hid (by rw [← HZ.out]; exact HR.out k HLT.out HA.out (by rw [HZ.out]; exact h))
        clear h
        go_wp2_with fail
        go_ret
        exact ⟨by rw [H.out]; rfl, rfl⟩
    · obtain rfl : k = n := by omega
      have t3 : decide (k < k) = false := by simp
      have H : Hid (r = 0) := Lib.hid (HR0.out HA.out)
      clear hlt
      go_wp2_with fail
      go_ret
      exact ⟨by rw [H.out]; rfl, rfl⟩

def edgeV (e : Int × Int) : Value := .agg #[.int .i64 e.1, .int .i64 e.2]
set_option maxRecDepth 100000 in
set_option maxHeartbeats 2000000 in
theorem cmpEdges_any (x y : Int × Int) (W : World) :
    Calls Tryz.prog 44 #[edgeV x, edgeV y] W fun e w' => e = .returned (.int .i64 (cmpE x y)) ∧ ∃ q os', w' = grow (W.drewN q) os' := by
  obtain ⟨a, b⟩ := x
  obtain ⟨c, d⟩ := y
  have C1 := fun W' => cmp_ints a c W'
  have C2 := fun W' => cmp_ints b d W'
  unfold cmpE edgeV
  simp only
  generalize cmp3 a c = p at C1 ⊢
  generalize cmp3 b d = q at C2 ⊢
  have H1 := Lib.hid C1; have H2 := Lib.hid C2
  clear C1 C2
  obtain ⟨r, hr⟩ : ∃ r, (if p = 0 then q else p) = r := ⟨_, rfl⟩
  rw [hr]
  have HO : Hid (Calls Tryz.prog 40 #[.slice (some ⟨W.heap.size + 1 + 1, 0, none⟩) 2 2] (((W.alloc (.cells #[.int .i64 a, .int .i64 b] 62)).alloc (.cells #[.int .i64 c, .int .i64 d] 62)).alloc (.cells #[.int .i64 p, .int .i64 q] 3)).drew fun e w' => e = .returned (.int .i64 r) ∧ w' = (((W.alloc (.cells #[.int .i64 a, .int .i64 b] 62)).alloc (.cells #[.int .i64 c, .int .i64 d] 62)).alloc (.cells #[.int .i64 p, .int .i64 q] 3)).drew) := Lib.hid (by
    have h := Whole.new ((W.alloc (.cells #[.int .i64 a, .int .i64 b] 62)).alloc (.cells #[.int .i64 c, .int .i64 d] 62)) 3 #[.int .i64 p, .int .i64 q]
    rw [World.size_alloc, World.size_alloc] at h
    rw [← hr]
    refine or_any 2 (fun i => if i = 0 then p else q) _ _ _ (by omega) (fun i hi => ?_) (fun k hk h0 h1 => ?_) (fun h0 => ?_)
    · rcases (by omega : i = 0 ∨ i = 1) with rfl | rfl
      · exact (h.drewN 1).cell 0
      · exact (h.drewN 1).cell 1
    · rcases (by omega : k = 0 ∨ k = 1) with rfl | rfl
      · simp at h1
        simp [h1]
      · have := h0 0 (by omega)
        simp at this
        simp [this]
    · have e0 := h0 0 (by omega)
      have e1 := h0 1 (by omega)
      simp at e0 e1
      simp [e0, e1])
  clear hr
  go_enter Tryz.func44, Tryz.ntmps44
  go_wp2_with fail
  refine wp_region_still_tail 10 (by kernel_rfl) (by kernel_rfl) ?_
  simp only [List.take_succ_cons, List.take_zero, List.drop_succ_cons, List.drop_zero]
  change wpStill _ _ (World.drew _) _ _ _
  still_step
  still_step
  still_step
  still_step
  still_call (H1.out _)
  still_step
  still_step
  still_step
  still_step
  still_call (H2.out _)
  refine wpStill_nil ?_
  change wpList _ _ _ _ _ (World.drew _)
  go_wp2_with fail
  refine HO.out.mono ?_
  rintro e' w5 ⟨rfl, hw5⟩
  have HW5 := Lib.hid hw5
  clear hw5
  go_wp2_with fail
  go_ret
  refine ⟨rfl, 1, #[.cells #[.int .i64 a, .int .i64 b] 62, .cells #[.int .i64 c, .int .i64 d] 62, .cells #[.int .i64 p, .int .i64 q] 3], ?_⟩
  rw [HW5.out, alloc_eq_grow, alloc_eq_grow, alloc_eq_grow, grow_grow, grow_grow]
  rfl
theorem below_growD (W : World) (q : Nat) (os : Array Obj) : Below W.heap.size W (grow (W.drewN q) os) := Lib.below_grow _ W (Nat.le_refl _) q os
theorem cmpEdges_below (x y : Int × Int) (W : World) :
    Calls Tryz.prog 44 #[edgeV x, edgeV y] W fun e w' => e = .returned (.int .i64 (cmpE x y)) ∧ Below W.heap.size W w' :=
  (cmpEdges_any x y W).mono fun _ _ ⟨he, q, os, hw⟩ => ⟨he, by rw [hw]; exact below_growD W q os⟩
end Go.Proofs.YtgolcogigpnbeaaGreatDoor
