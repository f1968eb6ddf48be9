/- The text of what is right, read back; Edges. -/
import Derived.Test.YtbbdammdiplagaaGreatDoorConfU
import Derived.Test.YtbbdammdiplagaaGreatDoorConfT2
import Derived.Test.YtbbdammdiplagaaGreatDoorConf3K
namespace Go.Proofs.YtbbdammdiplagaaGreatDoor
open Go.RowKit

theorem rightKB_iff {kd sz su wk cp : Int} {O : List (Int × Int)} : rightKB ⟨⟨kd, sz, su, wk, cp⟩, O⟩ = true ↔ (1 ≤ kd ∧ kd ≤ 3) ∧ supB ⟨⟨kd, sz, su, wk, cp⟩, O⟩ = true ∧ (1 ≤ sz ∧ sz ≤ 8) ∧ (1 ≤ wk ∧ wk ≤ 64) ∧ (1 ≤ cp ∧ cp ≤ 1000000) ∧ O.length ≤ 15 ∧ progF O = none := by
  unfold rightKB
  simp only [Bool.and_eq_true, decide_eq_true_iff, Option.isNone_iff_eq_none]
theorem tell_text {kd : Int} {sz su wk cp : Nat} {O : List (Int × Int)} (h : rightKB ⟨⟨kd, sz, su, wk, cp⟩, O⟩ = true) : tellK (confT ⟨⟨kd, sz, su, wk, cp⟩, O⟩) = .inr ⟨⟨kd, sz, su, wk, cp⟩, O⟩ := by
  obtain ⟨h0, hs, h2, h3, h4, h5, h6⟩ := rightKB_iff.1 h
  have hl : 7 ≤ (confT ⟨⟨kd, sz, su, wk, cp⟩, O⟩).length := by
    unfold confT
    simp only [List.length_append, lineB_len]
    have e1 : wJob.length = 3 := rfl
    have e2 : wSize.length = 4 := rfl
    omega
  obtain ⟨m, hm⟩ : ∃ m, (confT ⟨⟨kd, sz, su, wk, cp⟩, O⟩).length = m + 7 := ⟨_, (Nat.sub_add_cancel hl).symm⟩
  have hsup : (kd = 3 → 1 ≤ su ∧ su ≤ 1000000) ∧ (kd ≠ 3 → su = 0) := by
    unfold supB at hs
    constructor
    · intro hk
      rw [if_pos hk] at hs
      have := of_decide_eq_true hs
      simp only at this
      omega
    · intro hk
      rw [if_neg hk] at hs
      have := of_decide_eq_true hs
      simp only at this
      omega
  obtain ⟨k, hr⟩ := run_text m kd sz su wk cp O (by omega) (by omega) hsup.1 hsup.2 (by omega) (by omega) h5 h6
  rw [← hm] at hr
  rw [tellK_inr hr, if_neg]
  simp only
  rintro (g | ⟨g1, g2⟩)
  · omega
  · have := hsup.1 g1
    omega
theorem edges_any22 (kd sz su wk cp : Int) (kv : Value) (w : World) : Calls Tryz.prog 17 #[.agg (cV ⟨kd, sz, su, wk, cp⟩ kv)] w fun e w' => e = .returned (.bool (kd == 3)) ∧ Below w.heap.size w w' := by
  have HB := Lib.hid ((Below.refl w.heap.size w).alloc (Nat.le_refl _) (.cells (cV ⟨kd, sz, su, wk, cp⟩ kv) 29))
  have hx := Whole.new w 29 (cV ⟨kd, sz, su, wk, cp⟩ kv)
  obtain ⟨w1, hw1⟩ : ∃ W, w.alloc (.cells (cV ⟨kd, sz, su, wk, cp⟩ kv) 29) = W := ⟨_, rfl⟩
  rw [hw1] at HB hx
  have x0 : w1.cell? ⟨w.heap.size, 0, none⟩ = some (.int .i64 kd) := hx.cell 0
  have HW1 := Lib.hid hw1
  clear hx hw1
  go_enter Tryz.func17, Tryz.ntmps17
  go_upto_region 1 with fail
  rw [HW1.out]
  go_wp2_with fail
  go_ret
  exact ⟨rfl, HB.out⟩
end Go.Proofs.YtbbdammdiplagaaGreatDoor
