/- odag: Paths of none tells nothing. -/
import Derived.Test.YtcmocigckcjdjaaGreatDoorOdag1
import Derived.Test.YtcmocigckcjdjaaGreatDoorRange
import Derived.TacticsInMore
import Derived.OwnWalkIn
namespace Go.Proofs.YtcmocigckcjdjaaGreatDoor
open Go.RowKit
attribute [local go_sem] Oper.semAt_some

theorem paths_make (po : Option Addr) (w : World) : Calls Tryz.prog 13 #[.pointer po] w fun e w' =>
    e = .returned (.func (.func 37) #[] #[.pointer (some ⟨w.heap.size, 0, none⟩)]) ∧ w' = w.alloc (.cells #[.pointer po] 24) := by
  go_enter Tryz.func13, Tryz.ntmps13
  go_wp2_with fail
  go_ret
  exact ⟨rfl, rfl⟩
theorem below_some13 {w w' : World} {r : Nat} (h : Below w.heap.size w w') : w.grownBy w' (some r) := ⟨h.os, h.tape, h.output, h.size, fun i hi _ => h.block i hi⟩
set_option maxRecDepth 100000 in
set_option maxHeartbeats 2000000 in
theorem paths_none {w : World} {Bo : Nat} (Cp : Nat → Prop) (e : TypeId) (L : Nat → List Int) (hr : w.cell? ⟨Bo, 0, none⟩ = some (.pointer none)) :
    IterOk Tryz.prog 37 #[.pointer (some ⟨Bo, 0, none⟩)] Cp e 0 L w := by
  intro l J Jx W hW hJ _ _ hI0
  have HJ := Lib.hid hJ; have HI := Lib.hid hI0
  obtain ⟨W1, hW1⟩ : ∃ X, W.alloc (.cells #[.func (.yield l) #[] #[]] 69) = X := ⟨_, rfl⟩
  have hb1 : Below W.heap.size W W1 := by rw [← hW1]; exact (Below.refl _ _).alloc (Nat.le_refl _) _
  have c1 : W1.cell? ⟨Bo, 0, none⟩ = some (.pointer none) := by
    have hl := World.block_lt_of_cell? _ _ hr
    exact ((hW.trans (hb1.mono hW.size)).cell (p := ⟨Bo, 0, none⟩) hl).trans hr
  have LN := Lib.hid (len_nil W1)
  have HW1 := Lib.hid hW1; have HB1 := Lib.hid hb1
  clear hJ hI0 hW hr hW1 hb1
  refine callsIn_wide.2 ?_
  show Calls Tryz.prog 37 #[.func (.yield l) #[] #[], .pointer (some ⟨Bo, 0, none⟩)] W _
  go_enter Tryz.func37, Tryz.ntmps37
  go_upto_region 1 with fail
  rw [HW1.out]
  go_wp2_with fail
  refine LN.out.mono ?_; rintro e w2 ⟨rfl, hw2⟩
  obtain rfl := hw2.symm
  go_wp2_with fail
  refine bodyPost_ret (results_none rfl _ _ _) rfl ?_
  exact ⟨⟨_, rfl⟩, W.heap.size, Nat.le_refl _, Or.inl (HJ.out _ 0 W _ (Nat.le_refl _) (HI.out _ (Nat.le_refl _)) (below_some13 HB1.out))⟩
end Go.Proofs.YtcmocigckcjdjaaGreatDoor
