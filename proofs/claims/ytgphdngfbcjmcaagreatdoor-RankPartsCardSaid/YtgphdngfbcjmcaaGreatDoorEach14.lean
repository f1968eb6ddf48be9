/- rank: Total, Each where nothing is told. -/
import Derived.Test.YtgphdngfbcjmcaaGreatDoorRank5
import Derived.Test.YtgphdngfbcjmcaaGreatDoorRange
import Derived.Sort.LoopGhostIn
import Derived.TacticsInMore
import Derived.OwnWalkIn
import Derived.RegionIn
import Derived.LoopNIn
import Derived.LoopIn
namespace Go.Proofs.YtgphdngfbcjmcaaGreatDoor
open Go.RowKit
attribute [local go_sem] Oper.semAt_some

/-- How many paths there are. -/
def totP (n : Nat) (C : List (List Int)) : Nat := ((rowP C 0).map (cntP C (n - 1) 0)).sum
theorem total_nil (w : World) : Calls Tryz.prog 12 #[.pointer none] w fun e w' => e = .returned (.int .i64 0) ∧ Below w.heap.size w w' := by
  go_enter Tryz.func12, Tryz.ntmps12
  go_wp2_with fail
  go_ret
  exact ⟨rfl, Below.refl _ _⟩
theorem rtotal_any {w : World} {v : Value} {n : Nat} {C : List (List Int)} (h : RanksV w v n C) (hC : C.length ≤ 100000) : Calls Tryz.prog 12 #[v] w fun e w' => e = .returned (.int .i64 (totP n C)) ∧ Below w.heap.size w w' := by
  obtain ⟨rb, tt, ends, rfl, _, c1, c2, _, he⟩ := h
  have TT := total_any (vt := tt) he (by rw [endsL_len]; have := row_len C 0; omega)
  rw [lastE_ends, show ((rowP C 0).map (cntP C (n - 1) 0)).sum = totP n C from rfl] at TT
  obtain ⟨k, hk⟩ : ∃ k, totP n C = k := ⟨_, rfl⟩
  rw [hk] at TT ⊢
  have HT := Lib.hid TT
  obtain ⟨Ae, ce, rfl⟩ := IntsV.form he
  clear TT hk he
  go_enter Tryz.func12, Tryz.ntmps12
  go_wp2_with fail
  refine HT.out.mono ?_; rintro e w1 ⟨rfl, hb⟩
  have HB := Lib.hid hb
  clear hb
  go_wp2_with fail
  go_ret
  exact ⟨rfl, HB.out⟩
theorem each_any (po : Option Addr) (f t : Int) (w : World) : Calls Tryz.prog 17 #[.pointer po, .agg #[.int .i64 f, .int .i64 t]] w fun e w' =>
    e = .returned (.func (.func 36) #[] #[.pointer (some ⟨w.heap.size + 1, 0, none⟩), .pointer (some ⟨w.heap.size, 0, none⟩)]) ∧ w' = (w.alloc (.cells #[.pointer po] 28)).alloc (.cells #[.int .i64 f, .int .i64 t] 46) := by
  go_enter Tryz.func17, Tryz.ntmps17
  go_wp2_with fail
  go_ret
  exact ⟨rfl, rfl⟩
theorem below_some {w w' : World} {r : Nat} (h : Below w.heap.size w w') : w.grownBy w' (some r) := ⟨h.os, h.tape, h.output, h.size, fun i hi _ => h.block i hi⟩
set_option maxRecDepth 100000 in
set_option maxHeartbeats 2000000 in
/-- A part of nothing tells nothing. -/
theorem each_none {po : Option Addr} {f t tot : Int} {w : World} {Bp Br : Nat} (Cp : Nat → Prop) (e : TypeId) (L : Nat → List Int) (hr : w.cell? ⟨Br, 0, none⟩ = some (.pointer po)) (h0 : w.cell? ⟨Bp, 0, none⟩ = some (.int .i64 f)) (h1 : w.cell? ⟨Bp, 1, none⟩ = some (.int .i64 t))
    (hT : ∀ W, Below w.heap.size w W → Calls Tryz.prog 12 #[.pointer po] W fun e w' => e = .returned (.int .i64 tot) ∧ Below W.heap.size W w') (hc : min t tot ≤ max f 0) :
    IterOk Tryz.prog 36 #[.pointer (some ⟨Bp, 0, none⟩), .pointer (some ⟨Br, 0, none⟩)] Cp e 0 L w := by
  intro l J Jx W hW hJ _ _ hI0
  have HJ := Lib.hid hJ; have HI := Lib.hid hI0
  obtain ⟨W1, hW1⟩ : ∃ X, W.alloc (.cells #[.func (.yield l) #[] #[]] 84) = X := ⟨_, rfl⟩
  have hb1 : Below W.heap.size W W1 := by rw [← hW1]; exact (Below.refl _ _).alloc (Nat.le_refl _) _
  have hbw : Below w.heap.size w W1 := hW.trans (hb1.mono hW.size)
  have TT := Lib.hid (fun X (hX : Below W1.heap.size W1 X) => hT X (hbw.trans (hX.mono hbw.size)))
  have HW1 := Lib.hid hW1; have HB1 := Lib.hid hb1
  have KS := Lib.hid (fun X (hX : Below W1.heap.size W1 X) => And.intro hX (And.intro (cell_below (cell_below hr hbw (Nat.le_refl _)) hX (Nat.le_refl _)) (And.intro (cell_below (cell_below h0 hbw (Nat.le_refl _)) hX (Nat.le_refl _)) (cell_below (cell_below h1 hbw (Nat.le_refl _)) hX (Nat.le_refl _)))))
  obtain ⟨fm, hfm⟩ : ∃ x, max f 0 = x := ⟨_, rfl⟩
  obtain ⟨tm, htm⟩ : ∃ x, min t tot = x := ⟨_, rfl⟩
  rw [hfm, htm] at hc
  have t9 : decide (tm ≤ fm) = true := decide_eq_true hc
  have HFM := Lib.hid hfm; have HTM := Lib.hid htm
  clear hJ hI0 hW hr h0 h1 hT hW1 hb1 hbw hc hfm htm
  refine callsIn_wide.2 ?_
  show Calls Tryz.prog 36 #[.func (.yield l) #[] #[], .pointer (some ⟨Bp, 0, none⟩), .pointer (some ⟨Br, 0, none⟩)] W _
  go_enter Tryz.func36, Tryz.ntmps36
  go_upto_region 1 with fail
  rw [HW1.out]
  go_region_held3 (fun X => Below W1.heap.size W1 X ∧ X.cell? ⟨Br, 0, none⟩ = some (.pointer po) ∧ X.cell? ⟨Bp, 0, none⟩ = some (.int .i64 f) ∧ X.cell? ⟨Bp, 1, none⟩ = some (.int .i64 t))
    (exact KS.out _ (by first | assumption | exact below_drewN' (Below.refl _ _) 1))
    ((go_at_call 12; refine (TT.out _ (by first | assumption | exact below_drewN' (Below.refl _ _) 1)).mono ?_; rintro e' wR ⟨rfl, hbR0⟩; have hbR := Below.trans (B := W1.heap.size) (by first | assumption | exact below_drewN' (Below.refl W1.heap.size _) 1) (hbR0.mono (by first | exact Below.size (by assumption) | exact Nat.le_refl _))))
  all_goals
    try rw [HFM.out]
    try rw [HTM.out]
    go_wp2_with fail
    refine bodyPost_ret (results_none rfl _ _ _) rfl ?_
    exact ⟨⟨_, rfl⟩, W.heap.size, Nat.le_refl _, Or.inl (HJ.out _ 0 W _ (Nat.le_refl _) (HI.out _ (Nat.le_refl _)) (below_some (HB1.out.trans ((by assumption : Below W1.heap.size W1 _).mono HB1.out.size))))⟩
end Go.Proofs.YtgphdngfbcjmcaaGreatDoor
