/- WirePuts: the law. -/
import Derived.Test.YtkpoeahnlldpgaaDoorRefPut
namespace Go.Proofs.YtkpoeahnlldpgaaDoor
open Go.RowKit

set_option maxRecDepth 100000 in
set_option maxHeartbeats 4000000 in
theorem puts_law (n : Nat) (I : Nat → ItemR) (v : Value) (w : World) (hg : ErrT w) (h : ItemsV w v n I) :
    Calls Tryd.prog 3 #[v] w fun e w' => e = .returned (.bool true) ∧ Below w.heap.size w w' := by
  obtain ⟨A, c, rfl⟩ := h.form
  have H := Lib.hid h; have HG := Lib.hid hg
  have AL := Lib.hid (alive_ok w hg)
  clear h hg
  by_cases hfar : farN I n = true
  · go_enter Tryd.func3, Tryd.ntmps3
    go_wp2_with fail
    refine AL.out.mono ?_; rintro e w1 ⟨rfl, hb1⟩
    have F1 := far_any n I _ w1 (H.out.below hb1 (Nat.le_refl _))
    rw [hfar] at F1
    have HF1 := Lib.hid F1; have HB1 := Lib.hid hb1
    clear F1 hb1 hfar
    go_wp2_with fail
    refine HF1.out.mono ?_; rintro e w2 ⟨rfl, hw2⟩; obtain rfl := hw2.symm
    go_wp2_with fail
    go_ret
    exact ⟨rfl, HB1.out⟩
  · have hfar' : farN I n = false := by simpa using hfar
    have hok : FarOk I n := farN_no hfar'
    have HOK := Lib.hid hok
    have hlen := itemsB_len hok n (Nat.le_refl _)
    have h40 := hok.1
    obtain ⟨L, hL⟩ : ∃ L, itemsB I n = L := ⟨_, rfl⟩
    rw [hL] at hlen
    have hLL : L.length ≤ 9760 := by omega
    obtain ⟨E, hE⟩ : ∃ E, itemsE I n = E := ⟨_, rfl⟩
    have HL := Lib.hid hL; have HE := Lib.hid hE
    have HFAR := Lib.hid hfar'
    clear hfar hfar' hok hlen h40 hL hE
    go_enter Tryd.func3, Tryd.ntmps3
    go_wp2_with fail
    refine AL.out.mono ?_; rintro e w1 ⟨rfl, hb1⟩
    have hI1 := H.out.below hb1 (Nat.le_refl _)
    have F1 := far_any n I _ w1 hI1
    rw [HFAR.out] at F1
    have P1 := lput_any n I _ w1 hI1 HOK.out
    rw [HL.out, HE.out] at P1
    have HF1 := Lib.hid F1; have HB1 := Lib.hid hb1; have HP1 := Lib.hid P1
    clear F1 hb1 P1 hI1
    go_wp2_with fail
    refine HF1.out.mono ?_; rintro e w2 ⟨rfl, hw2⟩; obtain rfl := hw2.symm
    go_wp2_with fail
    refine HP1.out.mono ?_; rintro e w2 ⟨rfl, hw2, hb2⟩
    have hB2 := HB1.out.trans (hb2.mono HB1.out.size)
    have R2 := refPut_any n I _ w2 (H.out.below hB2 (Nat.le_refl _)) HOK.out
    rw [HL.out, HE.out] at R2
    have HR2 := Lib.hid R2; have HW2 := Lib.hid hw2; have HB2 := Lib.hid hB2
    clear hw2 hb2 hB2 R2
    go_wp2_with fail
    refine HR2.out.mono ?_; rintro e w3 ⟨v3, rfl, ho3, hb3⟩
    have hw3 := HW2.out.below hb3
    have Y3 := Lib.hid (wbytes_any _ _ L _ w3 hw3 (by omega))
    have HBV3 := Lib.hid (own_bytesV ho3)
    have HW3 := Lib.hid hw3
    have HB3 := Lib.hid (HB2.out.trans (hb3.mono HB2.out.size))
    obtain ⟨A3, c3, rfl⟩ := own_form ho3
    clear ho3 hb3 hw3
    go_wp2_with fail
    refine Y3.out.mono ?_; rintro e w4 ⟨v4, rfl, ho4, hb4⟩
    have S4 := Lib.hid (refSame_true L _ _ w4 (own_bytesV ho4) (HBV3.out.below hb4 (Nat.le_refl _)) (by omega))
    have HW4 := Lib.hid (HW3.out.below hb4)
    have HB4 := Lib.hid (HB3.out.trans (hb4.mono HB3.out.size))
    obtain ⟨A4, c4, rfl⟩ := own_form ho4
    clear ho4 hb4
    go_wp2_with fail
    refine S4.out.mono ?_; rintro e w5 ⟨rfl, d5, hw5⟩
    have hb5 : Below w.heap.size w w5 := by rw [hw5]; exact below_drewN' HB4.out d5
    have hW5 : WriterAt w5 w1.heap.size w1.heap.size L E := by
      rw [hw5]
      have h1 : Below w4.heap.size w4 (w4.drewN d5) := below_drewN' (Below.refl _ _) d5
      exact HW4.out.below h1
    have E5 := Lib.hid (werr_any _ _ _ _ w5 hW5)
    have HB5 := Lib.hid hb5
    clear hw5 hb5 hW5
    go_wp2_with fail
    refine E5.out.mono ?_; rintro e w6 ⟨v6, rfl, hv6, hw6⟩; obtain rfl := hw6.symm
    cases E with
    | none =>
      obtain rfl : v6 = .nilIface := hv6
      have tb : decide (badI none < 0) = true := rfl
      have tb2 : badI none = -1 := rfl
      rw [tb2]
      go_wp2_with fail
      go_ret
      exact ⟨rfl, HB5.out⟩
    | some p =>
      obtain ⟨b6, s6, rfl, hF⟩ := hv6
      have tb2 : badI (some p) = (p : Int) := rfl
      have tb : decide ((p : Int) < 0) = false := decide_eq_false (by omega)
      have hg6 : ErrT w5 := HG.out.below HB5.out (Nat.le_refl _)
      have C6 := Lib.hid (code_hit b6 3 w5 hg6 (by rw [hF.cell 0]; rfl))
      have HF := Lib.hid hF; have HG6 := Lib.hid hg6
      rw [tb2]
      clear hF hg6 tb2
      go_wp2_with fail
      refine C6.out.mono ?_; rintro e w7 ⟨rfl, hb7⟩
      have A7 := Lib.hid (at_hit b6 (p : Int) w7 (HG6.out.below hb7 (Nat.le_refl _)) (by rw [(HF.out.below hb7 HF.out.lt).cell 1]; rfl))
      have HB7 := Lib.hid (HB5.out.trans (hb7.mono HB5.out.size))
      clear hb7
      go_wp2_with fail
      refine A7.out.mono ?_; rintro e w8 ⟨rfl, hb8⟩
      have HB8 := Lib.hid (HB7.out.trans (hb8.mono HB7.out.size))
      clear hb8
      go_wp2_with fail
      go_ret
      exact ⟨rfl, HB8.out⟩
end Go.Proofs.YtkpoeahnlldpgaaDoor
