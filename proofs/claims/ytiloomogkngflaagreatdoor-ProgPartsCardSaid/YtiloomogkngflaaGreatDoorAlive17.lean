/- Layer 17: the chapter's example. -/
import Derived.Test.YtiloomogkngflaaGreatDoorParse17
import Derived.Test.YtiloomogkngflaaGreatDoorText17
import Derived.Test.YtiloomogkngflaaGreatDoorKeeps17
namespace Go.Proofs.YtiloomogkngflaaGreatDoor
open Go.RowKit

def aText : List UInt8 := [99, 108, 105, 113, 117, 101, 59, 108, 97, 98, 101, 108, 115, 32, 51]
def bText : List UInt8 := [99, 108, 105, 113, 117, 101, 32, 49]
theorem aText_is : progT [(1, 0), (2, 3)] = aText := by
  have h : Lib.decDigits 3 = [51] := by kernel_rfl
  show joinB 59 [opT (1, 0), opT (2, 3)] = aText
  have e : opT (2, 3) = nameB 2 ++ 32 :: Lib.decDigits 3 := rfl
  rw [e, h]
  rfl
theorem aText_right : progF [(1, 0), (2, 3)] = none := by decide
theorem bText_no : parse1 bText = none := by
  have h : Lib.cut bText [32] = (nameB 1, [49], true) := cut_yes (p := nameB 1) (q := [49]) (b := 32) (by decide)
  unfold parse1
  rw [h]
  rw [if_pos]
  exact Or.inr (by decide)
theorem bText_one {P : List (List UInt8)} (hP : P ≠ []) (hj : joinB 59 P = bText) (hx : ∀ x ∈ P, (59 : UInt8) ∉ x) : P = [bText] :=
  joinB_inj2 hP (by simp) hx (fun p hp => by rw [List.mem_singleton.1 hp]; decide) hj
theorem parse_bad17 (w : World) (hg : GT w) : Calls Tryz.prog 10 #[.string (str bText)] w fun e w' => ∃ p u, e = .returned (.tuple #[.slice none 0 0, u]) ∧ FaultAt 2 p w' u ∧ Below w.heap.size w w' := by
  refine (progParse_any bText (by decide) w hg).mono ?_
  rintro e w' ⟨hb, ⟨v, O, rfl, hv, h1, h2⟩ | ⟨c, p, u, P, rfl, hf, hs, hP, hj, hx, hor⟩⟩
  · exfalso
    have r := (progF_none.1 h1).2
    have h0 : O ≠ [] := fun e => by subst e; exact absurd h2 (by decide)
    have := parts_of r (P := [bText]) (by simp) h0 (fun p hp => by rw [List.mem_singleton.1 hp]; decide) h2
    rw [parseL, bText_no] at this
    cases this
  · obtain rfl := bText_one hP hj hx
    rcases hor with ⟨rfl, _⟩ | ⟨O, h1, _⟩
    · exact ⟨p, u, rfl, hf, hb⟩
    · rw [parseL, bText_no] at h1; cases h1
set_option maxRecDepth 100000 in
set_option maxHeartbeats 4000000 in
theorem alive_ok (w : World) (hg : GT w) : Calls Tryz.prog 6 #[] w fun e w' => e = .returned (.bool true) ∧ Below w.heap.size w w' := by
  have P1 := progParse_any aText (by decide) w hg
  rw [← aText_is] at P1
  have P1 : Calls Tryz.prog 10 #[.string ⟨#[99, 108, 105, 113, 117, 101, 59, 108, 97, 98, 101, 108, 115, 32, 51]⟩] w (ParseTo (progT [(1, 0), (2, 3)]) w) := by rw [aText_is] at P1 ⊢; exact P1
  have HP1 := Lib.hid P1; have HG := Lib.hid hg
  have HP2 : Hid (∀ W, GT W → Calls Tryz.prog 10 #[.string ⟨#[99, 108, 105, 113, 117, 101, 32, 49]⟩] W fun e w' => ∃ p u, e = .returned (.tuple #[.slice none 0 0, u]) ∧ FaultAt 2 p w' u ∧ Below W.heap.size W w') := Lib.hid parse_bad17
  clear hg P1
  go_enter Tryz.func6, Tryz.ntmps6
  go_wp2_with fail
  refine HP1.out.mono ?_
  rintro e w1 hto
  obtain ⟨v, rfl, hv, hb1⟩ := hto.right aText_right
  obtain ⟨A1, c1, rfl⟩ := hv.form
  have HV := Lib.hid hv; have HB1 := Lib.hid hb1
  have HPB := Lib.hid (HP2.out w1 (HG.out.below hb1 (Nat.le_refl _)))
  clear hto hv hb1
  go_wp2_with fail
  refine HPB.out.mono ?_
  rintro e w2 ⟨p, u, rfl, hf, hb2⟩
  have hb := HB1.out.trans (hb2.mono HB1.out.size)
  have hg2 := HG.out.below hb (Nat.le_refl _)
  have TX := progText_any hg2 (HV.out.below hb2 (Nat.le_refl _)) (by decide) (by decide)
  rw [aText_is] at TX
  have HTX : Hid (Calls Tryz.prog 9 #[.slice A1 2 c1] w2 fun e w' => e = .returned (.string ⟨#[99, 108, 105, 113, 117, 101, 59, 108, 97, 98, 101, 108, 115, 32, 51]⟩) ∧ Below w2.heap.size w2 w') := Lib.hid TX
  have HV2 := Lib.hid (HV.out.below hb2 (Nat.le_refl _)); have HF := Lib.hid hf; have HB2 := Lib.hid hb; have HG2 := Lib.hid hg2
  clear hf hb2 hb hg2 TX
  go_wp2_with fail
  refine HTX.out.mono ?_; rintro e w3 ⟨rfl, hb3⟩
  have hb := HB2.out.trans (hb3.mono HB2.out.size)
  have HCD := Lib.hid (code_f7 (HF.out.below hb3 (Nat.le_refl _)) (HG.out.below hb (Nat.le_refl _)).et)
  have HV3 := Lib.hid (HV2.out.below hb3 (Nat.le_refl _)); have HB3 := Lib.hid hb
  clear hb3 hb
  go_wp2_with fail
  refine HCD.out.mono ?_; rintro e w4 ⟨rfl, hb4⟩
  have hb := HB3.out.trans (hb4.mono HB3.out.size)
  have HV4 := Lib.hid (HV3.out.below hb4 (Nat.le_refl _)); have HB4 := Lib.hid hb
  have hb5 := hb.alloc hb.size (.cells #[.int .i64 3] 3)
  have hx := Whole.new w4 3 #[.int .i64 3]
  have hv5 := HV4.out.below ((Below.refl w4.heap.size w4).alloc (Nat.le_refl _) (.cells #[.int .i64 3] 3)) (Nat.le_refl _)
  have hL : SeqV (w4.alloc (.cells #[.int .i64 3] 3)) (.slice (some ⟨w4.heap.size, 0, none⟩) 1 1) [3] := Or.inr ⟨by decide, _, 0, _, rfl, fun i hi => by
    obtain rfl : i = 0 := by simpa using hi
    exact hx.cell 0⟩
  have KP := keeps_any (vo := .slice A1 2 c1) (ve := .slice none 0 0) (O := [(1, 0), (2, 3)]) (L := [3]) (E := []) hv5 (by decide) (by unfold Plain; decide) hL (Or.inl ⟨rfl, _, _, rfl⟩) (by decide) (by decide)
  rw [show keepsB [(1, 0), (2, 3)] [3] [] = true by decide] at KP
  have HKP := Lib.hid KP; have HB5 := Lib.hid hb5
  clear hb4 hb hb5 hx hv5 hL KP
  go_wp2_with fail
  refine HKP.out.mono ?_; rintro e w6 ⟨rfl, hb6⟩
  have HB6 := Lib.hid (HB5.out.trans (hb6.mono HB5.out.size))
  clear hb6
  go_wp2_with fail
  go_ret
  exact ⟨rfl, HB6.out⟩
end Go.Proofs.YtiloomogkngflaaGreatDoor
