/- Who has not worked; pass: refused. Pass, refused; calls that a machine refuses. -/
import Derived.Test.YtlopoddllfkkfaaDoorBsp7
namespace Go.Proofs.YtlopoddllfkkfaaDoor
section
open Go.RowKit

theorem bools_pos {w : World} {b : Nat} {X : List Bool} (h : Whole w b 4 (boolC X).toArray) {i : Nat} (hi : i < X.length) : w.cell? ⟨b, i, none⟩ = some (.bool (X.getD i false)) := by
  rw [h.cell i, List.getElem?_toArray, boolC_at hi]
set_option maxRecDepth 100000 in
set_option maxHeartbeats 4000000 in
theorem indexBool_any {w : World} {b k : Nat} {X : List Bool} (h : Whole w b 4 (boolC X).toArray) (hk : X.length = k) (hk2 : k ≤ 1000000) :
    Calls Tryd.prog 50 #[.slice (some ⟨b, 0, none⟩) k k, .bool false] w fun e w' => (∃ r : Int, e = .returned (.int .i64 r) ∧ (decide (0 ≤ r) = !(X.all id))) ∧ w' = w := by
  have HH := Lib.hid h; have HK := Lib.hid hk
  clear h hk
  go_enter Tryd.func50, Tryd.ntmps50
  go_wp2_with fail
  go_loopg [8] k (fun g y wr => ∃ i, i ≤ k ∧ g = k - i ∧ y = .int .i64 (i : Nat) ∧ (X.take i).all id = true ∧ w = wr)
  case atStart => exact ⟨0, Nat.zero_le _, rfl, rfl, rfl, rfl⟩
  case round =>
    obtain ⟨i, hi, rfl, rfl, hall, rfl⟩ := hrel
    have HALL := Lib.hid hall
    by_cases hlt : i < k
    · have hc := bools_pos HH.out (show i < X.length by rw [HK.out]; exact hlt)
      obtain ⟨x, hx⟩ : ∃ x, X.getD i false = x := ⟨_, rfl⟩
      rw [hx] at hc
      have HX := Lib.hid hx
      have hsn : (X.take (i + 1)).all id = x := by
        rw [take_snocT (d := false) (by rw [HK.out]; exact hlt), List.all_append, hall, hx]
        simp
      have HSN := Lib.hid hsn
      have t7 : decide (i < k) = true := decide_eq_true hlt
      have t7' : decide ((i : Int) < k) = true := decide_eq_true (by omega)
      have i1 : (i : Int) < k := by omega
      have HLT := Lib.hid hlt
      clear hx hsn hall hlt hi
      cases x
      · have HNO : Hid ((X.all id) = false) := Lib.hid (by
          have h := HSN.out
          rw [← List.take_append_drop (i + 1) X, List.all_append, h]
          rfl)
        go_wp2_with fail
        go_ret
        exact ⟨⟨_, rfl, by rw [HNO.out, decide_eq_true (by omega)]; rfl⟩, rfl⟩
      · go_wp2_with fail
        go_roundg (k - (i + 1))
        case rel => exact ⟨i + 1, HLT.out, rfl, rfl, HSN.out, rfl⟩
        case measure => have := HLT.out; omega
    · have t7 : decide (i < k) = false := decide_eq_false hlt
      have t7' : decide ((i : Int) < k) = false := decide_eq_false (by omega)
      have HYES : Hid ((X.all id) = true) := Lib.hid (by
        have h := hall
        rwa [List.take_of_length_le (by rw [HK.out]; omega)] at h)
      clear hlt hi hall
      go_wp2_with fail
      go_ret
      exact ⟨⟨_, rfl, by rw [HYES.out]; rfl⟩, rfl⟩
set_option maxRecDepth 100000 in
set_option maxHeartbeats 4000000 in
theorem containsBool_any {w : World} {b k : Nat} {X : List Bool} (h : Whole w b 4 (boolC X).toArray) (hk : X.length = k) (hk2 : k ≤ 1000000) :
    Calls Tryd.prog 37 #[.slice (some ⟨b, 0, none⟩) k k, .bool false] w fun e w' => e = .returned (.bool (!(X.all id))) ∧ w' = w := by
  have IX := Lib.hid (indexBool_any h hk hk2)
  obtain ⟨r0, hr0⟩ : ∃ r, (!(X.all id)) = r := ⟨_, rfl⟩
  rw [hr0] at IX ⊢
  clear h hk hr0
  go_enter Tryd.func37, Tryd.ntmps37
  go_wp2_with fail
  refine IX.out.mono ?_; rintro e w1 ⟨⟨r, rfl, hr⟩, rfl⟩
  go_wp2_with fail
  go_ret
  exact ⟨rfl, rfl⟩
end

section
open Go.RowKit

/-- Refused: a fault of a code at a place; the machine is as before. -/
def NoTo (c a : Int) (w : World) (e : Ending) (w' : World) : Prop := (∃ u, e = .returned u ∧ FaultAt c a w' u) ∧ Below w.heap.size w w'
section
variable {w : World} {base N : Nat} {p : MP} {job : Value} {m : Nat} {R : Nat → Prop}
set_option maxRecDepth 100000 in
set_option maxHeartbeats 4000000 in
theorem mpass_not (h : MachB w base N p job m R) (hk : p.wk.all id = false) :
    Calls Tryd.prog 17 #[.pointer (some ⟨m, 0, none⟩)] w (NoTo 5 0 w) := by
  obtain ⟨nb, wb, ib, b, sv, us, Rn, h, rfl⟩ := h
  have CB := Lib.hid (containsBool_any h.work h.l5 (by have := h.k2; omega))
  rw [hk] at CB
  have HF := Lib.hid (newF 5 0 ⟨#[119, 111, 114, 107, 101, 114, 32, 104, 97, 115, 110, 39, 116, 32, 119, 111, 114, 107, 101, 100]⟩ w)
  obtain ⟨sb, so, sc, _, _, _, _, _, _, c5, _⟩ := h.cells
  clear h
  go_enter Tryd.func17, Tryd.ntmps17
  go_wp2_with fail
  refine CB.out.mono ?_; rintro e w1 ⟨rfl, hw⟩; obtain rfl := hw.symm; clear hw
  go_wp2_with fail
  refine HF.out.mono ?_; rintro e w1 ⟨fb, rfl, hf, hb⟩
  have HFF := Lib.hid hf; have HBB := Lib.hid hb
  clear hf hb
  go_wp2_with fail
  go_ret
  exact ⟨⟨_, rfl, HFF.out⟩, HBB.out⟩
set_option maxRecDepth 100000 in
set_option maxHeartbeats 4000000 in
theorem mpass_late (h : MachB w base N p job m R) (hk : p.wk.all id = true) {q : Int} (hq : p.nt.miss = q) (hq0 : q ≠ 0) :
    Calls Tryd.prog 17 #[.pointer (some ⟨m, 0, none⟩)] w (NoTo 13 q w) := by
  obtain ⟨nb, wb, ib, b, sv, us, Rn, h, rfl⟩ := h
  have CB := Lib.hid (containsBool_any h.work h.l5 (by have := h.k2; omega))
  rw [hk] at CB
  have QU := Lib.hid (quiet_any h.net.at)
  rw [hq, show (q == 0) = false from beq_eq_false_iff_ne.2 hq0] at QU
  have MI := Lib.hid (missing_any h.net.at)
  rw [hq] at MI
  have HF := Lib.hid (newF 13 q ⟨#[108, 101, 116, 116, 101, 114, 115, 32, 97, 114, 101, 32, 109, 105, 115, 115, 105, 110, 103]⟩ w)
  obtain ⟨sb, so, sc, _, _, _, _, _, _, c5, c6⟩ := h.cells
  clear h hq hq0
  go_enter Tryd.func17, Tryd.ntmps17
  go_wp2_with fail
  refine CB.out.mono ?_; rintro e w1 ⟨rfl, hw⟩; obtain rfl := hw.symm; clear hw
  go_wp2_with fail
  refine QU.out.mono ?_; rintro e w1 ⟨rfl, hw⟩; obtain rfl := hw.symm; clear hw
  go_wp2_with fail
  refine MI.out.mono ?_; rintro e w1 ⟨rfl, hw⟩; obtain rfl := hw.symm; clear hw
  go_wp2_with fail
  refine HF.out.mono ?_; rintro e w1 ⟨fb, rfl, hf, hb⟩
  have HFF := Lib.hid hf; have HBB := Lib.hid hb
  clear hf hb
  go_wp2_with fail
  go_ret
  exact ⟨⟨_, rfl, HFF.out⟩, HBB.out⟩
set_option maxRecDepth 100000 in
set_option maxHeartbeats 4000000 in
theorem mwork_range (h : MachB w base N p job m R) (i : Int) (hi : ¬ (0 ≤ i ∧ i < p.k)) :
    Calls Tryd.prog 12 #[.pointer (some ⟨m, 0, none⟩), .int .i64 i] w (NoTo 3 0 w) := by
  obtain ⟨nb, wb, ib, b, sv, us, Rn, h, rfl⟩ := h
  have C := Lib.hid (mcheck_any h i)
  rw [show inW p.k i = 3 from if_neg hi] at C
  clear h hi
  go_enter Tryd.func12, Tryd.ntmps12
  go_wp2_with fail
  refine C.out.mono ?_; rintro e w1 ⟨hb, ⟨h0, _⟩ | ⟨_, u, rfl, hf⟩⟩
  · exact absurd h0 (by decide)
  obtain ⟨fb, s, rfl, hw⟩ := hf
  have HF := Lib.hid (show FaultAt 3 0 w1 (.iface 69 (.pointer (some ⟨fb, 0, none⟩))) from ⟨fb, s, rfl, hw⟩)
  have HB := Lib.hid hb
  clear hb hw
  go_wp2_with fail
  go_ret
  exact ⟨⟨_, rfl, HF.out⟩, HB.out⟩
set_option maxRecDepth 100000 in
set_option maxHeartbeats 4000000 in
theorem mwork_again (h : MachB w base N p job m R) (a : Nat) (ha : a < p.k) (hw1 : p.wk.getD a false = true) :
    Calls Tryd.prog 12 #[.pointer (some ⟨m, 0, none⟩), .int .i64 (a : Int)] w (NoTo 4 0 w) := by
  obtain ⟨nb, wb, ib, b, sv, us, Rn, h, rfl⟩ := h
  have C := Lib.hid (mcheck_any h (a : Int))
  rw [show inW p.k (a : Int) = 0 from if_pos (by omega)] at C
  have HH := Lib.hid h
  clear h
  go_enter Tryd.func12, Tryd.ntmps12
  go_wp2_with fail
  refine C.out.mono ?_; rintro e w1 ⟨hb, ⟨_, rfl⟩ | ⟨h0, _⟩⟩
  case inr => exact absurd rfl h0
  have h1 := HH.out.below hb (Nat.le_refl _)
  obtain ⟨sb, so, sc, _, _, _, _, _, _, c5, _⟩ := h1.cells
  have d5 := bools_pos h1.work (show a < p.wk.length by rw [h1.l5]; exact ha)
  rw [hw1] at d5
  obtain ⟨k, hk⟩ : ∃ k, p.k = k := ⟨_, rfl⟩
  rw [hk] at ha c5
  have t1 : decide (a < k) = true := decide_eq_true ha
  have i1 : (a : Int) < k := by omega
  have HB := Lib.hid hb
  have HF := Lib.hid (newF 4 0 ⟨#[119, 111, 114, 107, 101, 114, 32, 104, 97, 115, 32, 119, 111, 114, 107, 101, 100]⟩ w1)
  clear h1 hb hk hw1
  go_wp2_with fail
  refine HF.out.mono ?_; rintro e w2 ⟨fb, rfl, hf, hb⟩
  have HFF := Lib.hid hf; have HBB := Lib.hid (HB.out.trans (hb.mono HB.out.size))
  clear hf hb
  go_wp2_with fail
  go_ret
  exact ⟨⟨_, rfl, HFF.out⟩, HBB.out⟩
set_option maxRecDepth 100000 in
set_option maxHeartbeats 4000000 in
theorem mworked_in (h : MachB w base N p job m R) (a : Nat) (ha : a < p.k) :
    Calls Tryd.prog 21 #[.pointer (some ⟨m, 0, none⟩), .int .i64 (a : Int)] w fun e w' => e = .returned (.bool (p.wk.getD a false)) ∧ Below w.heap.size w w' := by
  obtain ⟨nb, wb, ib, b, sv, us, Rn, h, rfl⟩ := h
  have C := Lib.hid (mcheck_any h (a : Int))
  rw [show inW p.k (a : Int) = 0 from if_pos (by omega)] at C
  have HH := Lib.hid h
  obtain ⟨x, hx⟩ : ∃ x, p.wk.getD a false = x := ⟨_, rfl⟩
  have HX := Lib.hid hx
  rw [hx]
  clear h hx
  go_enter Tryd.func21, Tryd.ntmps21
  go_wp2_with fail
  refine C.out.mono ?_; rintro e w1 ⟨hb, ⟨_, rfl⟩ | ⟨h0, _⟩⟩
  case inr => exact absurd rfl h0
  have h1 := HH.out.below hb (Nat.le_refl _)
  obtain ⟨sb, so, sc, _, _, _, _, _, _, c5, _⟩ := h1.cells
  have d5 := bools_pos h1.work (show a < p.wk.length by rw [h1.l5]; exact ha)
  rw [HX.out] at d5
  obtain ⟨k, hk⟩ : ∃ k, p.k = k := ⟨_, rfl⟩
  rw [hk] at ha c5
  have t1 : decide (a < k) = true := decide_eq_true ha
  have i1 : (a : Int) < k := by omega
  have HB := Lib.hid hb
  clear h1 hb hk
  go_wp2_with fail
  go_ret
  exact ⟨rfl, HB.out⟩
set_option maxRecDepth 100000 in
set_option maxHeartbeats 4000000 in
theorem mworked_out (h : MachB w base N p job m R) (i : Int) (hi : ¬ (0 ≤ i ∧ i < p.k)) :
    Calls Tryd.prog 21 #[.pointer (some ⟨m, 0, none⟩), .int .i64 i] w fun e w' => e = .returned (.bool false) ∧ Below w.heap.size w w' := by
  obtain ⟨nb, wb, ib, b, sv, us, Rn, h, rfl⟩ := h
  have C := Lib.hid (mcheck_any h i)
  rw [show inW p.k i = 3 from if_neg hi] at C
  clear h hi
  go_enter Tryd.func21, Tryd.ntmps21
  go_wp2_with fail
  refine C.out.mono ?_; rintro e w1 ⟨hb, ⟨h0, _⟩ | ⟨_, u, rfl, hf⟩⟩
  · exact absurd h0 (by decide)
  obtain ⟨fb, s, rfl, hw⟩ := hf
  have HB := Lib.hid hb
  clear hb hw
  go_wp2_with fail
  go_ret
  exact ⟨rfl, HB.out⟩
end
end
end Go.Proofs.YtlopoddllfkkfaaDoor
