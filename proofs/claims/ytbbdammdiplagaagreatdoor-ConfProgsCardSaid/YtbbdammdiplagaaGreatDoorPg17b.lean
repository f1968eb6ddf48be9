/- prog: parse, Right. -/
import Derived.Test.YtbbdammdiplagaaGreatDoorPg17a
import Derived.Test.YtbbdammdiplagaaGreatDoorSeq
import Derived.Test.YtbbdammdiplagaaGreatDoorPairsV
namespace Go.Proofs.YtbbdammdiplagaaGreatDoor
open Go.RowKit

/-- Two results, of which the first is a test that lies in a box. -/
theorem results_op2 {fn : Func} {p q : Tmp} (h : fn.results = #[.cell p 44, .tmp q]) (tmps : Array Value) (w : World) (g : Nat) (x y v : Value) (hp : tmps.getD p undef = .pointer (some ⟨g, 0, none⟩)) (hq : tmps.getD q undef = v) (hc : Whole w g 44 #[x, y]) :
    (results fn tmps).run Tryz.prog w = .ok (.tuple #[.agg #[x, y], v]) w := by
  have hp' : tmps[p]?.getD undef = .pointer (some ⟨g, 0, none⟩) := by simpa using hp
  have hq' : tmps[q]?.getD undef = v := by simpa using hq
  have c0 : w.cell? ⟨g, 0, none⟩ = some x := hc.cell 0
  have c1 : w.cell? ⟨g, 1, none⟩ = some y := hc.cell 1
  simp [results, h, hp', hq', asAddr, loadVar, go_sem, c0, c1]
/-- What parse tells of a text. -/
def OneTo (l : List UInt8) (w : World) (e : Ending) (w' : World) : Prop :=
  Below w.heap.size w w' ∧ ((∃ a b, parse1 l = some (a, b) ∧ e = .returned (.tuple #[.agg #[.int .i64 a, .int .i64 b], .bool true])) ∨ (parse1 l = none ∧ ∃ a b, e = .returned (.tuple #[.agg #[.int .i64 a, .int .i64 b], .bool false])))
theorem op_put {w : World} {g : Nat} {a b : Value} (h : Whole w g 44 #[a, b]) (x y : Value) : Whole ((w.setCell ⟨g, 0, none⟩ x).setCell ⟨g, 1, none⟩ y) g 44 #[x, y] := (h.put 0 x).put 1 y
theorem below_put {B : Nat} {a w : World} {g : Nat} (h : Below B a w) (hg : B ≤ g) (x y : Value) : Below B a ((w.setCell ⟨g, 0, none⟩ x).setCell ⟨g, 1, none⟩ y) := (h.setCell (p := ⟨g, 0, none⟩) hg x).setCell (p := ⟨g, 1, none⟩) hg y
set_option maxRecDepth 100000 in
set_option maxHeartbeats 4000000 in
theorem parse_any (l : List UInt8) (hl : l.length ≤ 1000000) (w : World) (hg : GT w) :
    Calls Tryz.prog 72 #[.string (str l)] w (OneTo l w) := by
  have hb1 : Below w.heap.size w (w.alloc (.cells #[.int .i64 0, .int .i64 0] 44)) := (Below.refl _ _).alloc (Nat.le_refl _) _
  have hx := Whole.new w 44 #[.int .i64 0, .int .i64 0]
  obtain ⟨w1, hw1⟩ : ∃ W, w.alloc (.cells #[.int .i64 0, .int .i64 0] 44) = W := ⟨_, rfl⟩
  obtain ⟨pb, hpb⟩ : ∃ g, w.heap.size = g := ⟨_, rfl⟩
  rw [hw1] at hb1 hx
  rw [hpb] at hx
  have CT := cut_at l 32 w1 (hg.below hb1 (Nat.le_refl _)) (by omega)
  have hc2 : (Lib.cut l [32]).2.1.length ≤ l.length := by
    rcases cut_cases l 32 with hn | ⟨p, q, rfl, hp⟩
    · rw [cut_no hn]; simp
    · rw [cut_yes hp]; simp; omega
  have HP : Hid (parse1 l = if kindF (Lib.cut l [32]).1 = 0 ∨ (Lib.cut l [32]).2.2 ≠ countsB (kindF (Lib.cut l [32]).1) then none
    else if (Lib.cut l [32]).2.2 = true then (match numB6 (Lib.cut l [32]).2.1 with | some n => some (kindF (Lib.cut l [32]).1, n) | none => none)
    else some (kindF (Lib.cut l [32]).1, 0)) := Lib.hid rfl
  generalize (Lib.cut l [32]).1 = c1 at CT HP
  generalize (Lib.cut l [32]).2.1 = c2 at CT HP hc2
  generalize (Lib.cut l [32]).2.2 = c3 at CT HP
  obtain ⟨R, hR⟩ : ∃ R, parse1 l = R := ⟨_, rfl⟩
  rw [hR] at HP
  obtain ⟨k, hk⟩ : ∃ k, kindF c1 = k := ⟨_, rfl⟩
  obtain ⟨cb, hcb⟩ : ∃ z, countsB k = z := ⟨_, rfl⟩
  have KA := fun W => kind_any c1 W
  have CA := fun W => counts_any k W
  rw [hk] at KA HP
  rw [hcb] at CA HP
  have HNC := Lib.hid (fun (W : World) (hW : GT W) => number_c c2 (by omega) W hW)
  have HCT := Lib.hid CT; have HKA := Lib.hid KA; have HCA := Lib.hid CA; have HG := Lib.hid hg; have HB1 := Lib.hid hb1; have HX := Lib.hid hx; have HW1 := Lib.hid hw1; have HPB := Lib.hid hpb; have HR := Lib.hid hR
  have hpw : w.heap.size ≤ pb := by omega
  have HPW := Lib.hid hpw
  clear hg hb1 hx hw1 hpb CT hc2 hR hk hcb KA CA hpw
  generalize str l = sl at *
  go_enter Tryz.func72, Tryz.ntmps72
  go_upto_region 1 with fail
  rw [HW1.out, HPB.out]
  go_wp2_with fail
  refine HCT.out.mono ?_; rintro e w2 ⟨rfl, hb2⟩
  have hX2 := HX.out.below hb2 HX.out.lt
  have HX2 := Lib.hid hX2; have HB2 := Lib.hid (HB1.out.trans (hb2.mono HB1.out.size))
  have p0 : w2.cell? ⟨pb, 0, none⟩ = some (.int .i64 0) := hX2.cell 0
  have p1 : w2.cell? ⟨pb, 1, none⟩ = some (.int .i64 0) := hX2.cell 1
  have f0 := hX2.free 0
  have f1 := hX2.free 1
  clear hb2 hX2
  go_wp2_with fail
  refine (HKA.out w2).mono ?_; rintro e w3 ⟨rfl, hw⟩; obtain rfl := hw.symm
  clear hw
  by_cases hk0 : k = 0
  · have t1 : (k == 0) = true := by simpa using hk0
    have HF : Hid (parse1 l = none) := Lib.hid (by rw [HR.out, HP.out, if_pos (Or.inl hk0)])
    clear hk0
    go_wp2_with fail
    exact bodyPost_ret (results_op2 rfl _ _ pb _ _ _ rfl rfl (op_put HX2.out _ _)) rfl ⟨below_put HB2.out HPW.out _ _, Or.inr ⟨HF.out, _, _, rfl⟩⟩
  · have t1 : (k == 0) = false := by simpa using hk0
    have HK0 := Lib.hid hk0
    clear hk0
    go_wp2_with fail
    refine (HCA.out w2).mono ?_; rintro e w3 ⟨rfl, hw⟩; obtain rfl := hw.symm
    clear hw
    cases c3 <;> cases cb
    · have HF : Hid (parse1 l = some (k, 0)) := Lib.hid (by rw [HR.out, HP.out, if_neg (by have := HK0.out; simp; omega), if_neg (by decide)])
      go_wp2_with fail
      exact bodyPost_ret (results_op2 rfl _ _ pb _ _ _ rfl rfl (op_put HX2.out _ _)) rfl ⟨below_put HB2.out HPW.out _ _, Or.inl ⟨_, _, HF.out, rfl⟩⟩
    · have HF : Hid (parse1 l = none) := Lib.hid (by rw [HR.out, HP.out, if_pos (Or.inr (by decide))])
      go_wp2_with fail
      exact bodyPost_ret (results_op2 rfl _ _ pb _ _ _ rfl rfl (op_put HX2.out _ _)) rfl ⟨below_put HB2.out HPW.out _ _, Or.inr ⟨HF.out, _, _, rfl⟩⟩
    · have HF : Hid (parse1 l = none) := Lib.hid (by rw [HR.out, HP.out, if_pos (Or.inr (by decide))])
      go_wp2_with fail
      exact bodyPost_ret (results_op2 rfl _ _ pb _ _ _ rfl rfl (op_put HX2.out _ _)) rfl ⟨below_put HB2.out HPW.out _ _, Or.inr ⟨HF.out, _, _, rfl⟩⟩
    · have HF : Hid (parse1 l = match numB6 c2 with | some n => some (k, n) | none => none) := Lib.hid (by rw [HR.out, HP.out, if_neg (by have := HK0.out; simp; omega), if_pos rfl])
      have HN := Lib.hid (HNC.out w2 (HG.out.below HB2.out (Nat.le_refl _)))
      clear p0 p1 f0 f1
      go_wp2_with fail
      refine HN.out.mono ?_
      rintro e w4 ⟨hb4, n, ok, rfl, hor⟩
      have hX4 := HX2.out.below hb4 HX2.out.lt
      have HX4 := Lib.hid hX4; have HB4 := Lib.hid (HB2.out.trans (hb4.mono HB2.out.size))
      have p0 : w4.cell? ⟨pb, 0, none⟩ = some (.int .i64 0) := hX4.cell 0
      have p1 : w4.cell? ⟨pb, 1, none⟩ = some (.int .i64 0) := hX4.cell 1
      have f0 := hX4.free 0
      have f1 := hX4.free 1
      clear hb4 hX4
      rcases hor with ⟨rfl, hn⟩ | ⟨rfl, hn⟩
      · have HF2 : Hid (parse1 l = some (k, n)) := Lib.hid (by rw [HF.out, hn])
        clear hn
        go_wp2_with fail
        exact bodyPost_ret (results_op2 rfl _ _ pb _ _ _ rfl rfl (op_put HX4.out _ _)) rfl ⟨below_put HB4.out HPW.out _ _, Or.inl ⟨_, _, HF2.out, rfl⟩⟩
      · have HF2 : Hid (parse1 l = none) := Lib.hid (by rw [HF.out, hn])
        clear hn
        go_wp2_with fail
        exact bodyPost_ret (results_op2 rfl _ _ pb _ _ _ rfl rfl (op_put HX4.out _ _)) rfl ⟨below_put HB4.out HPW.out _ _, Or.inr ⟨HF2.out, _, _, rfl⟩⟩
end Go.Proofs.YtbbdammdiplagaaGreatDoor
