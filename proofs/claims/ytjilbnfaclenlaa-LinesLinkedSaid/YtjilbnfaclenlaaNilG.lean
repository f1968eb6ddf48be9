/- lines of no graph. -/
import Derived.Test.YtjilbnfaclenlaaLinesA
import Derived.Test.YtjilbnfaclenlaaLinesV
import Derived.Test.YtjilbnfaclenlaaLinesR
namespace Go.Proofs.Ytjilbnfaclenlaa
open Go.RowKit

theorem edge_nil (id : Int) (w : World) : Calls Try.prog 17 #[.pointer none, .int .i64 id] w fun e w' => e = .returned (.tuple #[edgeV (0, 0), .bool false]) ∧ Below w.heap.size w w' := by
  refine edge_no 0 id (.pointer none) w (fun W _ => size_nil W) ?_
  unfold hasV
  simp

/-- No edge: some pair, and false. -/
def NoEdge (w : World) (e : Ending) (w' : World) : Prop := ∃ x y : Int, e = .returned (.tuple #[.agg #[.int .i64 x, .int .i64 y], .bool false]) ∧ Below w.heap.size w w'
theorem edge_nil' (id : Int) (w : World) : Calls Try.prog 17 #[.pointer none, .int .i64 id] w (NoEdge w) :=
  (edge_nil id w).mono fun _ _ h => ⟨0, 0, h.1, h.2⟩

set_option maxRecDepth 100000 in
set_option maxHeartbeats 1000000 in
theorem touch_nil (a b : Int) (w : World) : Calls Try.prog 15 #[.pointer none, .int .i64 a, .int .i64 b] w fun e w' => e = .returned (.bool false) ∧ Below w.heap.size w w' := by
  have E1 := edge_nil' a w
  have E2 := fun (W : World) => edge_nil' b W
  have H1 := Lib.hid E1; have H2 := Lib.hid E2
  clear E1 E2
  go_enter Try.func15, Try.ntmps15
  go_wp2_with fail
  refine H1.out.mono ?_; rintro e w1 ⟨x, y, rfl, hb1⟩
  have hb2 : Below w.heap.size w (w1.alloc (.cells #[.int .i64 x, .int .i64 y] 40)) := hb1.alloc hb1.size _
  obtain ⟨w2, hw2⟩ : ∃ W, w1.alloc (.cells #[.int .i64 x, .int .i64 y] 40) = W := ⟨_, rfl⟩
  rw [hw2] at hb2
  have HB2 := Lib.hid hb2
  clear hb1 hb2
  go_wp2_with fail
  refine (H2.out _).mono ?_; rintro e w3 ⟨p, q, rfl, hb3⟩
  have hB3 : Below w.heap.size w w3 := HB2.out.trans (hb3.mono HB2.out.size)
  have HB4 := Lib.hid (hB3.alloc hB3.size (.cells #[.int .i64 p, .int .i64 q] 40))
  clear hb3 hB3
  go_wp2_with fail
  go_ret
  exact ⟨rfl, HB4.out⟩

set_option maxRecDepth 100000 in
theorem pairs_nil (w : World) : Calls Try.prog 14 #[.pointer none] w fun e w' => e = .returned (.int .i64 0) ∧ w' = w := by
  have HLN := Lib.hid (len_nil w)
  go_enter Try.func14, Try.ntmps14
  go_wp2_with fail
  refine HLN.out.mono ?_; rintro e w1 ⟨rfl, hw⟩; obtain rfl := hw.symm
  go_wp2_with fail
  go_loopg [3, 8] 0 (fun gh rv yv wr => gh = 0 ∧ yv = .int .i64 0 ∧ rv = .int .i64 0 ∧ wr = w)
  case atStart => exact ⟨rfl, rfl, rfl, rfl⟩
  case round =>
    obtain ⟨rfl, rfl, rfl, hwr⟩ := hrel
    obtain rfl := hwr.symm
    go_wp2_with fail
    go_ret
    exact ⟨rfl, rfl⟩

set_option maxRecDepth 100000 in
set_option maxHeartbeats 1000000 in
theorem ends_nil (z : Int) (vl : Value) (w : World) (hl : SeqV w vl [z]) :
    Calls Try.prog 19 #[.pointer none, vl] w fun e w' => e = .returned (.slice none 0 0) ∧ Below w.heap.size w w' := by
  obtain ⟨Al, cl, rfl⟩ := IntsV.form hl
  have HL : Hid (SeqV w (.slice Al 1 cl) [z]) := Lib.hid hl
  show Calls _ _ #[.pointer none, .slice Al 1 cl] _ _
  clear hl
  go_enter Try.func19, Try.ntmps19
  go_wp2_with fail
  go_loopg [5, 12] 1 (fun gh rv yv wr => ∃ i, i ≤ 1 ∧ gh = 1 - i ∧ yv = .int .i64 (i : Nat) ∧ rv = .slice none 0 0 ∧ Below w.heap.size w wr)
  case atStart => exact ⟨0, Nat.zero_le _, rfl, rfl, rfl, Below.refl _ _⟩
  case round =>
    obtain ⟨i, hi, rfl, rfl, rfl, hB⟩ := hrel
    by_cases hlt : i < 1
    · obtain rfl : i = 0 := by omega
      obtain ⟨bb, off, rfl, hc⟩ := SeqV.pos (HL.out.below hB (Nat.le_refl _)) (i := 0) (by simp)
      rw [Nat.add_zero, show [z].getD 0 0 = z from rfl] at hc
      have HED := Lib.hid (edge_nil' z wr)
      have HBi := Lib.hid hB
      clear hlt hB
      go_wp2_with fail
      refine HED.out.mono ?_; rintro e w2 ⟨x, y, rfl, hb2⟩
      have hB2 := HBi.out.trans (hb2.mono HBi.out.size)
      have HB3 := Lib.hid (hB2.alloc hB2.size (.cells #[.int .i64 x, .int .i64 y] 40))
      clear hb2 hB2
      go_wp2_with fail
      go_roundg 0
      case rel => exact ⟨1, Nat.le_refl _, rfl, by go_num, rfl, HB3.out⟩
      case measure => omega
    · obtain rfl : i = 1 := by omega
      have HBi := Lib.hid hB
      clear hlt hB
      go_wp2_with fail
      go_ret
      exact ⟨rfl, HBi.out⟩

set_option maxRecDepth 100000 in
set_option maxHeartbeats 1000000 in
theorem verts_nil (z : Int) (vl : Value) (w : World) (hl : SeqV w vl [z]) :
    Calls Try.prog 22 #[.pointer none, vl] w fun e w' => e = .returned (.slice none 0 0) ∧ Below w.heap.size w w' := by
  obtain ⟨Al, cl, rfl⟩ := IntsV.form hl
  have hb1 := (Below.refl w.heap.size w).alloc (Nat.le_refl _) (.map #[] 0)
  have HEN := Lib.hid (ends_nil z _ _ (hl.below hb1 (Nat.le_refl _)))
  have HB0 := Lib.hid hb1
  have hmk := run_mapNone w
  clear hl hb1
  go_enter Try.func22, Try.ntmps22
  go_wp2_with fail
  refine HEN.out.mono ?_; rintro e w2 ⟨rfl, hb2⟩
  have HB2 := Lib.hid (HB0.out.trans (hb2.mono HB0.out.size))
  clear hb2
  go_wp2_with fail
  go_loopg [5, 18] 0 (fun gh rv yv wr => gh = 0 ∧ yv = .int .i64 0 ∧ rv = .slice none 0 0 ∧ wr = w2)
  case atStart => exact ⟨rfl, rfl, rfl, rfl⟩
  case round =>
    obtain ⟨rfl, rfl, rfl, hwr⟩ := hrel
    obtain rfl := hwr.symm
    go_wp2_with fail
    go_ret
    exact ⟨rfl, HB2.out⟩

set_option maxRecDepth 100000 in
set_option maxHeartbeats 1000000 in
theorem span_nil (z : Int) (vl : Value) (w : World) (hl : SeqV w vl [z]) (hz : In64 z) :
    Calls Try.prog 24 #[.pointer none, vl] w fun e w' => e = .returned (.slice none 0 0) ∧ Below w.heap.size w w' := by
  obtain ⟨Al, cl, rfl⟩ := IntsV.form hl
  have HL : Hid (SeqV w (.slice Al 1 cl) [z]) := Lib.hid hl
  show Calls _ _ #[.pointer none, .slice Al 1 cl] _ _
  have hmk : ∀ W : World, (Instr.makeMap 66 (some (.int .i64 1))).run Try.prog W = .ok (.map (some W.heap.size)) (W.alloc (.map #[] 0)) := fun W => run_makeInts 1 W
  have HK := Lib.hid (keyOf_int hz)
  clear hl hz
  go_enter Try.func24, Try.ntmps24
  go_wp2_with fail
  have HB0 := Lib.hid ((Below.refl w.heap.size w).alloc (Nat.le_refl _) (.map #[] 0))
  have HS0 := Lib.hid (IntSet.made w)
  go_loopg [21] 1 (fun gh yv wr => ∃ i, i ≤ 1 ∧ gh = 1 - i ∧ yv = .int .i64 (i : Nat) ∧ IntSet wr w.heap.size ([z].take i) ∧ Below w.heap.size w wr)
  case atStart => exact ⟨0, Nat.zero_le _, rfl, rfl, HS0.out, HB0.out⟩
  case round =>
    obtain ⟨i, hi, rfl, rfl, hset, hB⟩ := hrel
    by_cases hlt : i < 1
    · obtain rfl : i = 0 := by omega
      obtain ⟨bb, off, rfl, hc⟩ := SeqV.pos (HL.out.below hB (Nat.le_refl _)) (i := 0) (by simp)
      rw [Nat.add_zero, show [z].getD 0 0 = z from rfl] at hc
      obtain ⟨nn, D, hown, hnn, hD⟩ := hset
      have hnn2 : nn < maxLen := by unfold maxLen; simp at hnn; omega
      have HO := Lib.hid hown; have HNN := Lib.hid hnn; have HD := Lib.hid hD; have HB := Lib.hid hB
      clear hlt hB hown hnn hD
      go_wp2_with (at_mapUpdate; refine wpList_mapUpdate_own _ rfl _ _ _ 66 rfl 3 67 int_key Try.underlying66 Go.unitElem w.heap.size nn D rfl HO.out hnn2 _ _ (.int .i64 z) rfl rfl HK.out (.agg []) [] Go.unitElem_mk ?_)
      intro w4 hown4 hgrow4
      have HSET4 := Lib.hid (IntSet.put HK.out HNN.out HO.out.isMap HD.out hown4)
      have HB4 := Lib.hid (HB.out.grown hgrow4 HB.out.size (fun q hq => by injection hq with hq; omega))
      clear hown4 hgrow4
      go_wp2_with fail
      go_roundg 0
      case rel => exact ⟨1, Nat.le_refl _, rfl, by go_num, HSET4.out, HB4.out⟩
      case measure => omega
    · obtain rfl : i = 1 := by omega
      have HSZ := Lib.hid (size_nil wr); have HB := Lib.hid hB
      clear hlt hB hset
      go_wp2_with fail
      refine HSZ.out.mono ?_; rintro e w2 ⟨rfl, hw⟩; obtain rfl := hw.symm
      go_wp2_with fail
      go_loopg [8, 31] 0 (fun gh rv yv ws => gh = 0 ∧ yv = .int .i64 0 ∧ rv = .slice none 0 0 ∧ ws = wr)
      case atStart => exact ⟨rfl, rfl, rfl, rfl⟩
      case round =>
        obtain ⟨rfl, rfl, rfl, hwr⟩ := hrel
        obtain rfl := hwr.symm
        go_wp2_with fail
        go_ret
        exact ⟨rfl, HB.out⟩

set_option maxRecDepth 100000 in
set_option maxHeartbeats 1000000 in
theorem lines_of_nil (w : World) :
    Calls Try.prog 10 #[.pointer none] w fun e w' => ∃ h, e = .returned (.tuple #[.pointer (some ⟨h, 0, none⟩), .nilIface]) ∧ GraphOwn w' w.heap.size h [] [] ∧ Below w.heap.size w w' := by
  obtain ⟨j1, hi1, ky0, ky1, ky2⟩ := info_parts Try.infoInt6
  have mk : ∀ V : World, (Instr.makeSlice 22 (.int .i64 0) (.int .i64 0)).run Try.prog V = .ok (.slice (some ⟨V.heap.size, 0, none⟩) 0 0) (V.alloc (.cells (madeCells #[.int .i64 0] 0) 3)) := by
    intro V
    have h := run_make (P := Try.prog) V 22 3 j1 (.int .i64 0) Try.underlying22 hi1 ky0 .i64 .i64 ((0 : Nat) : Int) ((0 : Nat) : Int) (by omega) (by omega) (by rw [ky2]; omega) (by omega)
    rw [ky1, Int.toNat_natCast, Nat.mul_one] at h
    exact h
  have HLN := Lib.hid (len_nil w); have HSZ := Lib.hid (size_nil w)
  have hb4 : Below w.heap.size w (w.alloc (.cells (madeCells #[.int .i64 0] 0) 3)) := (Below.refl _ _).alloc (Nat.le_refl _) _
  have NG := Lib.hid (new_good (List.replicate 0 0) [] _ (.slice none 0 0) _ (zeros_seqL w 3 0) (Or.inl ⟨rfl, _, _, rfl⟩) (by simp) (fault_zerosL 0 (by simp) ⟨by simp, by simp⟩ (by omega)))
  have HB4 := Lib.hid hb4
  clear hb4
  go_enter Try.func10, Try.ntmps10
  go_wp2_with fail
  refine HLN.out.mono ?_; rintro e w1 ⟨rfl, hw⟩; obtain rfl := hw.symm
  go_wp2_with fail
  go_loopg [4, 10] 0 (fun gh rv yv wr => gh = 0 ∧ yv = .int .i64 0 ∧ rv = .slice none 0 0 ∧ wr = w)
  case atStart => exact ⟨rfl, rfl, rfl, rfl⟩
  case round =>
    obtain ⟨rfl, rfl, rfl, hwr⟩ := hrel
    obtain rfl := hwr.symm
    go_wp2_with fail
    refine HSZ.out.mono ?_; rintro e w2 ⟨rfl, hw⟩; obtain rfl := hw.symm
    go_wp2_with fail
    refine NG.out.mono ?_; rintro e w5 ⟨h, rfl, hH, hb5⟩
    have HH := Lib.hid (hH.weaken HB4.out.size); have HB5 := Lib.hid (HB4.out.trans (hb5.mono HB4.out.size))
    clear hH hb5
    go_wp2_with fail
    go_ret2
    exact ⟨h, rfl, HH.out, HB5.out⟩
end Go.Proofs.Ytjilbnfaclenlaa
