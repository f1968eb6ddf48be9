/- lines: Touch, Ends. -/
import Derived.Test.YtjilbnfaclenlaaDoorLaw0
namespace Go.Proofs.YtjilbnfaclenlaaDoor
open Go.RowKit

/-- The edge of a number, if there is one. -/
def edgeOr (S : List (Int × Int)) (id : Int) : Int × Int := if hasV S.length id = true then S.getD id.toNat (0, 0) else (0, 0)
theorem edge_any {w : World} {base g : Nat} {L : List Int} {S : List (Int × Int)} (hG : GraphOwn w base g L S) (id : Int) :
    Calls Tryd.prog 28 #[.pointer (some ⟨g, 0, none⟩), .int .i64 id] w fun e w' => e = .returned (.tuple #[edgeV (edgeOr S id), .bool (hasV S.length id)]) ∧ Below w.heap.size w w' := by
  cases h : hasV S.length id with
  | true =>
    obtain ⟨k, rfl, hk⟩ := hasV_yes h
    have := edge_ok hG hk
    unfold edgeOr
    rw [if_pos h, Int.toNat_natCast]
    exact this
  | false =>
    unfold edgeOr
    rw [if_neg (by rw [h]; simp)]
    exact edge_no S.length id _ w (fun W hb => size_any (hG.below hb (Nat.le_refl _))) h
/-- Do two edges share a vertex? -/
def touchB (S : List (Int × Int)) (a b : Int) : Bool :=
  hasV S.length a && (hasV S.length b && ((a != b) && (((edgeOr S a).1 == (edgeOr S b).1) || (((edgeOr S a).1 == (edgeOr S b).2) || (((edgeOr S a).2 == (edgeOr S b).1) || ((edgeOr S a).2 == (edgeOr S b).2))))))

set_option maxRecDepth 100000 in
set_option maxHeartbeats 2000000 in
theorem touch_any {w : World} {base g : Nat} {L : List Int} {S : List (Int × Int)} (hG : GraphOwn w base g L S) (a b : Int) :
    Calls Tryd.prog 14 #[.pointer (some ⟨g, 0, none⟩), .int .i64 a, .int .i64 b] w fun e w' => e = .returned (.bool (touchB S a b)) ∧ Below w.heap.size w w' := by
  have E1 := edge_any hG a
  have E2 := fun (W : World) (hb : Below w.heap.size w W) => edge_any (hG.below hb (Nat.le_refl _)) b
  unfold touchB
  obtain ⟨⟨x0, x1⟩, hx⟩ : ∃ e, edgeOr S a = e := ⟨_, rfl⟩
  obtain ⟨⟨y0, y1⟩, hy⟩ : ∃ e, edgeOr S b = e := ⟨_, rfl⟩
  rw [hx] at E1 ⊢
  rw [hy] at E2 ⊢
  unfold edgeV at E1 E2
  simp only at E1 E2 ⊢
  obtain ⟨z1, hz1⟩ : ∃ z, hasV S.length a = z := ⟨_, rfl⟩
  obtain ⟨z2, hz2⟩ : ∃ z, hasV S.length b = z := ⟨_, rfl⟩
  rw [hz1] at E1 ⊢
  rw [hz2] at E2 ⊢
  obtain ⟨z3, hz3⟩ : ∃ z, (a != b) = z := ⟨_, rfl⟩
  obtain ⟨e1, he1⟩ : ∃ z, (x0 == y0) = z := ⟨_, rfl⟩
  obtain ⟨e2, he2⟩ : ∃ z, (x0 == y1) = z := ⟨_, rfl⟩
  obtain ⟨e3, he3⟩ : ∃ z, (x1 == y0) = z := ⟨_, rfl⟩
  obtain ⟨e4, he4⟩ : ∃ z, (x1 == y1) = z := ⟨_, rfl⟩
  rw [hz3, he1, he2, he3, he4]
  have H1 := Lib.hid E1; have H2 := Lib.hid E2
  clear E1 E2 hx hy hz1 hz2 hG
  have start : ∀ (R : Bool), Calls Tryd.prog 14 #[.pointer (some ⟨g, 0, none⟩), .int .i64 a, .int .i64 b] w (fun e w' => e = .returned (.bool R) ∧ Below w.heap.size w w') → Calls Tryd.prog 14 #[.pointer (some ⟨g, 0, none⟩), .int .i64 a, .int .i64 b] w (fun e w' => e = .returned (.bool R) ∧ Below w.heap.size w w') := fun _ h => h
  clear start
  go_enter Tryd.func14, Tryd.ntmps14
  go_wp2_with fail
  refine H1.out.mono ?_; rintro e w1 ⟨rfl, hb1⟩
  have hb2 : Below w.heap.size w (w1.alloc (.cells #[.int .i64 x0, .int .i64 x1] 25)) := hb1.alloc hb1.size _
  have hX := Whole.new w1 25 #[.int .i64 x0, .int .i64 x1]
  obtain ⟨w2, hw2⟩ : ∃ W, w1.alloc (.cells #[.int .i64 x0, .int .i64 x1] 25) = W := ⟨_, rfl⟩
  obtain ⟨xb, hxb⟩ : ∃ b, w1.heap.size = b := ⟨_, rfl⟩
  rw [hw2] at hb2 hX
  rw [hxb] at hX
  have HE2 := Lib.hid (H2.out w2 hb2); have HB2 := Lib.hid hb2; have HX := Lib.hid hX
  clear hb1 hb2 hX
  go_wp2_with fail
  refine HE2.out.mono ?_; rintro e w3 ⟨rfl, hb3⟩
  have hX3 := (HX.out.below hb3 HX.out.lt).alloc (.cells #[.int .i64 y0, .int .i64 y1] 25)
  have hY3 := Whole.new w3 25 #[.int .i64 y0, .int .i64 y1]
  have hB3 : Below w.heap.size w w3 := HB2.out.trans (hb3.mono HB2.out.size)
  have hB4 : Below w.heap.size w (w3.alloc (.cells #[.int .i64 y0, .int .i64 y1] 25)) := hB3.alloc hB3.size _
  obtain ⟨w4, hw4⟩ : ∃ W, w3.alloc (.cells #[.int .i64 y0, .int .i64 y1] 25) = W := ⟨_, rfl⟩
  obtain ⟨yb, hyb⟩ : ∃ b, w3.heap.size = b := ⟨_, rfl⟩
  rw [hw4] at hX3 hY3 hB4
  rw [hyb] at hY3
  have a0 : w4.cell? ⟨xb, 0, none⟩ = some (.int .i64 x0) := hX3.cell 0
  have a1 : w4.cell? ⟨xb, 1, none⟩ = some (.int .i64 x1) := hX3.cell 1
  have b0 : w4.cell? ⟨yb, 0, none⟩ = some (.int .i64 y0) := hY3.cell 0
  have b1 : w4.cell? ⟨yb, 1, none⟩ = some (.int .i64 y1) := hY3.cell 1
  have HB4 := Lib.hid hB4
  clear hb3 hX3 hY3 hB3 hB4
  cases z1 with
  | false =>
    go_wp2_with fail
    go_ret
    exact ⟨rfl, HB4.out⟩
  | true =>
    cases z2 with
    | false =>
      go_wp2_with fail
      go_ret
      exact ⟨rfl, HB4.out⟩
    | true =>
      cases z3 with
      | false =>
        go_wp2_with fail
        go_ret
        exact ⟨rfl, HB4.out⟩
      | true =>
        cases e1 with
        | true =>
          go_wp2_with fail
          go_ret
          exact ⟨rfl, HB4.out⟩
        | false =>
          cases e2 with
          | true =>
            go_wp2_with fail
            go_ret
            exact ⟨rfl, HB4.out⟩
          | false =>
            cases e3 with
            | true =>
              go_wp2_with fail
              go_ret
              exact ⟨rfl, HB4.out⟩
            | false =>
              go_wp2_with fail
              go_ret
              exact ⟨rfl, HB4.out⟩

/-- The edges of those numbers that there are. -/
def endsL (S : List (Int × Int)) (l : List Int) : List (Int × Int) := l.filterMap fun id => if hasV S.length id = true then some (edgeOr S id) else none
theorem endsL_snoc (S : List (Int × Int)) (l : List Int) (id : Int) : endsL S (l ++ [id]) = endsL S l ++ (if hasV S.length id = true then [edgeOr S id] else []) := by
  unfold endsL
  rw [List.filterMap_append]
  congr 1
  by_cases h : hasV S.length id = true <;> simp [h]
theorem endsL_le (S : List (Int × Int)) (l : List Int) : (endsL S l).length ≤ l.length := List.length_filterMap_le _ _

end Go.Proofs.YtjilbnfaclenlaaDoor
