/- pat: checkEdge. -/
import Derived.Test.YtgolcogigpnbeaaGreatDoorPat2
namespace Go.Proofs.YtgolcogigpnbeaaGreatDoor
open Go.RowKit

/-- What is wrong with an edge at a place. -/
def edgeF (n p : Int) (a b : Int) (wrong : Bool) : Option (Int × Int) := if (decide (min a b < 0) || decide (n ≤ max a b)) = true then some (3, p) else if wrong = true then some (2, p) else none
set_option maxRecDepth 100000 in
set_option maxHeartbeats 2000000 in
theorem checkEdge_any (n p a b : Int) (wrong : Bool) (w : World) :
    Calls Tryz.prog 57 #[.int .i64 n, .int .i64 p, .agg #[.int .i64 a, .int .i64 b], .bool wrong] w (ErrTo (edgeF n p a b wrong) w) := by
  have hb1 : Below w.heap.size w (w.alloc (.cells #[.int .i64 a, .int .i64 b] 62)) := (Below.refl _ _).alloc (Nat.le_refl _) _
  obtain ⟨w1, hw1⟩ : ∃ W, w.alloc (.cells #[.int .i64 a, .int .i64 b] 62) = W := ⟨_, rfl⟩
  obtain ⟨xb, hxb⟩ : ∃ g, w.heap.size = g := ⟨_, rfl⟩
  have hx := Whole.new w 62 #[.int .i64 a, .int .i64 b]
  rw [hw1] at hx hb1
  rw [hxb] at hx
  have HF3 := Lib.hid (new_any 3 p ⟨#[101, 100, 103, 101, 39, 115, 32, 118, 101, 114, 116, 101, 120]⟩ w1)
  have HF2 := Lib.hid (new_any 2 p ⟨#[101, 100, 103, 101]⟩ w1)
  have HB3 := Lib.hid (fault_new 3 p ⟨#[101, 100, 103, 101, 39, 115, 32, 118, 101, 114, 116, 101, 120]⟩ w1)
  have HB2 := Lib.hid (fault_new 2 p ⟨#[101, 100, 103, 101]⟩ w1)
  have c0 : w1.cell? ⟨xb, 0, none⟩ = some (.int .i64 a) := hx.cell 0
  have c1 : w1.cell? ⟨xb, 1, none⟩ = some (.int .i64 b) := hx.cell 1
  have HB1 := Lib.hid hb1; have HW1 := Lib.hid hw1; have HXB := Lib.hid hxb
  unfold edgeF
  obtain ⟨z1, hz1⟩ : ∃ z, decide (min a b < 0) = z := ⟨_, rfl⟩
  obtain ⟨z2, hz2⟩ : ∃ z, decide (n ≤ max a b) = z := ⟨_, rfl⟩
  rw [hz1, hz2]
  clear hb1 hw1 hxb hx
  obtain ⟨o, ho⟩ : ∃ o : Option (Int × Int), (if (z1 || z2) = true then some (3, p) else if wrong = true then some (2, p) else none) = o := ⟨_, rfl⟩
  rw [ho]
  have HO := Lib.hid ho
  clear ho
  cases z1 with
  | true =>
    have HQ : Hid (o = some (3, p)) := Lib.hid (by rw [← HO.out]; rfl)
    clear HO
    go_enter Tryz.func57, Tryz.ntmps57
    go_upto_region 1 with fail
    rw [HW1.out, HXB.out]
    go_wp2_with fail
    refine HF3.out.mono ?_; rintro e w2 ⟨rfl, rfl⟩
    go_wp2_with fail
    go_ret
    exact ⟨HB1.out.trans (HB3.out.1.mono HB1.out.size), Or.inr ⟨3, p, _, HQ.out, rfl, HB3.out.2⟩⟩
  | false =>
    cases z2 with
    | true =>
      have HQ : Hid (o = some (3, p)) := Lib.hid (by rw [← HO.out]; rfl)
      clear HO
      go_enter Tryz.func57, Tryz.ntmps57
      go_upto_region 1 with fail
      rw [HW1.out, HXB.out]
      go_wp2_with fail
      refine HF3.out.mono ?_; rintro e w2 ⟨rfl, rfl⟩
      go_wp2_with fail
      go_ret
      exact ⟨HB1.out.trans (HB3.out.1.mono HB1.out.size), Or.inr ⟨3, p, _, HQ.out, rfl, HB3.out.2⟩⟩
    | false =>
      cases wrong with
      | true =>
        have HQ : Hid (o = some (2, p)) := Lib.hid (by rw [← HO.out]; rfl)
        clear HO
        go_enter Tryz.func57, Tryz.ntmps57
        go_upto_region 1 with fail
        rw [HW1.out, HXB.out]
        go_wp2_with fail
        refine HF2.out.mono ?_; rintro e w2 ⟨rfl, rfl⟩
        go_wp2_with fail
        go_ret
        exact ⟨HB1.out.trans (HB2.out.1.mono HB1.out.size), Or.inr ⟨2, p, _, HQ.out, rfl, HB2.out.2⟩⟩
      | false =>
        have HQ : Hid (o = none) := Lib.hid (by rw [← HO.out]; rfl)
        clear HO
        go_enter Tryz.func57, Tryz.ntmps57
        go_upto_region 1 with fail
        rw [HW1.out, HXB.out]
        go_wp2_with fail
        go_ret
        exact ⟨HB1.out, Or.inl ⟨HQ.out, rfl⟩⟩
end Go.Proofs.YtgolcogigpnbeaaGreatDoor
