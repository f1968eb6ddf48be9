/- Layer 17: Of. -/
import Derived.Test.YtbbdammdiplagaaGreatDoorPatZ
import Derived.Test.YtbbdammdiplagaaGreatDoorParse17
namespace Go.Proofs.YtbbdammdiplagaaGreatDoor
open Go.RowKit

set_option maxRecDepth 100000 in
set_option maxHeartbeats 4000000 in
theorem of17_any (E : List (Int × Int)) (ve : Value) (w : World) (he : EdgesV w ve E) (hE : E.length * 16 ≤ 140737488351232) :
    Calls Tryz.prog 21 #[ve] w fun e w' => ∃ A c, e = .returned (.slice A E.length c) ∧ w'.ownsRow w.heap.size 44 2 (.slice A E.length c) E.length (eL E) ∧ Below w.heap.size w w' := by
  obtain ⟨j0, hj0, hz0, hz1, hz2⟩ := info_parts Tryz.infoOp17
  obtain ⟨Ae, ce, rfl⟩ := he.form
  obtain ⟨m, hm⟩ : ∃ m, E.length = m := ⟨_, rfl⟩
  have HSE := Lib.hid he
  rw [hm] at HSE hE ⊢
  have HM := Lib.hid hm
  clear he hm
  go_enter Tryz.func21, Tryz.ntmps21
  go_wp2_with fail
  go_loopg [3, 4] m (fun gh rv yv wr => ∃ k, k ≤ m ∧ gh = m - k ∧ yv = .int .i64 (k : Nat) ∧ wr.ownsRow w.heap.size 44 2 rv k (eL (E.take k)) ∧ Below w.heap.size w wr)
  case atStart => exact ⟨0, Nat.zero_le _, rfl, rfl, World.ownsRow_nil _ _ _ 2, Below.refl _ _⟩
  case round =>
    obtain ⟨k, hk, rfl, rfl, hown, hB⟩ := hrel
    obtain ⟨A, c, rfl⟩ := own_form hown
    by_cases hlt : k < m
    · have hkE : k < E.length := by rw [HM.out]; exact hlt
      obtain ⟨b, off, rfl, d0, d1⟩ := (HSE.out.below hB (Nat.le_refl _)).pos hkE
      obtain ⟨e, he⟩ : ∃ e, E.getD k (0, 0) = e := ⟨_, rfl⟩
      rw [he] at d0 d1
      obtain ⟨x, y⟩ := e
      have t3 : decide (k < m) = true := decide_eq_true hlt
      have i1 : (k : Int) < m := by omega
      have i2 : (0 : Int) ≤ k := by omega
      have HTK : Hid (eL (E.take (k + 1)) = eL (E.take k) ++ eL [(x, y)]) := Lib.hid (by rw [List.take_succ_eq_append_getElem hkE, ← getD_at hkE, he, eL_app])
      have HOW := Lib.hid (hown.alloc (.cells #[.int .i64 x, .int .i64 y] 44))
      have hb2 : Below w.heap.size w (wr.alloc (.cells #[.int .i64 x, .int .i64 y] 44)) := hB.alloc hB.size _
      have hs2 := hb2.size
      have HB2 := Lib.hid hb2
      have HN2 := Lib.hid (edges_new wr 44 x y 1)
      have HLT := Lib.hid hlt
      clear hown hB he hb2 hlt hkE
      go_wp2_with (at_builtin; refine wpList_appEdges _ rfl _ _ 27 44 rfl w.heap.size j0 (.agg #[.int .i64 0, .int .i64 0]) Tryz.underlying27 hj0 hz0 rfl hz1 hz2 _ k _ rfl HOW.out _ [(x, y)] rfl HN2.out (by simp; omega) hs2 ?_)
      intro A3 c3 w7 hown3 hgrow3
      have HB3 := Lib.hid (hgrow3.below HOW.out HB2.out (Nat.le_refl _) hs2)
      have HO3 := Lib.hid hown3
      clear hown3 hgrow3
      go_wp2_with fail
      go_roundg (m - (k + 1))
      case rel => exact ⟨k + 1, HLT.out, rfl, by go_num, by rw [HTK.out]; exact HO3.out, HB3.out⟩
      case measure => have := HLT.out; omega
    · obtain rfl : k = m := by omega
      have t3 : decide (k < k) = false := by simp
      have HO : Hid (wr.ownsRow w.heap.size 44 2 (.slice A k c) k (eL E)) := Lib.hid (by rw [List.take_of_length_le (by rw [HM.out]; omega)] at hown; exact hown)
      have HB := Lib.hid hB
      clear hlt hown hB
      go_wp2_with fail
      go_ret
      exact ⟨_, _, rfl, HO.out, HB.out⟩
end Go.Proofs.YtbbdammdiplagaaGreatDoor
