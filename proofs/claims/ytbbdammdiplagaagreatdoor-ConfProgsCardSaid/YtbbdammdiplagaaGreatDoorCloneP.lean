/- slices.Clone of a program. -/
import Derived.Test.YtbbdammdiplagaaGreatDoorParse17
import Derived.Test.YtbbdammdiplagaaGreatDoorPg17c
namespace Go.Proofs.YtbbdammdiplagaaGreatDoor
open Go.RowKit

set_option maxRecDepth 100000 in
set_option maxHeartbeats 2000000 in
theorem cloneP_any {w : World} {v : Value} {O : List (Int × Int)} (h : EdgesV w v O) (hl : O.length ≤ 1000000) :
    Calls Tryz.prog 37 #[v] w fun e w' => ∃ A c, e = .returned (.slice A O.length c) ∧ EdgesV w' (.slice A O.length c) O ∧ Below w.heap.size w w' := by
  obtain ⟨j0, hj0, hz0, hz1, hz2⟩ := info_parts Tryz.infoOp17
  obtain ⟨Ao, co, rfl⟩ := h.form
  rcases Ao with _ | ad
  · have h0 : O = [] := by
      rcases h with ⟨h0, _⟩ | ⟨_, b, off, cap, e, _⟩
      · exact h0
      · injection e with e1; cases e1
    subst h0
    have hq := fun W : World => Lib.run_eql_slice_nil (P := Tryz.prog) W 27 44 none 0 co 0 0 Tryz.underlying27
    clear h hl
    go_enter Tryz.func37, Tryz.ntmps37
    go_wp2_with fail
    go_ret
    exact ⟨_, _, rfl, Or.inl ⟨rfl, _, _, rfl⟩, Below.refl _ _⟩
  · obtain ⟨n, hn⟩ : ∃ n, O.length = n := ⟨_, rfl⟩
    have hz := (Below.refl w.heap.size w).alloc (Nat.le_refl _) (.cells #[] 44)
    have HZ := Lib.hid hz
    have HOZ := Lib.hid (show (w.alloc (.cells #[] 44)).ownsRow w.heap.size 44 2 (.slice (some ⟨w.heap.size, 0, none⟩) 0 0) 0 [] from World.ownsRow_lit (size := 2) w #[] 0 (Nat.le_refl _) (by decide) rfl)
    have HU := Lib.hid (h.below hz (Nat.le_refl _))
    have sz := hz.size
    have HN := Lib.hid hn
    rw [hn] at HU hl ⊢
    have hq := fun W : World => Lib.run_eql_slice_nil (P := Tryz.prog) W 27 44 (some ad) n co 0 0 Tryz.underlying27
    clear h hz hn
    go_enter Tryz.func37, Tryz.ntmps37
    go_wp2_with (at_builtin; refine wpList_appEdges _ rfl _ _ 27 44 rfl w.heap.size j0 (.agg #[.int .i64 0, .int .i64 0]) Tryz.underlying27 hj0 hz0 rfl hz1 hz2 _ 0 _ rfl HOZ.out _ O rfl HU.out (by rw [HN.out]; omega) sz ?_)
    intro A3 c3 w7 hown3 hgrow3
    rw [HN.out] at hown3 hgrow3 ⊢
    have HB3 := Lib.hid (hgrow3.below HOZ.out HZ.out (Nat.le_refl _) sz)
    have HO3 := Lib.hid (own_edges hown3)
    clear hown3 hgrow3
    go_wp2_with fail
    go_ret
    exact ⟨_, _, rfl, HO3.out, HB3.out⟩
end Go.Proofs.YtbbdammdiplagaaGreatDoor
