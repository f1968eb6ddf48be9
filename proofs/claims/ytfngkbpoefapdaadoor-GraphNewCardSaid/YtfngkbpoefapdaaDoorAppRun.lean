/- An append whose run is known ahead of the walk. -/
import Derived.Test.YtfngkbpoefapdaaDoorBuildQ
namespace Go.Proofs.YtfngkbpoefapdaaDoor
open Go.RowKit

/-- append, by a name that the walk does not open. -/
def appSem (ts : Array TypeId) (ty : TypeId) (args : Array Value) : Sem Value := Builtin.append_ ts ty args
theorem app_alias (ts : Array TypeId) (ty : TypeId) (args : Array Value) : Builtin.append_ ts ty args = appSem ts ty args := rfl
section
variable {W0 V : World} {g eb nb ab xb n q c : Nat} {cg ce cx : Array Value} {C : List (List Int)} {M : List Int} {A : Option Addr}
/-- A number appended to a row: the run, ahead of the walk. -/
theorem St.app (h : St W0 V g eb nb ab xb n cg ce cx C) (hown : V.ownsRow W0.heap.size 3 1 (.slice A q c) q (intCells M)) (hq : q ≤ 1000000) (z : Int) :
    ∃ B cap w1, (appSem #[22, 22] 22 #[.slice A q c, .slice (some ⟨V.heap.size, 0, none⟩) 1 1]).run Tryd.prog ((V.alloc (.cells #[.int .i64 z] 3)).drew) = .ok (.slice B (q + 1) cap) w1 ∧
      w1.ownsRow W0.heap.size 3 1 (.slice B (q + 1) cap) (q + 1) (intCells M ++ [.int .i64 z]) ∧ Grew V.drew (.slice A q c) w1 (.slice B (q + 1) cap) := by
  obtain ⟨i0, hi0, hz0, hz1, hz2⟩ := info_parts Tryd.infoInt6
  have hb := h.bel.size
  obtain ⟨v', w1, h1, h2, h3, _, h5⟩ := run_append_own_at (P := Tryd.prog) ((V.alloc (.cells #[.int .i64 z] 3)).drew) W0.heap.size 22 22 3 i0 _ 1 8 Tryd.underlying22 hi0 hz0 hz1 hz2 rfl (by omega) (.slice A q c) q (intCells M) (own_drewN (hown.alloc _) 1) ⟨V.heap.size, 0, none⟩ 1 1 [.int .i64 z] rfl
    (by
      intro j u hj
      match j, hj with
      | 0, hj =>
        simp at hj; subst hj
        exact ((Whole.new V 3 #[.int .i64 z]).drewN 1).cell 0)
    (by simp [Value.oneCell']) (by unfold maxLen; omega) (by omega) (Nat.le_trans hb (by show V.heap.size ≤ (V.alloc _).heap.size; simp))
  obtain ⟨B, cap, rfl⟩ := own_form h2
  refine ⟨B, cap, w1, h1, h2, grown_of_alloc (o := .cells #[.int .i64 z] 3) ⟨h3.os, h3.tape, h3.output, h3.size, h3.block⟩, ?_⟩
  rcases h5 with h5 | h5
  · exact Or.inl h5
  · refine Or.inr ⟨_, h5, ?_⟩
    show V.heap.size ≤ (V.alloc _).heap.size
    simp
theorem St.near_S (h : St W0 V g eb nb ab xb n cg ce cx C) {i : Nat} {u : Value} {w' : World} (hcell : V.cell? ⟨nb, i, none⟩ = some u) (keep : ∀ {b t : Nat} {cs : Array Value}, 3 ≠ t → Whole V b t cs → Whole w' b t cs) :
    w'.cell? ⟨nb, i, none⟩ = some u ∧ Whole w' g 73 cg ∧ Whole w' xb 47 cx := by
  obtain ⟨us, r1, r2, r3⟩ := h.rws
  exact ⟨by rw [(keep (by decide) r1).cell, ← r1.cell]; exact hcell, keep (by decide) h.g, keep (by decide) h.x⟩
theorem St.at_S (h : St W0 V g eb nb ab xb n cg ce cx C) {i : Nat} {u : Value} {w' : World} (hcell : V.cell? ⟨ab, i, none⟩ = some u) (keep : ∀ {b t : Nat} {cs : Array Value}, 3 ≠ t → Whole V b t cs → Whole w' b t cs) :
    w'.cell? ⟨ab, i, none⟩ = some u ∧ Whole w' g 73 cg ∧ Whole w' xb 47 cx := by
  obtain ⟨us, r1, r2, r3⟩ := h.rws
  exact ⟨by rw [(keep (by decide) r2).cell, ← r2.cell]; exact hcell, keep (by decide) h.g, keep (by decide) h.x⟩
end
end Go.Proofs.YtfngkbpoefapdaaDoor
