/- Rows of numbers in one block; a number appended to one of them; an append whose run is known ahead of the walk. -/
import Derived.Test.YtcmocigckcjdjaaGreatDoorFam
import Derived.Test.YtcmocigckcjdjaaGreatDoorOdP13
import Derived.Test.YtcmocigckcjdjaaGreatDoorReads5
namespace Go.Proofs.YtcmocigckcjdjaaGreatDoor
open Go.RowKit

/-- append, by a name that the walk does not open. -/
def appSem (ts : Array TypeId) (ty : TypeId) (args : Array Value) : Sem Value := Builtin.append_ ts ty args
theorem app_alias (ts : Array TypeId) (ty : TypeId) (args : Array Value) : Builtin.append_ ts ty args = appSem ts ty args := rfl
/-- A number appended to a row: the run, ahead of the walk. -/
theorem app_num {V : World} {base q c : Nat} {M : List Int} {A : Option Addr} (hb : base ≤ V.heap.size) (hown : V.ownsRow base 3 1 (.slice A q c) q (intCells M)) (hq : q ≤ 1000000) (z : Int) :
    ∃ B cap w1, (appSem #[44, 44] 44 #[.slice A q c, .slice (some ⟨V.heap.size, 0, none⟩) 1 1]).run Tryz.prog ((V.alloc (.cells #[.int .i64 z] 3)).drew) = .ok (.slice B (q + 1) cap) w1 ∧
      w1.ownsRow base 3 1 (.slice B (q + 1) cap) (q + 1) (intCells M ++ [.int .i64 z]) ∧ Grew V.drew (.slice A q c) w1 (.slice B (q + 1) cap) := by
  obtain ⟨i0, hi0, hz0, hz1, hz2⟩ := info_parts Tryz.infoInt6
  obtain ⟨v', w1, h1, h2, h3, _, h5⟩ := run_append_own_at (P := Tryz.prog) ((V.alloc (.cells #[.int .i64 z] 3)).drew) base 44 44 3 i0 _ 1 8 Tryz.underlying44 hi0 hz0 hz1 hz2 rfl (by omega) (.slice A q c) q (intCells M) (own_drewN (hown.alloc _) 1) ⟨V.heap.size, 0, none⟩ 1 1 [.int .i64 z] rfl
    (by
      intro j u hj
      match j, hj with
      | 0, hj =>
        simp at hj; subst hj
        exact ((Whole.new V 3 #[.int .i64 z]).drewN 1).cell 0)
    (by simp [Value.oneCell']) (by unfold maxLen; omega) (by omega) (Nat.le_trans hb (by show V.heap.size ≤ (V.alloc _).heap.size; simp))
  obtain ⟨B, cap, rfl⟩ := own_form h2
  refine ⟨B, cap, w1, h1, h2, grown_of_alloc (o := .cells #[.int .i64 z] 3) ⟨h3.os, h3.tape, h3.output, h3.size, h3.block⟩, ?_⟩
  rcases h5 with h5 | h5
  · exact Or.inl h5
  · refine Or.inr ⟨_, h5, ?_⟩
    show V.heap.size ≤ (V.alloc _).heap.size
    simp

theorem Fam.put {w : World} {base : Nat} {us : List Value} {C : List (List Int)} {p : Addr} {t : TypeId} {cs : Array Value} (h : Fam w base us C) (hg : Whole w p.block t cs) (ht : 3 ≠ t) (u : Value) : Fam (w.setCell p u) base us C :=
  ⟨h.len, fun i x L hx hL => own_put (h.row i x L hx hL) (own_ne (h.row i x L hx hL) hg ht) u, h.apart⟩
/-- Rows in one block. -/
def Rows1 (w : World) (base nb : Nat) (C : List (List Int)) : Prop := ∃ us : List Value, Whole w nb 44 us.toArray ∧ Fam w base us C
section
variable {w w' : World} {base nb : Nat} {C : List (List Int)}
theorem Rows1.below {B : Nat} (h : Rows1 w base nb C) (hb : Below B w w') (hB : w.heap.size ≤ B) : Rows1 w' base nb C := by
  obtain ⟨us, h1, h3⟩ := h
  exact ⟨us, h1.below hb (by have := h1.lt; omega), h3.below hb hB⟩
theorem Rows1.lt (h : Rows1 w base nb C) : nb < w.heap.size := by
  obtain ⟨us, h1, _⟩ := h
  exact h1.lt
theorem Rows1.at (h : Rows1 w base nb C) {i : Nat} {M : List Int} (hM : C[i]? = some M) : ∃ A c, w.cell? ⟨nb, i, none⟩ = some (.slice A M.length c) ∧ w.frozen? ⟨nb, i, none⟩ = false ∧ w.ownsRow base 3 1 (.slice A M.length c) M.length (intCells M) := by
  obtain ⟨us, h1, h3⟩ := h
  have hi : i < us.length := by rw [h3.len]; exact (List.getElem?_eq_some_iff.1 hM).1
  have hu : us[i]? = some us[i] := List.getElem?_eq_getElem hi
  have ho := h3.row i _ _ hu hM
  obtain ⟨A, c, e⟩ := own_form ho
  rw [e] at ho hu
  refine ⟨A, c, ?_, h1.free _, ho⟩
  rw [h1.cell i, List.getElem?_toArray, hu]
theorem Rows1.put (h : Rows1 w base nb C) {i : Nat} {u u' : Value} {N : List Int} (hi : i < C.length) (hc : w.cell? ⟨nb, i, none⟩ = some u) (hg : Grew w u w' u') (hown : w'.ownsRow base 3 1 u' N.length (intCells N)) :
    Rows1 (w'.setCell ⟨nb, i, none⟩ u') base nb (C.set i N) := by
  obtain ⟨us, h1, h3⟩ := h
  have hu : us[i]? = some u := by
    rw [h1.cell i, List.getElem?_toArray] at hc
    exact hc
  have hM : C[i]? = some C[i] := List.getElem?_eq_getElem hi
  have ho := h3.row i _ _ hu hM
  have hne : 3 ≠ 44 := by decide
  have k1 := hg.whole h1 ho hne
  refine ⟨us.set i u', ?_, (h3.app hu hM hg hown).put (p := ⟨nb, i, none⟩) k1 hne _⟩
  have := k1.put i u'
  rwa [show us.toArray.setIfInBounds i u' = (us.set i u').toArray by simp] at this
/-- What is read in its place while one is appended to. -/
theorem Rows1.same (h : Rows1 w base nb C) {i : Nat} {u u' : Value} (hi : i < C.length) (hc : w.cell? ⟨nb, i, none⟩ = some u) (hg : Grew w u w' u') : w'.cell? ⟨nb, i, none⟩ = some u ∧ w'.frozen? ⟨nb, i, none⟩ = false := by
  obtain ⟨us, h1, h3⟩ := h
  have hu : us[i]? = some u := by
    rw [h1.cell i, List.getElem?_toArray] at hc
    exact hc
  have ho := h3.row i _ _ hu (List.getElem?_eq_getElem hi)
  have k1 := hg.whole h1 ho (by decide)
  exact ⟨by rw [k1.cell, ← h1.cell]; exact hc, k1.free _⟩
theorem Rows1.other (h : Rows1 w base nb C) {i : Nat} {u u' v : Value} {b e s n : Nat} {xs : List Value} (hi : i < C.length) (hc : w.cell? ⟨nb, i, none⟩ = some u) (hg : Grew w u w' u') (ho : w.ownsRow b e s v n xs) (he1 : e ≠ 3) (he2 : e ≠ 44) :
    (w'.setCell ⟨nb, i, none⟩ u').ownsRow b e s v n xs := by
  obtain ⟨us, h1, h3⟩ := h
  have hu : us[i]? = some u := by
    rw [h1.cell i, List.getElem?_toArray] at hc
    exact hc
  have hr := h3.row i _ _ hu (List.getElem?_eq_getElem hi)
  have k0 := ho.kept hg.1 (own_apart ho hr he1)
  have k1 := hg.whole h1 hr (by decide)
  exact own_put k0 (own_ne k0 k1 he2) _
theorem Rows1.rows (h : Rows1 w base nb C) (hb : base ≤ nb) (hC : C.length ≤ 1000000) : RowsOwn w base (.slice (some ⟨nb, 0, none⟩) C.length C.length) C := by
  obtain ⟨us, h1, h3⟩ := h
  refine ⟨us, ⟨by simpa using h3.len, Or.inr ⟨nb, C.length, _, rfl, hb, h1, Nat.le_refl _, by unfold maxLen; omega, by simp [h3.len], ?_⟩⟩, h3.row⟩
  rw [List.toList_toArray, List.take_of_length_le (by rw [h3.len]; omega)]
end
theorem Rows1.made {w : World} {base nb n : Nat} (h1 : Whole w nb 44 (madeCells #[.slice none 0 0] n)) : Rows1 w base nb (List.replicate n []) := by
  have e : madeCells #[Value.slice none 0 0] n = (List.replicate n (Value.slice none 0 0)).toArray := by
    rw [← Array.toList_inj, toList_madeCells_one]
  rw [e] at h1
  exact ⟨_, h1, Fam.made w base n⟩
theorem run_rows (n : Nat) (hn : n ≤ 1000000) (V : World) : (Instr.makeSlice 22 (.int .i64 (n : Nat)) (.int .i64 (n : Nat))).run Tryz.prog V = .ok (.slice (some ⟨V.heap.size, 0, none⟩) n n) (V.alloc (.cells (madeCells #[.slice none 0 0] n) 44)) := by
  obtain ⟨j1, hi1, ky0, ky1, ky2⟩ := info_parts Tryz.infoRow
  have h := run_make (P := Tryz.prog) V 22 44 j1 (.slice none 0 0) Tryz.underlying22 hi1 ky0 .i64 .i64 (n : Int) (n : Int) (by omega) (by omega) (by rw [ky2]; omega) (by omega)
  rw [h, ky1, Int.toNat_natCast, Nat.mul_one]
  rfl
end Go.Proofs.YtcmocigckcjdjaaGreatDoor
