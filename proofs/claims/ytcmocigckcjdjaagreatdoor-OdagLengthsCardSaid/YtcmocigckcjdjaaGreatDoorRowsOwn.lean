/- Rows of rows of numbers. -/
import Derived.Test.YtcmocigckcjdjaaGreatDoorSeq
import Derived.Lib.SliceRun
namespace Go.Proofs.YtcmocigckcjdjaaGreatDoor
open Go.RowKit

theorem Tryz.infoRow : (Tryz.prog.info? 44).map (fun i => (i.zero, i.size, i.bytes)) = some (some (.slice none 0 0), 1, 24) := by kernel_rfl

/-- Two rows of unlike elements lie apart. -/
theorem own_apart {w : World} {b b' e e' s s' n n' : Nat} {v v' : Value} {xs xs' : List Value} (h : w.ownsRow b e s v n xs) (k : w.ownsRow b' e' s' v' n' xs') (hne : e ≠ e') : v.ownBlock = none ∨ v.ownBlock ≠ v'.ownBlock := by
  rcases h.2 with ⟨rfl, _⟩ | ⟨g, cap, cur, rfl, _, hh, _⟩
  · exact Or.inl rfl
  · refine Or.inr ?_
    rcases k.2 with ⟨rfl, _⟩ | ⟨g', cap', cur', rfl, _, hh', _⟩
    · simp [Value.ownBlock]
    · intro e1
      have e2 : g = g' := by simpa [Value.ownBlock] using e1
      subst e2
      rw [hh] at hh'
      injection hh' with hh'
      injection hh' with _ ht
      exact hne ht
theorem own_whole {w : World} {b e s n g : Nat} {v : Value} {xs : List Value} {t : TypeId} {cs : Array Value} (h : w.ownsRow b e s v n xs) (hg : Whole w g t cs) (hne : e ≠ t) : v.ownBlock = none ∨ v.ownBlock ≠ some g := Or.inr (own_ne h hg hne)

/-- Rows of numbers, in a row of their own. -/
def RowsOwn (w : World) (base : Nat) (v : Value) (C : List (List Int)) : Prop :=
  ∃ us : List Value, w.ownsRow base 44 1 v C.length us ∧ ∀ (i : Nat) (u : Value) (L : List Int), us[i]? = some u → C[i]? = some L → w.ownsRow base 3 1 u L.length (intCells L)
theorem RowsOwn.nil (w : World) (base : Nat) : RowsOwn w base (.slice none 0 0) [] := ⟨[], World.ownsRow_nil w base _ 1, fun i u L h => by simp at h⟩
theorem RowsOwn.form {w : World} {base : Nat} {v : Value} {C : List (List Int)} (h : RowsOwn w base v C) : ∃ A c, v = .slice A C.length c := by
  obtain ⟨us, h, _⟩ := h
  exact own_form h
theorem RowsOwn.kept {w w' : World} {base g : Nat} {v : Value} {C : List (List Int)} {t : TypeId} {cs : Array Value} (h : RowsOwn w base v C) (hw : w.grownBy w' (some g)) (hg : Whole w g t cs) (h1 : 44 ≠ t) (h2 : 3 ≠ t) : RowsOwn w' base v C := by
  obtain ⟨us, h, hr⟩ := h
  exact ⟨us, h.kept hw (own_whole h hg h1), fun i u L hu hL => (hr i u L hu hL).kept hw (own_whole (hr i u L hu hL) hg h2)⟩
theorem RowsOwn.below {w w' : World} {base B : Nat} {v : Value} {C : List (List Int)} (h : RowsOwn w base v C) (hb : Below B w w') (hB : w.heap.size ≤ B) : RowsOwn w' base v C := by
  obtain ⟨us, h, hr⟩ := h
  exact ⟨us, own_below h hb hB, fun i u L hu hL => own_below (hr i u L hu hL) hb hB⟩
theorem RowsOwn.more {w w' : World} {base : Nat} {v v' u : Value} {C : List (List Int)} {L : List Int} {us : List Value} (h : w.ownsRow base 44 1 v C.length us) (hr : ∀ (i : Nat) (u : Value) (L : List Int), us[i]? = some u → C[i]? = some L → w.ownsRow base 3 1 u L.length (intCells L))
    (hu : w.ownsRow base 3 1 u L.length (intCells L)) (h' : w'.ownsRow base 44 1 v' (C.length + 1) (us ++ [u])) (hg : Grew w v w' v') : RowsOwn w' base v' (C ++ [L]) := by
  have hne : 3 ≠ 44 := by decide
  have hl : us.length = C.length := by have := h.1; simpa using this
  refine ⟨us ++ [u], by simpa using h', fun i x M hx hM => ?_⟩
  rcases Nat.lt_or_ge i C.length with hi | hi
  · rw [List.getElem?_append_left (by omega)] at hx hM
    have := hr i x M hx hM
    exact this.kept hg.1 (own_apart this h hne)
  · rw [List.getElem?_append_right (by omega)] at hx hM
    rcases (by omega : i = C.length ∨ C.length < i) with rfl | h1
    · rw [hl, Nat.sub_self] at hx
      rw [Nat.sub_self] at hM
      simp at hx hM
      subst hx hM
      exact hu.kept hg.1 (own_apart hu h hne)
    · rw [List.getElem?_eq_none (by simp; omega)] at hx; cases hx

/-- Lists of numbers, as a reader sees them. -/
def ListsV (w : World) (v : Value) (C : List (List Int)) : Prop :=
  ∃ us : List Value, us.length = C.length ∧ (∀ (i : Nat) (u : Value) (L : List Int), us[i]? = some u → C[i]? = some L → SeqC w u L) ∧
    ((C = [] ∧ ∃ (ao : Option Addr) (cap : Nat), v = .slice ao 0 cap) ∨ (0 < C.length ∧ ∃ b off cap : Nat, v = .slice (some ⟨b, off, none⟩) C.length cap ∧ ∀ i, i < C.length → w.cell? ⟨b, off + i, none⟩ = us[i]?))
theorem RowsOwn.lists {w : World} {base : Nat} {v : Value} {C : List (List Int)} (h : RowsOwn w base v C) : ListsV w v C := by
  obtain ⟨us, h, hr⟩ := h
  have hl : us.length = C.length := by have := h.1; simpa using this
  refine ⟨us, hl, fun i u L hu hL => own_seqC (hr i u L hu hL), ?_⟩
  have h0 := h
  rcases h.2 with ⟨rfl, h1⟩ | ⟨g, cap, cur, rfl, _, hh, hcap, _⟩
  · exact Or.inl ⟨List.eq_nil_of_length_eq_zero h1, _, _, rfl⟩
  · rcases Nat.eq_zero_or_pos C.length with h3 | h3
    · exact Or.inl ⟨List.eq_nil_of_length_eq_zero h3, _, _, by rw [h3]⟩
    · refine Or.inr ⟨h3, g, 0, cap, rfl, fun i hi => ?_⟩
      rw [Nat.zero_add, h0.cellAt i (by omega)]
theorem ListsV.below {w w' : World} {v : Value} {C : List (List Int)} (h : ListsV w v C) {B : Nat} (hb : Below B w w') (hB : w.heap.size ≤ B) : ListsV w' v C := by
  obtain ⟨us, hl, hr, h⟩ := h
  refine ⟨us, hl, fun i u L hu hL => (hr i u L hu hL).below hb hB, ?_⟩
  rcases h with h | ⟨h0, b, off, cap, rfl, hc⟩
  · exact Or.inl h
  · refine Or.inr ⟨h0, b, off, cap, rfl, fun i hi => ?_⟩
    have h1 := hc i hi
    rw [List.getElem?_eq_getElem (by omega)] at h1 ⊢
    exact (hb.cell (p := ⟨b, off + i, none⟩) (Nat.lt_of_lt_of_le (World.block_lt_of_cell? _ _ h1) hB)).trans h1
theorem ListsV.form {w : World} {v : Value} {C : List (List Int)} (h : ListsV w v C) : ∃ A c, v = .slice A C.length c := by
  obtain ⟨us, hl, hr, h⟩ := h
  rcases h with ⟨rfl, A, c, rfl⟩ | ⟨_, b, off, c, rfl, _⟩
  · exact ⟨_, _, rfl⟩
  · exact ⟨_, _, rfl⟩
theorem ListsV.pos {w : World} {A : Option Addr} {n c : Nat} {C : List (List Int)} (h : ListsV w (.slice A n c) C) {i : Nat} (hi : i < C.length) : ∃ b off u, A = some ⟨b, off, none⟩ ∧ w.cell? ⟨b, off + i, none⟩ = some u ∧ SeqC w u C[i] := by
  obtain ⟨us, hl, hr, h⟩ := h
  rcases h with ⟨rfl, _⟩ | ⟨_, b, off, c, e, hc⟩
  · simp at hi
  · injection e with e1 e2 e3
    have h1 := hc i hi
    rw [List.getElem?_eq_getElem (by omega)] at h1
    exact ⟨b, off, _, e1, h1, hr i _ _ (List.getElem?_eq_getElem (by omega)) (List.getElem?_eq_getElem hi)⟩

end Go.Proofs.YtcmocigckcjdjaaGreatDoor
