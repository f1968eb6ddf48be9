/- Rows, tables of rows, and the odag that holds them. -/
import Derived.Test.YtcmocigckcjdjaaGreatDoorRows1
namespace Go.Proofs.YtcmocigckcjdjaaGreatDoor
open Go.RowKit

theorem infoTab : (Tryz.prog.info? 22).map (fun i => (i.zero, i.size, i.bytes)) = some (some (.slice none 0 0), 1, 24) := by kernel_rfl
section
variable {w w' : World} {base : Nat} {v : Value} {C : List (List Int)}
theorem RowsOwn.keptO {b e s n : Nat} {r : Value} {xs : List Value} (h : RowsOwn w base v C) (hg : w.grownBy w' r.ownBlock) (ho : w.ownsRow b e s r n xs) (h1 : 44 ≠ e) (h2 : 3 ≠ e) : RowsOwn w' base v C := by
  obtain ⟨us, h, hr⟩ := h
  exact ⟨us, h.kept hg (own_apart h ho h1), fun i u L hu hL => (hr i u L hu hL).kept hg (own_apart (hr i u L hu hL) ho h2)⟩
theorem RowsOwn.put {p : Addr} {t : TypeId} {cs : Array Value} (h : RowsOwn w base v C) (hg : Whole w p.block t cs) (h1 : 44 ≠ t) (h2 : 3 ≠ t) (u : Value) : RowsOwn (w.setCell p u) base v C := by
  obtain ⟨us, h, hr⟩ := h
  exact ⟨us, own_put h (own_ne h hg h1) u, fun i x L hx hL => own_put (hr i x L hx hL) (own_ne (hr i x L hx hL) hg h2) u⟩
theorem RowsOwn.lower {b : Nat} (h : RowsOwn w base v C) (hb : b ≤ base) : RowsOwn w b v C := by
  obtain ⟨us, h, hr⟩ := h
  exact ⟨us, own_base h hb, fun i u L hu hL => own_base (hr i u L hu hL) hb⟩
end

/-- Tables of rows, in a row of their own. -/
def TabsOwn (w : World) (base : Nat) (v : Value) (K : List (List (List Int))) : Prop :=
  ∃ us : List Value, w.ownsRow base 22 1 v K.length us ∧ ∀ (i : Nat) (u : Value) (T : List (List Int)), us[i]? = some u → K[i]? = some T → RowsOwn w base u T
section
variable {w w' : World} {base : Nat} {v : Value} {K : List (List (List Int))}
theorem TabsOwn.nil (w : World) (base : Nat) : TabsOwn w base (.slice none 0 0) [] := ⟨[], World.ownsRow_nil w base _ 1, fun i u L h => by simp at h⟩
theorem TabsOwn.form (h : TabsOwn w base v K) : ∃ A c, v = .slice A K.length c := by
  obtain ⟨us, h, _⟩ := h
  exact own_form h
theorem TabsOwn.below {B : Nat} (h : TabsOwn w base v K) (hb : Below B w w') (hB : w.heap.size ≤ B) : TabsOwn w' base v K := by
  obtain ⟨us, h, hr⟩ := h
  exact ⟨us, own_below h hb hB, fun i u L hu hL => (hr i u L hu hL).below hb hB⟩
theorem TabsOwn.keptO {b e s n : Nat} {r : Value} {xs : List Value} (h : TabsOwn w base v K) (hg : w.grownBy w' r.ownBlock) (ho : w.ownsRow b e s r n xs) (h0 : 22 ≠ e) (h1 : 44 ≠ e) (h2 : 3 ≠ e) : TabsOwn w' base v K := by
  obtain ⟨us, h, hr⟩ := h
  exact ⟨us, h.kept hg (own_apart h ho h0), fun i u L hu hL => (hr i u L hu hL).keptO hg ho h1 h2⟩
theorem TabsOwn.put {p : Addr} {t : TypeId} {cs : Array Value} (h : TabsOwn w base v K) (hg : Whole w p.block t cs) (h0 : 22 ≠ t) (h1 : 44 ≠ t) (h2 : 3 ≠ t) (u : Value) : TabsOwn (w.setCell p u) base v K := by
  obtain ⟨us, h, hr⟩ := h
  exact ⟨us, own_put h (own_ne h hg h0) u, fun i x L hx hL => (hr i x L hx hL).put hg h1 h2 u⟩
theorem TabsOwn.more {v' u : Value} {T : List (List Int)} {us : List Value} (h : w.ownsRow base 22 1 v K.length us) (hr : ∀ (i : Nat) (u : Value) (T : List (List Int)), us[i]? = some u → K[i]? = some T → RowsOwn w base u T)
    (hu : RowsOwn w base u T) (h' : w'.ownsRow base 22 1 v' (K.length + 1) (us ++ [u])) (hg : Grew w v w' v') : TabsOwn w' base v' (K ++ [T]) := by
  have hl : us.length = K.length := by have := h.1; simpa using this
  refine ⟨us ++ [u], by simpa using h', fun i x M hx hM => ?_⟩
  rcases Nat.lt_or_ge i K.length with hi | hi
  · rw [List.getElem?_append_left (by omega)] at hx hM
    exact (hr i x M hx hM).keptO hg.1 h (by decide) (by decide)
  · rw [List.getElem?_append_right (by omega)] at hx hM
    rcases (by omega : i = K.length ∨ K.length < i) with rfl | h1
    · rw [hl, Nat.sub_self] at hx
      rw [Nat.sub_self] at hM
      simp at hx hM
      subst hx hM
      exact hu.keptO hg.1 h (by decide) (by decide)
    · rw [List.getElem?_eq_none (by simp; omega)] at hx; cases hx
end
/-- Tables of rows, as a reader sees them. -/
def TabsV (w : World) (v : Value) (K : List (List (List Int))) : Prop :=
  ∃ us : List Value, us.length = K.length ∧ (∀ (i : Nat) (u : Value) (T : List (List Int)), us[i]? = some u → K[i]? = some T → ListsV w u T) ∧
    ((K = [] ∧ ∃ (ao : Option Addr) (cap : Nat), v = .slice ao 0 cap) ∨ (0 < K.length ∧ ∃ b off cap : Nat, v = .slice (some ⟨b, off, none⟩) K.length cap ∧ ∀ i, i < K.length → w.cell? ⟨b, off + i, none⟩ = us[i]?))
theorem TabsOwn.tabs {w : World} {base : Nat} {v : Value} {K : List (List (List Int))} (h : TabsOwn w base v K) : TabsV w v K := by
  obtain ⟨us, h, hr⟩ := h
  have hl : us.length = K.length := by have := h.1; simpa using this
  refine ⟨us, hl, fun i u L hu hL => (hr i u L hu hL).lists, ?_⟩
  have h0 := h
  rcases h.2 with ⟨rfl, h1⟩ | ⟨g, cap, cur, rfl, _, hh, hcap, _⟩
  · exact Or.inl ⟨List.eq_nil_of_length_eq_zero h1, _, _, rfl⟩
  · rcases Nat.eq_zero_or_pos K.length with h3 | h3
    · exact Or.inl ⟨List.eq_nil_of_length_eq_zero h3, _, _, by rw [h3]⟩
    · refine Or.inr ⟨h3, g, 0, cap, rfl, fun i hi => ?_⟩
      rw [Nat.zero_add, h0.cellAt i (by omega)]
theorem TabsV.below {w w' : World} {v : Value} {K : List (List (List Int))} (h : TabsV w v K) {B : Nat} (hb : Below B w w') (hB : w.heap.size ≤ B) : TabsV w' v K := by
  obtain ⟨us, hl, hr, h⟩ := h
  refine ⟨us, hl, fun i u L hu hL => (hr i u L hu hL).below hb hB, ?_⟩
  rcases h with h | ⟨h0, b, off, cap, rfl, hc⟩
  · exact Or.inl h
  · refine Or.inr ⟨h0, b, off, cap, rfl, fun i hi => ?_⟩
    have h1 := hc i hi
    rw [List.getElem?_eq_getElem (by omega)] at h1 ⊢
    exact (hb.cell (p := ⟨b, off + i, none⟩) (Nat.lt_of_lt_of_le (World.block_lt_of_cell? _ _ h1) hB)).trans h1
theorem TabsV.form {w : World} {v : Value} {K : List (List (List Int))} (h : TabsV w v K) : ∃ A c, v = .slice A K.length c := by
  obtain ⟨us, hl, hr, h⟩ := h
  rcases h with ⟨rfl, A, c, rfl⟩ | ⟨_, b, off, c, rfl, _⟩
  · exact ⟨_, _, rfl⟩
  · exact ⟨_, _, rfl⟩
theorem TabsV.pos {w : World} {A : Option Addr} {n c : Nat} {K : List (List (List Int))} (h : TabsV w (.slice A n c) K) {i : Nat} (hi : i < K.length) : ∃ b off u, A = some ⟨b, off, none⟩ ∧ w.cell? ⟨b, off + i, none⟩ = some u ∧ ListsV w u K[i] := by
  obtain ⟨us, hl, hr, h⟩ := h
  rcases h with ⟨rfl, _⟩ | ⟨_, b, off, c, e, hc⟩
  · simp at hi
  · injection e with e1 e2 e3
    have h1 := hc i hi
    rw [List.getElem?_eq_getElem (by omega)] at h1
    exact ⟨b, off, _, e1, h1, hr i _ _ (List.getElem?_eq_getElem (by omega)) (List.getElem?_eq_getElem hi)⟩

/-- An odag: its rows and its links. -/
def OdagV (w : World) (v : Value) (R : List (List Int)) (K : List (List (List Int))) : Prop :=
  ∃ b vr vk, v = .pointer (some ⟨b, 0, none⟩) ∧ Whole w b 57 #[vr, vk] ∧ ListsV w vr R ∧ TabsV w vk K
theorem OdagV.below {w w' : World} {v : Value} {R : List (List Int)} {K : List (List (List Int))} (h : OdagV w v R K) {B : Nat} (hb : Below B w w') (hB : w.heap.size ≤ B) : OdagV w' v R K := by
  obtain ⟨b, vr, vk, e, h1, h2, h3⟩ := h
  exact ⟨b, vr, vk, e, h1.below hb (Nat.lt_of_lt_of_le h1.lt hB), h2.below hb hB, h3.below hb hB⟩

/-- A slice appended to a row of slices: the run, ahead of the walk. -/
theorem app_row {V : World} {base q c : Nat} {xs : List Value} {A : Option Addr} (hb : base ≤ V.heap.size) (hown : V.ownsRow base 44 1 (.slice A q c) q xs) (hq : q ≤ 1000000) (u : Value) (hu : u.oneCell' = true) :
    ∃ B cap w1, (appSem #[22, 22] 22 #[.slice A q c, .slice (some ⟨V.heap.size, 0, none⟩) 1 1]).run Tryz.prog (V.alloc (.cells #[u] 44)) = .ok (.slice B (q + 1) cap) w1 ∧
      w1.ownsRow base 44 1 (.slice B (q + 1) cap) (q + 1) (xs ++ [u]) ∧ Grew V (.slice A q c) w1 (.slice B (q + 1) cap) := by
  obtain ⟨i0, hi0, hz0, hz1, hz2⟩ := info_parts Tryz.infoRow
  obtain ⟨v', w1, h1, h2, h3, _, h5⟩ := run_append_own_at (P := Tryz.prog) (V.alloc (.cells #[u] 44)) base 22 22 44 i0 _ 1 24 Tryz.underlying22 hi0 hz0 hz1 hz2 rfl (by omega) (.slice A q c) q xs (hown.alloc _) ⟨V.heap.size, 0, none⟩ 1 1 [u] rfl
    (by
      intro j x hj
      match j, hj with
      | 0, hj =>
        simp at hj; subst hj
        exact (Whole.new V 44 #[u]).cell 0)
    (by intro x hx; simp at hx; subst hx; exact hu) (by unfold maxLen; omega) (by omega) (Nat.le_trans hb (by simp))
  obtain ⟨B, cap, rfl⟩ := own_form h2
  refine ⟨B, cap, w1, h1, h2, grown_of_alloc h3, ?_⟩
  rcases h5 with h5 | h5
  · exact Or.inl h5
  · exact Or.inr ⟨_, h5, by simp⟩
theorem app_tab {V : World} {base q c : Nat} {xs : List Value} {A : Option Addr} (hb : base ≤ V.heap.size) (hown : V.ownsRow base 22 1 (.slice A q c) q xs) (hq : q ≤ 1000000) (u : Value) (hu : u.oneCell' = true) :
    ∃ B cap w1, (appSem #[55, 55] 55 #[.slice A q c, .slice (some ⟨V.heap.size, 0, none⟩) 1 1]).run Tryz.prog (V.alloc (.cells #[u] 22)) = .ok (.slice B (q + 1) cap) w1 ∧
      w1.ownsRow base 22 1 (.slice B (q + 1) cap) (q + 1) (xs ++ [u]) ∧ Grew V (.slice A q c) w1 (.slice B (q + 1) cap) := by
  obtain ⟨i0, hi0, hz0, hz1, hz2⟩ := info_parts infoTab
  obtain ⟨v', w1, h1, h2, h3, _, h5⟩ := run_append_own_at (P := Tryz.prog) (V.alloc (.cells #[u] 22)) base 55 55 22 i0 _ 1 24 Tryz.underlying55 hi0 hz0 hz1 hz2 rfl (by omega) (.slice A q c) q xs (hown.alloc _) ⟨V.heap.size, 0, none⟩ 1 1 [u] rfl
    (by
      intro j x hj
      match j, hj with
      | 0, hj =>
        simp at hj; subst hj
        exact (Whole.new V 22 #[u]).cell 0)
    (by intro x hx; simp at hx; subst hx; exact hu) (by unfold maxLen; omega) (by omega) (Nat.le_trans hb (by simp))
  obtain ⟨B, cap, rfl⟩ := own_form h2
  refine ⟨B, cap, w1, h1, h2, grown_of_alloc h3, ?_⟩
  rcases h5 with h5 | h5
  · exact Or.inl h5
  · exact Or.inr ⟨_, h5, by simp⟩
end Go.Proofs.YtcmocigckcjdjaaGreatDoor
