/- Rows of texts, each in a block of its own; boxes while mails are put in: pure, and in memory. -/
import Derived.Test.YtlopoddllfkkfaaDoorBspG
import Derived.Test.YtlopoddllfkkfaaDoorApp2
namespace Go.Proofs.YtlopoddllfkkfaaDoor
open Go.RowKit

/-- Rows of texts, no two of which lie in one block. -/
structure FamT (w : World) (base : Nat) (us : List Value) (C : List (List ByteArray)) : Prop where
  len : us.length = C.length
  row : ∀ (i : Nat) (u : Value) (L : List ByteArray), us[i]? = some u → C[i]? = some L → w.ownsRow base 9 1 u L.length (txtC L)
  apart : ∀ (i j : Nat) (u v : Value), i ≠ j → us[i]? = some u → us[j]? = some v → u.ownBlock = none ∨ u.ownBlock ≠ v.ownBlock
section
variable {w w' : World} {base : Nat} {us : List Value} {C : List (List ByteArray)}
theorem FamT.made (w : World) (base n : Nat) : FamT w base (List.replicate n (.slice none 0 0)) (List.replicate n []) :=
  ⟨by simp, fun i u L hu hL => by
    have h1 := List.getElem?_eq_some_iff.1 hu
    have h2 := List.getElem?_eq_some_iff.1 hL
    obtain ⟨_, h1⟩ := h1
    obtain ⟨_, h2⟩ := h2
    simp at h1 h2
    subst h1 h2
    exact World.ownsRow_nil w base _ 1, fun i j u v _ hu _ => by
    obtain ⟨_, h1⟩ := List.getElem?_eq_some_iff.1 hu
    simp at h1
    subst h1
    exact Or.inl rfl⟩
theorem FamT.kept {r : Option Nat} (h : FamT w base us C) (hg : w.grownBy w' r) (hr : ∀ (i : Nat) (u : Value), us[i]? = some u → u.ownBlock = none ∨ u.ownBlock ≠ r) : FamT w' base us C :=
  ⟨h.len, fun i u L hu hL => (h.row i u L hu hL).kept hg (hr i u hu), h.apart⟩
theorem FamT.below {B : Nat} (h : FamT w base us C) (hb : Below B w w') (hB : w.heap.size ≤ B) : FamT w' base us C :=
  ⟨h.len, fun i u L hu hL => own_below (h.row i u L hu hL) hb hB, h.apart⟩
theorem FamT.at {i : Nat} (h : FamT w base us C) (hi : i < C.length) : ∃ u, us[i]? = some u ∧ w.ownsRow base 9 1 u C[i].length (txtC C[i]) := by
  have hl : i < us.length := by rw [h.len]; exact hi
  exact ⟨us[i], List.getElem?_eq_getElem hl, h.row i _ _ (List.getElem?_eq_getElem hl) (List.getElem?_eq_getElem hi)⟩
theorem FamT.whole {g : Nat} {t : TypeId} {cs : Array Value} (h : FamT w base us C) (hg : Whole w g t cs) (ht : 9 ≠ t) : ∀ (i : Nat) (u : Value), us[i]? = some u → u.ownBlock = none ∨ u.ownBlock ≠ some g := fun i u hu => by
  have hi : i < us.length := (List.getElem?_eq_some_iff.1 hu).1
  have hl : i < C.length := by rw [← h.len]; exact hi
  exact own_whole (h.row i u _ hu (List.getElem?_eq_getElem hl)) hg ht
/-- A number appended to one of the rows. -/
theorem FamT.app {i : Nat} {u u' : Value} {L M : List ByteArray} (h : FamT w base us C) (hu : us[i]? = some u) (_hL : C[i]? = some L) (hg : Grew w u w' u') (hown : w'.ownsRow base 9 1 u' M.length (txtC M)) : FamT w' base (us.set i u') (C.set i M) := by
  have hi : i < us.length := (List.getElem?_eq_some_iff.1 hu).1
  have lt : ∀ (j : Nat) (v : Value) (k : Nat), us[j]? = some v → v.ownBlock = some k → k < w.heap.size := fun j v k hv hk => by
    have hj : j < us.length := (List.getElem?_eq_some_iff.1 hv).1
    have hl : j < C.length := by rw [← h.len]; exact hj
    exact ((h.row j v _ hv (List.getElem?_eq_getElem hl)).lt k hk).2
  refine ⟨by simp [h.len], fun j v K hv hK => ?_, fun j k v x hjk hv hx => ?_⟩
  · by_cases hj : i = j
    · subst hj
      rw [List.getElem?_set_self hi] at hv
      rw [List.getElem?_set_self (by rw [← h.len]; exact hi)] at hK
      injection hv with hv
      injection hK with hK
      subst hv hK
      exact hown
    · rw [List.getElem?_set_ne hj] at hv hK
      exact (h.row j v K hv hK).kept hg.1 (h.apart j i v u (fun e => hj e.symm) hv hu)
  · by_cases h1 : i = j
    · subst h1
      rw [List.getElem?_set_self hi] at hv
      rw [List.getElem?_set_ne hjk] at hx
      injection hv with hv
      subst hv
      rcases hg.2 with h2 | ⟨b, h2, h3⟩
      · rw [h2]
        exact h.apart i k u x hjk hu hx
      · refine Or.inr (fun e => ?_)
        rw [h2] at e
        have := lt k x b hx e.symm
        omega
    · rw [List.getElem?_set_ne h1] at hv
      by_cases h2 : i = k
      · subst h2
        rw [List.getElem?_set_self hi] at hx
        injection hx with hx
        subst hx
        rcases hg.2 with h3 | ⟨b, h3, h4⟩
        · rw [h3]
          exact h.apart j i v u hjk hv hu
        · by_cases h5 : v.ownBlock = none
          · exact Or.inl h5
          · refine Or.inr (fun e => ?_)
            rw [h3] at e
            have := lt j v b hv e
            omega
      · rw [List.getElem?_set_ne h2] at hx
        exact h.apart j k v x hjk hv hx
end

/-- A text appended to a row: the run, ahead of the walk; the world has drawn d times. -/
theorem app_txtG {V : World} {base q c : Nat} {A : Option Addr} {X : List ByteArray} (d : Nat) (hown : V.ownsRow base 9 1 (.slice A q c) q (txtC X)) (hq : q ≤ 100000) (hbase : base ≤ V.heap.size) (z : ByteArray) :
    ∃ B cap w1, (appSem #[22, 22] 22 #[.slice A q c, .slice (some ⟨V.heap.size, 0, none⟩) 1 1]).run Tryd.prog ((V.alloc (.cells #[.string z] 9)).drewN d) = .ok (.slice B (q + 1) cap) w1 ∧
      w1.ownsRow base 9 1 (.slice B (q + 1) cap) (q + 1) (txtC (X ++ [z])) ∧ Grew V (.slice A q c) w1 (.slice B (q + 1) cap) := by
  obtain ⟨i0, hi, hz0, hz1, hz2⟩ := info_parts Tryd.infoStr
  obtain ⟨v', w1, h1, h2, h3, _, h5⟩ := run_append_own_at (P := Tryd.prog) ((V.alloc (.cells #[.string z] 9)).drewN d) base 22 22 9 i0 _ 1 16 Tryd.underlying22 hi hz0 hz1 hz2 rfl (by decide) (.slice A q c) q (txtC X) (own_drewN (hown.alloc _) d) ⟨V.heap.size, 0, none⟩ 1 1 [.string z] rfl
    (by
      intro j u hj
      match j, hj with
      | 0, hj =>
        simp at hj; subst hj
        exact ((Whole.new V 9 #[.string z]).drewN d).cell 0)
    (by simp [Value.oneCell']) (by unfold maxLen; omega) (by omega) (Nat.le_trans hbase (by show V.heap.size ≤ (V.alloc _).heap.size; simp))
  obtain ⟨B, cap, rfl⟩ := own_form h2
  refine ⟨B, cap, w1, h1, by rw [txtC_app]; exact h2, grown_of_alloc (o := .cells #[.string z] 9) ⟨h3.os, h3.tape, h3.output, h3.size, h3.block⟩, ?_⟩
  rcases h5 with h5 | h5
  · exact Or.inl h5
  · refine Or.inr ⟨_, h5, ?_⟩
    show V.heap.size ≤ (V.alloc _).heap.size
    simp
theorem app_txt0 {V : World} {base q c : Nat} {A : Option Addr} {X : List ByteArray} (hown : V.ownsRow base 9 1 (.slice A q c) q (txtC X)) (hq : q ≤ 100000) (hbase : base ≤ V.heap.size) (z : ByteArray) :
    ∃ B cap w1, (appSem #[22, 22] 22 #[.slice A q c, .slice (some ⟨V.heap.size, 0, none⟩) 1 1]).run Tryd.prog (V.alloc (.cells #[.string z] 9)) = .ok (.slice B (q + 1) cap) w1 ∧
      w1.ownsRow base 9 1 (.slice B (q + 1) cap) (q + 1) (txtC (X ++ [z])) ∧ Grew V (.slice A q c) w1 (.slice B (q + 1) cap) := app_txtG 0 hown hq hbase z
theorem app_txt1 {V : World} {base q c : Nat} {A : Option Addr} {X : List ByteArray} (hown : V.ownsRow base 9 1 (.slice A q c) q (txtC X)) (hq : q ≤ 100000) (hbase : base ≤ V.heap.size) (z : ByteArray) :
    ∃ B cap w1, (appSem #[22, 22] 22 #[.slice A q c, .slice (some ⟨V.heap.size, 0, none⟩) 1 1]).run Tryd.prog ((V.alloc (.cells #[.string z] 9)).drew) = .ok (.slice B (q + 1) cap) w1 ∧
      w1.ownsRow base 9 1 (.slice B (q + 1) cap) (q + 1) (txtC (X ++ [z])) ∧ Grew V (.slice A q c) w1 (.slice B (q + 1) cap) := app_txtG 1 hown hq hbase z
theorem own_stay {w w' : World} {b e s n : Nat} {v : Value} {xs : List Value} (h : w.ownsRow b e s v n xs) (hb : ∀ g, v.ownBlock = some g → w'.heap[g]? = w.heap[g]?) : w'.ownsRow b e s v n xs := by
  refine ⟨h.1, ?_⟩
  rcases h.2 with h1 | ⟨g, cap, cur, rfl, h2, h3, h4⟩
  · exact Or.inl h1
  · exact Or.inr ⟨g, cap, cur, rfl, h2, (hb g rfl).trans h3, h4⟩
theorem FamT.put {w : World} {base g i : Nat} {us : List Value} {C : List (List ByteArray)} (h : FamT w base us C) (hg : g < base) (u : Value) : FamT (w.setCell ⟨g, i, none⟩ u) base us C :=
  h.kept (grown_cell w g i u) (fun j v hv => Or.inr (fun e => by
    have hj : j < us.length := (List.getElem?_eq_some_iff.1 hv).1
    have hl : j < C.length := by rw [← h.len]; exact hj
    have := ((h.row j v _ hv (List.getElem?_eq_getElem hl)).lt g e).1
    omega))
/-- What has come to a worker, in the midst of a round. -/
def midBox (TL : List (List Int)) (st : Nat → ByteArray) (a i c : Nat) : List ByteArray := mailBox TL a st c ++ List.replicate (((TL.getD a []).take i).count (c : Int)) (st a)
def midL (TL : List (List Int)) (k : Nat) (st : Nat → ByteArray) (a i : Nat) : List (List ByteArray) := (List.range k).map (midBox TL st a i)
theorem midL_len (TL : List (List Int)) (k : Nat) (st : Nat → ByteArray) (a i : Nat) : (midL TL k st a i).length = k := by simp [midL]
theorem midL_at {TL : List (List Int)} {k : Nat} {st : Nat → ByteArray} {a i c : Nat} (h : c < k) : (midL TL k st a i)[c]? = some (midBox TL st a i c) := by simp [midL, h]
theorem midL_zero (TL : List (List Int)) (k : Nat) (st : Nat → ByteArray) : midL TL k st 0 0 = List.replicate k [] := by
  apply List.ext_getElem?
  intro c
  by_cases h : c < k
  · rw [midL_at h]; simp [midBox, mailBox, h]
  · rw [List.getElem?_eq_none (by rw [midL_len]; omega), List.getElem?_eq_none (by simp; omega)]
theorem mailBox_succ (TL : List (List Int)) (st : Nat → ByteArray) (a c : Nat) : mailBox TL (a + 1) st c = mailBox TL a st c ++ List.replicate (cntT TL a (c : Int)) (st a) := by
  unfold mailBox
  rw [List.range_succ, List.flatMap_append]
  simp
theorem midL_next (TL : List (List Int)) (k : Nat) (st : Nat → ByteArray) (a : Nat) : midL TL k st a (TL.getD a []).length = midL TL k st (a + 1) 0 := by
  unfold midL
  refine List.map_congr_left (fun c _ => ?_)
  unfold midBox
  rw [mailBox_succ, List.take_of_length_le (Nat.le_refl _)]
  simp [cntT]
theorem midL_set {TL : List (List Int)} {k : Nat} {st : Nat → ByteArray} {a i t : Nat} (hi : i < (TL.getD a []).length) (ht : (TL.getD a []).getD i 0 = (t : Int)) (htk : t < k) :
    (midL TL k st a i).set t (midBox TL st a i t ++ [st a]) = midL TL k st a (i + 1) ∧ midBox TL st a (i + 1) t = midBox TL st a i t ++ [st a] := by
  have e : ∀ c : Nat, ((TL.getD a []).take (i + 1)).count (c : Int) = ((TL.getD a []).take i).count (c : Int) + if c = t then 1 else 0 := fun c => by
    rw [take_snocT (d := 0) hi, ht, List.count_append, List.count_cons]
    by_cases h : c = t
    · subst h; simp
    · rw [if_neg h]
      have h9 : ¬ (t : Int) = (c : Int) := by omega
      simp [h9]
  have e2 : midBox TL st a (i + 1) t = midBox TL st a i t ++ [st a] := by
    unfold midBox
    rw [e t, if_pos rfl, List.replicate_succ', List.append_assoc]
  refine ⟨?_, e2⟩
  apply List.ext_getElem?
  intro c
  by_cases h : c < k
  · rw [midL_at h]
    by_cases hc : t = c
    · subst hc
      rw [List.getElem?_set_self (by rw [midL_len]; exact h), e2]
    · rw [List.getElem?_set_ne hc, midL_at h]
      unfold midBox
      rw [e c, if_neg (fun h => hc h.symm), Nat.add_zero]
  · rw [List.getElem?_eq_none (by rw [List.length_set, midL_len]; omega), List.getElem?_eq_none (by rw [midL_len]; omega)]
theorem mailBox_stop {TL : List (List Int)} {st : Nat → ByteArray} {c a : Nat} (h : TL.length ≤ a) : ∀ d, mailBox TL (a + d) st c = mailBox TL a st c
  | 0 => rfl
  | d + 1 => by
    rw [← Nat.add_assoc, mailBox_succ, mailBox_stop h d]
    have : TL.getD (a + d) [] = [] := by simp [List.getD, show TL.length ≤ a + d by omega]
    rw [show cntT TL (a + d) (c : Int) = 0 by unfold cntT; rw [this]; rfl]
    simp
theorem midL_stop {TL : List (List Int)} {k : Nat} {st : Nat → ByteArray} {a : Nat} (h : TL.length ≤ a) (hk : a ≤ k) : midL TL k st a 0 = (List.range k).map (mailBox TL k st) := by
  unfold midL
  refine List.map_congr_left (fun c _ => ?_)
  unfold midBox
  have h1 := mailBox_stop (st := st) (c := c) h (k - a)
  rw [show a + (k - a) = k by omega] at h1
  rw [h1]
  simp
theorem midL_end {TL : List (List Int)} {k : Nat} {st : Nat → ByteArray} : midL TL k st k 0 = (List.range k).map (mailBox TL k st) := by
  unfold midL
  refine List.map_congr_left (fun c _ => ?_)
  simp [midBox]
theorem midBox_len {TL : List (List Int)} {st : Nat → ByteArray} (h : ∀ a, (TL.getD a []).length ≤ 8) (a i c : Nat) : (midBox TL st a i c).length ≤ 8 * a + 8 := by
  unfold midBox
  rw [List.length_append, List.length_replicate]
  have h1 := mailBox_len (st := st) (c := c) h a
  have h2 : ((TL.getD a []).take i).count (c : Int) ≤ 8 := Nat.le_trans List.count_le_length (by rw [List.length_take]; have := h a; omega)
  omega
/-- Rows of texts, as a reader sees them. -/
def RowsT (w : World) (v : Value) (B : List (List ByteArray)) : Prop :=
  ∃ us : List Value, us.length = B.length ∧ ValsV w v us ∧ ∀ (i : Nat) (u : Value) (X : List ByteArray), us[i]? = some u → B[i]? = some X → ValsV w u (txtC X)
theorem RowsT.form {w : World} {v : Value} {B : List (List ByteArray)} (h : RowsT w v B) : ∃ A c, v = .slice A B.length c := by
  obtain ⟨us, hl, hv, _⟩ := h
  rcases hv with ⟨h0, A, c, rfl⟩ | ⟨_, b, off, c, rfl, _⟩
  · exact ⟨A, c, by rw [← hl, h0]; rfl⟩
  · exact ⟨_, c, by rw [hl]⟩
theorem RowsT.below {w w' : World} {v : Value} {B : List (List ByteArray)} (h : RowsT w v B) (hb : Below w.heap.size w w') : RowsT w' v B := by
  obtain ⟨us, hl, hv, hr⟩ := h
  exact ⟨us, hl, hv.below hb (Nat.le_refl _), fun i u X h1 h2 => (hr i u X h1 h2).below hb (Nat.le_refl _)⟩
theorem RowsT.pos {w : World} {A : Option Addr} {n c : Nat} {B : List (List ByteArray)} (h : RowsT w (.slice A n c) B) {i : Nat} (hi : i < B.length) : ∃ b off A2 c2, A = some ⟨b, off, none⟩ ∧ w.cell? ⟨b, off + i, none⟩ = some (.slice A2 (B.getD i []).length c2) ∧ ValsV w (.slice A2 (B.getD i []).length c2) (txtC (B.getD i [])) := by
  obtain ⟨us, hl, hv, hr⟩ := h
  have hiu : i < us.length := by rw [hl]; exact hi
  rcases hv with ⟨h0, _⟩ | ⟨_, b, off, cap, e, hc⟩
  · rw [h0] at hiu; simp at hiu
  · injection e with e1 _ _
    have h1 := hr i us[i] B[i] (List.getElem?_eq_getElem hiu) (List.getElem?_eq_getElem hi)
    have eB : B.getD i [] = B[i] := by simp [List.getD, hi]
    rw [eB]
    obtain ⟨A2, c2, hu⟩ := txt_form h1
    refine ⟨b, off, A2, c2, e1, ?_, by rw [hu] at h1; exact h1⟩
    rw [hc i hiu, List.getElem?_eq_getElem hiu, hu]
/-- Rows of texts of the call's own. -/
def RowsO (w : World) (base : Nat) (v : Value) (B : List (List ByteArray)) : Prop :=
  ∃ (ib : Nat) (us : List Value), v = .slice (some ⟨ib, 0, none⟩) B.length B.length ∧ base ≤ ib ∧ Whole w ib 22 us.toArray ∧ FamT w base us B
theorem RowsO.rows {w : World} {base : Nat} {v : Value} {B : List (List ByteArray)} (h : RowsO w base v B) : RowsT w v B := by
  obtain ⟨ib, us, rfl, _, hw, hf⟩ := h
  refine ⟨us, hf.len, ?_, fun i u X h1 h2 => own_vals (hf.row i u X h1 h2)⟩
  by_cases h0 : 0 < us.length
  · refine Or.inr ⟨h0, ib, 0, B.length, by rw [hf.len], fun i _ => ?_⟩
    rw [hw.cell]; simp
  · have : us = [] := List.eq_nil_of_length_eq_zero (by omega)
    refine Or.inl ⟨this, _, _, by rw [← hf.len, this]; rfl⟩
end Go.Proofs.YtlopoddllfkkfaaDoor
