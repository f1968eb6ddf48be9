/- The document's SameInts. A slice that reads as a list; numbers appended. Rows of rows of numbers. Rows of slices: read, and appended to a row of the call's own. -/
import Derived.Test.YtlopoddllfkkfaaDoorJ1
import Derived.Test.YtlopoddllfkkfaaDoorJ2
import Derived.Lib.Hide
import Derived.Deep.LoopGhost
import Derived.Deep.DeepCutAuto
import Derived.Deep.QuietTactic
import Derived.BigQuiet
import Derived.WalkSmall
import Derived.WalkSpells
import Derived.Lib.SliceRun
namespace Go.Proofs.YtlopoddllfkkfaaDoor
section
open Go.RowKit

/-- Are the first k numbers the same? -/
def eqUpto (Z Y : Nat → Int) : Nat → Bool
  | 0 => true
  | k + 1 => eqUpto Z Y k && (Z k == Y k)
theorem eqUpto_iff {Z Y : Nat → Int} : ∀ {n : Nat}, eqUpto Z Y n = true ↔ ∀ i, i < n → Z i = Y i
  | 0 => by simp [eqUpto]
  | n + 1 => by
    rw [eqUpto, Bool.and_eq_true, eqUpto_iff, beq_iff_eq]
    constructor
    · rintro ⟨h1, h2⟩ i hi
      rcases (by omega : i < n ∨ i = n) with h | rfl
      · exact h1 i h
      · exact h2
    · intro h
      exact ⟨fun i hi => h i (by omega), h n (by omega)⟩
theorem eqUpto_no {Z Y : Nat → Int} {n k : Nat} (hk : k < n) (h : Z k ≠ Y k) : eqUpto Z Y n = false := by
  cases he : eqUpto Z Y n with
  | false => rfl
  | true => exact absurd (eqUpto_iff.1 he k hk) h
def sameI (Z : Nat → Int) (n : Nat) (Y : Nat → Int) (m : Nat) : Bool := decide (n = m) && eqUpto Z Y n
end

section
open Go.RowKit

/-- A slice that reads as a list. -/
def SeqV (w : World) (v : Value) (L : List Int) : Prop := IntsV w v L.length (fun i => L.getD i 0)
theorem SeqV.below {w w' : World} {v : Value} {L : List Int} (h : SeqV w v L) {B : Nat} (hb : Below B w w') (hB : w.heap.size ≤ B) : SeqV w' v L := IntsV.below h hb hB
theorem seqV_of {w : World} {v : Value} {n : Nat} {Z : Nat → Int} (h : IntsV w v n Z) : SeqV w v ((List.range n).map Z) := by
  unfold SeqV
  rcases h with ⟨rfl, A, c, rfl⟩ | ⟨h0, b, off, c, rfl, hc⟩
  · exact Or.inl ⟨by simp, _, _, rfl⟩
  · refine Or.inr ⟨by simpa using h0, b, off, c, by simp, fun i hi => ?_⟩
    simp at hi
    rw [hc i hi]
    simp [List.getD, hi]
theorem seqV_nil (w : World) (A : Option Addr) (c : Nat) : SeqV w (.slice A 0 c) [] := Or.inl ⟨rfl, _, _, rfl⟩

theorem Tryd.infoInt6 : (Tryd.prog.info? 3).map (fun i => (i.zero, i.size, i.bytes)) = some (some (.int .i64 0), 1, 8) := by kernel_rfl
def intCells (L : List Int) : List Value := L.map (Value.int .i64)
theorem intCells_app (A B : List Int) : intCells (A ++ B) = intCells A ++ intCells B := by simp [intCells]
theorem addr_plus (b o j : Nat) : (⟨b, o, none⟩ : Addr).add j = ⟨b, o + j, none⟩ := by unfold Addr.add; split <;> simp_all
theorem seq_cells {w : World} {b off n c : Nat} {L : List Int} (h : ∀ i, i < L.length → w.cell? ⟨b, off + i, none⟩ = some (.int .i64 (L.getD i 0))) (_hn : n = L.length) (_c : n ≤ c) : ∀ j u, (intCells L)[j]? = some u → w.cell? ((⟨b, off, none⟩ : Addr).add j) = some u := by
  intro j u hj
  have hjl : j < L.length := by
    rcases Nat.lt_or_ge j L.length with h1 | h1
    · exact h1
    · rw [List.getElem?_eq_none (by simpa [intCells] using h1)] at hj; cases hj
  rw [addr_plus, h j hjl]
  simp [intCells, hjl] at hj
  simp [List.getD, hjl, hj]

/-- Numbers behind a row of the call's own. -/
theorem wpList_appInts {P : Program} (w : World) {ops : Array Oper} {rest : List Oper} {o : Oper} {a : Act} {Q : Exit → Act → World → Prop} (hgd : o.guard = none) (s x : Operand) (t : TypeId)
    (ho : o.op = .call { callee := .builtin .append, args := #[s, x], argTypes := #[t, t] })
    (base : Nat) (i : TypeInfo) (ht : P.underlying t = some (.slice 3)) (hi : P.info? 3 = some i) (hz : i.zero = some (.int .i64 0))
    (hsize : i.size = 1) (hby : i.bytes = 8) (v : Value) (n : Nat) (xs : List Value) (hs : a.eval s = v) (hown : w.ownsRow base 3 1 v n xs)
    (u : Value) (l : List Int) (hx : a.eval x = u) (hu : SeqV w u l) (hn : n + l.length ≤ 1000000000) (hbase : base ≤ w.heap.size)
    (h : ∀ (A' : Option Addr) (c' : Nat) w', w'.ownsRow base 3 1 (.slice A' (n + l.length) c') (n + l.length) (xs ++ intCells l) → Grew w v w' (.slice A' (n + l.length) c') → wpList P ops Q rest (a.put o.dst (.slice A' (n + l.length) c')) w') :
    wpList P ops Q (o :: rest) a w := by
  obtain ⟨A, c, rfl⟩ := IntsV.form hu
  have key : ∀ ad : Addr, A = some ad → wpList P ops Q (o :: rest) a w := by
    intro ad hA
    subst hA
    refine wpList_append_own_at _ hgd s x t ho base 3 i (.int .i64 0) 1 8 ht hi hz hsize hby rfl (by decide) v n xs hs hown ad l.length c (intCells l) hx (by simp [intCells]) ?_ (fun u hu => by simp [intCells] at hu; obtain ⟨z, _, rfl⟩ := hu; rfl) (by unfold maxLen; omega) (by omega) hbase ?_
    · rcases hu with ⟨h0, _⟩ | ⟨_, b, off, c', e, hc⟩
      · intro j u hj
        rw [List.eq_nil_of_length_eq_zero h0] at hj
        simp [intCells] at hj
      · injection e with e1 e2 e3
        injection e1 with e1
        subst e1
        exact seq_cells (c := l.length) hc rfl (Nat.le_refl _)
    · intro v' w' hown' hgrow _ hloc
      obtain ⟨A', c', rfl⟩ := own_form hown'
      refine h A' c' w' hown' ⟨hgrow, ?_⟩
      rcases hloc with hl | hl
      · exact Or.inl hl
      · exact Or.inr ⟨_, hl, Nat.le_refl _⟩
  rcases A with _ | ad
  · have hl0 : l = [] := by
      rcases hu with ⟨h0, _⟩ | ⟨_, b, off, c', e, _⟩
      · exact List.eq_nil_of_length_eq_zero h0
      · cases e
    subst hl0
    obtain ⟨A', c', rfl⟩ := own_form hown
    refine wpList_plain hgd fun K hK => ?_
    have hr : (Builtin.append_ #[t, t] o.type #[.slice A' n c', .slice none 0 c]).run P w = .ok (.slice A' n c') w := by
      rcases hown.2 with ⟨h1, h2⟩ | ⟨g, cap, cur, h1, _, _, hnc, _⟩
      · injection h1 with e1 e2 e3
        subst e1 e2 e3
        simp [Builtin.append_, run_underlying ht, sizeOf, typeInfo, hi, Builtin.lenOf, Builtin.firstCells]
      · injection h1 with e1 e2 e3
        subst e1 e3
        simp [Builtin.append_, run_underlying ht, sizeOf, typeInfo, hi, Builtin.lenOf, Builtin.firstCells, hnc, storeCells]
    unfold Oper.wp execOp
    simp only [ho, resolve, invoke, builtin, Sem.run_bind, Sem.run_pure, Result.andThen_ok, List.map_toArray, List.map_cons, List.map_nil, hs, hx, List.length_nil, hr]
    exact hK _ _ (h A' c' w (by simpa [intCells] using hown) (Grew.refl _ _))
  · exact key ad rfl
theorem own_seq {w : World} {base n : Nat} {v : Value} {L : List Int} (h : w.ownsRow base 3 1 v n (intCells L)) : SeqV w v L := by
  have hn : L.length = n := by have := h.1; simp [intCells] at this; omega
  subst hn
  have h0 := h
  unfold SeqV
  rcases h.2 with ⟨rfl, h1⟩ | ⟨g, cap, cur, rfl, _, hh, hcap, _⟩
  · exact Or.inl ⟨h1, _, _, rfl⟩
  · rcases Nat.eq_zero_or_pos L.length with h3 | h3
    · exact Or.inl ⟨h3, _, _, by rw [h3]⟩
    · refine Or.inr ⟨h3, g, 0, cap, rfl, fun i hi => ?_⟩
      rw [Nat.zero_add, h0.cellAt i (by omega)]
      simp [intCells, List.getD, hi]

/-- A list in a slice whose capacity bears it. -/
def SeqC (w : World) (v : Value) (L : List Int) : Prop := SeqV w v L ∧ ∃ A c, v = .slice A L.length c ∧ L.length ≤ c
theorem SeqC.below {w w' : World} {v : Value} {L : List Int} (h : SeqC w v L) {B : Nat} (hb : Below B w w') (hB : w.heap.size ≤ B) : SeqC w' v L := ⟨h.1.below hb hB, h.2⟩
theorem own_seqC {w : World} {base n : Nat} {v : Value} {L : List Int} (h : w.ownsRow base 3 1 v n (intCells L)) : SeqC w v L := by
  have hn : L.length = n := by have := h.1; simp [intCells] at this; omega
  refine ⟨own_seq h, ?_⟩
  subst hn
  rcases h.2 with ⟨rfl, h1⟩ | ⟨g, cap, cur, rfl, _, hh, hcap, _⟩
  · exact ⟨_, _, by rw [h1], by omega⟩
  · exact ⟨_, _, rfl, hcap⟩
end

section
open Go.RowKit

theorem Tryd.infoRow : (Tryd.prog.info? 52).map (fun i => (i.zero, i.size, i.bytes)) = some (some (.slice none 0 0), 1, 24) := by kernel_rfl

/-- Two rows of unlike elements lie apart. -/
theorem own_apart {w : World} {b b' e e' s s' n n' : Nat} {v v' : Value} {xs xs' : List Value} (h : w.ownsRow b e s v n xs) (k : w.ownsRow b' e' s' v' n' xs') (hne : e ≠ e') : v.ownBlock = none ∨ v.ownBlock ≠ v'.ownBlock := by
  rcases h.2 with ⟨rfl, _⟩ | ⟨g, cap, cur, rfl, _, hh, _⟩
  · exact Or.inl rfl
  · refine Or.inr ?_
    rcases k.2 with ⟨rfl, _⟩ | ⟨g', cap', cur', rfl, _, hh', _⟩
    · simp [Value.ownBlock]
    · intro e1
      have e2 : g = g' := by simpa [Value.ownBlock] using e1
      subst e2
      rw [hh] at hh'
      injection hh' with hh'
      injection hh' with _ ht
      exact hne ht
theorem own_whole {w : World} {b e s n g : Nat} {v : Value} {xs : List Value} {t : TypeId} {cs : Array Value} (h : w.ownsRow b e s v n xs) (hg : Whole w g t cs) (hne : e ≠ t) : v.ownBlock = none ∨ v.ownBlock ≠ some g := Or.inr (own_ne h hg hne)

/-- Rows of numbers, in a row of their own. -/
def RowsOwn (w : World) (base : Nat) (v : Value) (C : List (List Int)) : Prop :=
  ∃ us : List Value, w.ownsRow base 52 1 v C.length us ∧ ∀ (i : Nat) (u : Value) (L : List Int), us[i]? = some u → C[i]? = some L → w.ownsRow base 3 1 u L.length (intCells L)
theorem RowsOwn.nil (w : World) (base : Nat) : RowsOwn w base (.slice none 0 0) [] := ⟨[], World.ownsRow_nil w base _ 1, fun i u L h => by simp at h⟩
theorem RowsOwn.form {w : World} {base : Nat} {v : Value} {C : List (List Int)} (h : RowsOwn w base v C) : ∃ A c, v = .slice A C.length c := by
  obtain ⟨us, h, _⟩ := h
  exact own_form h
theorem RowsOwn.kept {w w' : World} {base g : Nat} {v : Value} {C : List (List Int)} {t : TypeId} {cs : Array Value} (h : RowsOwn w base v C) (hw : w.grownBy w' (some g)) (hg : Whole w g t cs) (h1 : 52 ≠ t) (h2 : 3 ≠ t) : RowsOwn w' base v C := by
  obtain ⟨us, h, hr⟩ := h
  exact ⟨us, h.kept hw (own_whole h hg h1), fun i u L hu hL => (hr i u L hu hL).kept hw (own_whole (hr i u L hu hL) hg h2)⟩
theorem RowsOwn.below {w w' : World} {base B : Nat} {v : Value} {C : List (List Int)} (h : RowsOwn w base v C) (hb : Below B w w') (hB : w.heap.size ≤ B) : RowsOwn w' base v C := by
  obtain ⟨us, h, hr⟩ := h
  exact ⟨us, own_below h hb hB, fun i u L hu hL => own_below (hr i u L hu hL) hb hB⟩
theorem RowsOwn.more {w w' : World} {base : Nat} {v v' u : Value} {C : List (List Int)} {L : List Int} {us : List Value} (h : w.ownsRow base 52 1 v C.length us) (hr : ∀ (i : Nat) (u : Value) (L : List Int), us[i]? = some u → C[i]? = some L → w.ownsRow base 3 1 u L.length (intCells L))
    (hu : w.ownsRow base 3 1 u L.length (intCells L)) (h' : w'.ownsRow base 52 1 v' (C.length + 1) (us ++ [u])) (hg : Grew w v w' v') : RowsOwn w' base v' (C ++ [L]) := by
  have hne : 3 ≠ 52 := by decide
  have hl : us.length = C.length := by have := h.1; simpa using this
  refine ⟨us ++ [u], by simpa using h', fun i x M hx hM => ?_⟩
  rcases Nat.lt_or_ge i C.length with hi | hi
  · rw [List.getElem?_append_left (by omega)] at hx hM
    have := hr i x M hx hM
    exact this.kept hg.1 (own_apart this h hne)
  · rw [List.getElem?_append_right (by omega)] at hx hM
    rcases (by omega : i = C.length ∨ C.length < i) with rfl | h1
    · rw [hl, Nat.sub_self] at hx
      rw [Nat.sub_self] at hM
      simp at hx hM
      subst hx hM
      exact hu.kept hg.1 (own_apart hu h hne)
    · rw [List.getElem?_eq_none (by simp; omega)] at hx; cases hx

/-- Lists of numbers, as a reader sees them. -/
def ListsV (w : World) (v : Value) (C : List (List Int)) : Prop :=
  ∃ us : List Value, us.length = C.length ∧ (∀ (i : Nat) (u : Value) (L : List Int), us[i]? = some u → C[i]? = some L → SeqC w u L) ∧
    ((C = [] ∧ ∃ (ao : Option Addr) (cap : Nat), v = .slice ao 0 cap) ∨ (0 < C.length ∧ ∃ b off cap : Nat, v = .slice (some ⟨b, off, none⟩) C.length cap ∧ ∀ i, i < C.length → w.cell? ⟨b, off + i, none⟩ = us[i]?))
theorem RowsOwn.lists {w : World} {base : Nat} {v : Value} {C : List (List Int)} (h : RowsOwn w base v C) : ListsV w v C := by
  obtain ⟨us, h, hr⟩ := h
  have hl : us.length = C.length := by have := h.1; simpa using this
  refine ⟨us, hl, fun i u L hu hL => own_seqC (hr i u L hu hL), ?_⟩
  have h0 := h
  rcases h.2 with ⟨rfl, h1⟩ | ⟨g, cap, cur, rfl, _, hh, hcap, _⟩
  · exact Or.inl ⟨List.eq_nil_of_length_eq_zero h1, _, _, rfl⟩
  · rcases Nat.eq_zero_or_pos C.length with h3 | h3
    · exact Or.inl ⟨List.eq_nil_of_length_eq_zero h3, _, _, by rw [h3]⟩
    · refine Or.inr ⟨h3, g, 0, cap, rfl, fun i hi => ?_⟩
      rw [Nat.zero_add, h0.cellAt i (by omega)]
theorem ListsV.below {w w' : World} {v : Value} {C : List (List Int)} (h : ListsV w v C) {B : Nat} (hb : Below B w w') (hB : w.heap.size ≤ B) : ListsV w' v C := by
  obtain ⟨us, hl, hr, h⟩ := h
  refine ⟨us, hl, fun i u L hu hL => (hr i u L hu hL).below hb hB, ?_⟩
  rcases h with h | ⟨h0, b, off, cap, rfl, hc⟩
  · exact Or.inl h
  · refine Or.inr ⟨h0, b, off, cap, rfl, fun i hi => ?_⟩
    have h1 := hc i hi
    rw [List.getElem?_eq_getElem (by omega)] at h1 ⊢
    exact (hb.cell (p := ⟨b, off + i, none⟩) (Nat.lt_of_lt_of_le (World.block_lt_of_cell? _ _ h1) hB)).trans h1
theorem ListsV.form {w : World} {v : Value} {C : List (List Int)} (h : ListsV w v C) : ∃ A c, v = .slice A C.length c := by
  obtain ⟨us, hl, hr, h⟩ := h
  rcases h with ⟨rfl, A, c, rfl⟩ | ⟨_, b, off, c, rfl, _⟩
  · exact ⟨_, _, rfl⟩
  · exact ⟨_, _, rfl⟩
theorem ListsV.pos {w : World} {A : Option Addr} {n c : Nat} {C : List (List Int)} (h : ListsV w (.slice A n c) C) {i : Nat} (hi : i < C.length) : ∃ b off u, A = some ⟨b, off, none⟩ ∧ w.cell? ⟨b, off + i, none⟩ = some u ∧ SeqC w u C[i] := by
  obtain ⟨us, hl, hr, h⟩ := h
  rcases h with ⟨rfl, _⟩ | ⟨_, b, off, c, e, hc⟩
  · simp at hi
  · injection e with e1 e2 e3
    have h1 := hc i hi
    rw [List.getElem?_eq_getElem (by omega)] at h1
    exact ⟨b, off, _, e1, h1, hr i _ _ (List.getElem?_eq_getElem (by omega)) (List.getElem?_eq_getElem hi)⟩
end

section
open Go.RowKit

/-- A slice whose cells are these. -/
def ValsV (w : World) (v : Value) (us : List Value) : Prop :=
  (us = [] ∧ ∃ (ao : Option Addr) (cap : Nat), v = .slice ao 0 cap) ∨ (0 < us.length ∧ ∃ b off cap : Nat, v = .slice (some ⟨b, off, none⟩) us.length cap ∧ ∀ i, i < us.length → w.cell? ⟨b, off + i, none⟩ = us[i]?)
theorem ValsV.below {w w' : World} {v : Value} {us : List Value} (h : ValsV w v us) {B : Nat} (hb : Below B w w') (hB : w.heap.size ≤ B) : ValsV w' v us := by
  rcases h with h | ⟨h0, b, off, cap, rfl, hc⟩
  · exact Or.inl h
  · refine Or.inr ⟨h0, b, off, cap, rfl, fun i hi => ?_⟩
    have h1 := hc i hi
    rw [List.getElem?_eq_getElem hi] at h1 ⊢
    exact (hb.cell (p := ⟨b, off + i, none⟩) (Nat.lt_of_lt_of_le (World.block_lt_of_cell? _ _ h1) hB)).trans h1
theorem own_vals {w : World} {base n e : Nat} {v : Value} {us : List Value} (h : w.ownsRow base e 1 v n us) : ValsV w v us := by
  have hl : us.length = n := by have := h.1; simpa using this
  subst hl
  have h0 := h
  rcases h.2 with ⟨rfl, h1⟩ | ⟨g, cap, cur, rfl, _, hh, hcap, _⟩
  · exact Or.inl ⟨List.eq_nil_of_length_eq_zero h1, _, _, rfl⟩
  · rcases Nat.eq_zero_or_pos us.length with h3 | h3
    · exact Or.inl ⟨List.eq_nil_of_length_eq_zero h3, _, _, by rw [h3]⟩
    · refine Or.inr ⟨h3, g, 0, cap, rfl, fun i hi => ?_⟩
      rw [Nat.zero_add, h0.cellAt i (by omega)]
theorem vals_take {w : World} {A : Option Addr} {n c : Nat} {us : List Value} (h : ValsV w (.slice A n c) us) (a : Nat) (ha : a ≤ n) : ValsV w (.slice A a c) (us.take a) := by
  rcases h with ⟨rfl, ao, cap, e⟩ | ⟨h0, b, off, cap, e, hc⟩
  · injection e with e1 e2 e3
    have : a = 0 := by omega
    subst this
    exact Or.inl ⟨rfl, _, _, rfl⟩
  · injection e with e1 e2 e3
    subst e1 e2
    rcases Nat.eq_zero_or_pos a with h1 | h1
    · subst h1; exact Or.inl ⟨rfl, _, _, rfl⟩
    · have hl : (us.take a).length = a := by rw [List.length_take]; omega
      refine Or.inr ⟨by omega, b, off, c, by rw [hl], fun i hi => ?_⟩
      rw [hc i (by omega), List.getElem?_take_of_lt (by omega)]
theorem vals_drop {w : World} {b off n c : Nat} {us : List Value} (h : ValsV w (.slice (some ⟨b, off, none⟩) n c) us) (a : Nat) (_ha : a ≤ n) : ValsV w (.slice (some ⟨b, off + a, none⟩) (n - a) (c - a)) (us.drop a) := by
  rcases h with ⟨rfl, ao, cap, e⟩ | ⟨h0, b', off', cap, e, hc⟩
  · injection e with e1 e2 e3
    subst e2
    exact Or.inl ⟨by simp, _, _, by rw [Nat.zero_sub]⟩
  · injection e with e1 e2 e3
    injection e1 with e1
    injection e1 with e1 e4
    subst e1 e4 e2
    have hl : (us.drop a).length = us.length - a := List.length_drop
    rcases Nat.eq_zero_or_pos (us.length - a) with h1 | h1
    · exact Or.inl ⟨List.eq_nil_of_length_eq_zero (by omega), _, _, by rw [h1]⟩
    · refine Or.inr ⟨by omega, b, off + a, c - a, by rw [hl], fun i hi => ?_⟩
      rw [Nat.add_assoc, hc (a + i) (by omega), List.getElem?_drop]

theorem wpList_appVals {P : Program} (w : World) {ops : Array Oper} {rest : List Oper} {o : Oper} {a : Act} {Q : Exit → Act → World → Prop} (hgd : o.guard = none) (s x : Operand) (t e : TypeId) (z : Value) (bytes : Nat)
    (ho : o.op = .call { callee := .builtin .append, args := #[s, x], argTypes := #[t, t] })
    (base : Nat) (i : TypeInfo) (ht : P.underlying t = some (.slice e)) (hi : P.info? e = some i) (hz : i.zero = some z)
    (hsize : i.size = 1) (hby : i.bytes = bytes) (hzs : z.cells.size = 1) (hbytes : bytes ≤ 128) (v : Value) (n : Nat) (xs : List Value) (hs : a.eval s = v) (hown : w.ownsRow base e 1 v n xs)
    (u : Value) (l : List Value) (hx : a.eval x = u) (hu : ValsV w u l) (h1 : ∀ y, y ∈ l → y.oneCell' = true) (hn : n + l.length ≤ 1000000000) (hbase : base ≤ w.heap.size)
    (h : ∀ (A' : Option Addr) (c' : Nat) w', w'.ownsRow base e 1 (.slice A' (n + l.length) c') (n + l.length) (xs ++ l) → Grew w v w' (.slice A' (n + l.length) c') → wpList P ops Q rest (a.put o.dst (.slice A' (n + l.length) c')) w') :
    wpList P ops Q (o :: rest) a w := by
  have hb1 : (n + l.length) * bytes ≤ (n + l.length) * 128 := Nat.mul_le_mul_left _ hbytes
  have key : ∀ (ad : Addr) (c : Nat), u = .slice (some ad) l.length c → (∀ j y, l[j]? = some y → w.cell? (ad.add j) = some y) → wpList P ops Q (o :: rest) a w := by
    intro ad c hA hc
    subst hA
    refine wpList_append_own_at _ hgd s x t ho base e i z 1 bytes ht hi hz hsize hby hzs (by decide) v n xs hs hown ad l.length c l hx (by simp) hc h1 (by unfold maxLen; omega) (by omega) hbase ?_
    intro v' w' hown' hgrow _ hloc
    obtain ⟨A', c', rfl⟩ := own_form hown'
    refine h A' c' w' hown' ⟨hgrow, ?_⟩
    rcases hloc with hl | hl
    · exact Or.inl hl
    · exact Or.inr ⟨_, hl, Nat.le_refl _⟩
  rcases hu with ⟨rfl, ao, cap, rfl⟩ | ⟨_, b, off, cap, rfl, hc⟩
  · rcases ao with _ | ad
    · obtain ⟨A', c', rfl⟩ := own_form hown
      refine wpList_plain hgd fun K hK => ?_
      have hr : (Builtin.append_ #[t, t] o.type #[.slice A' n c', .slice none 0 cap]).run P w = .ok (.slice A' n c') w := by
        rcases hown.2 with ⟨h1', h2⟩ | ⟨g, cap', cur, h1', _, _, hnc, _⟩
        · injection h1' with e1 e2 e3
          subst e1 e2 e3
          simp [Builtin.append_, run_underlying ht, sizeOf, typeInfo, hi, Builtin.lenOf, Builtin.firstCells]
        · injection h1' with e1 e2 e3
          subst e1 e3
          simp [Builtin.append_, run_underlying ht, sizeOf, typeInfo, hi, Builtin.lenOf, Builtin.firstCells, hnc, storeCells]
      unfold Oper.wp execOp
      simp only [ho, resolve, invoke, builtin, Sem.run_bind, Sem.run_pure, Result.andThen_ok, List.map_toArray, List.map_cons, List.map_nil, hs, hx, hr]
      exact hK _ _ (h A' c' w (by simpa using hown) (Grew.refl _ _))
    · exact key ad cap rfl (fun j y hj => by simp at hj)
  · refine key _ cap rfl fun j y hj => ?_
    have hjl : j < l.length := by
      rcases Nat.lt_or_ge j l.length with h2 | h2
      · exact h2
      · rw [List.getElem?_eq_none h2] at hj; cases hj
    rw [addr_plus, hc j hjl, hj]
theorem own_base {w : World} {b b' e s n : Nat} {v : Value} {xs : List Value} (h : w.ownsRow b e s v n xs) (hb : b' ≤ b) : w.ownsRow b' e s v n xs := by
  refine ⟨h.1, ?_⟩
  rcases h.2 with h1 | ⟨g, cap, cur, h1, h2, h3⟩
  · exact Or.inl h1
  · exact Or.inr ⟨g, cap, cur, h1, by omega, h3⟩
end
end Go.Proofs.YtlopoddllfkkfaaDoor
