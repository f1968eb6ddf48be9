/- A slice that reads as a list; numbers appended. -/
import Derived.Test.YtcmocigckcjdjaaGreatDoorSameInts
import Derived.WalkSpells
namespace Go.Proofs.YtcmocigckcjdjaaGreatDoor
open Go.RowKit

/-- A slice that reads as a list. -/
def SeqV (w : World) (v : Value) (L : List Int) : Prop := IntsV w v L.length (fun i => L.getD i 0)
theorem SeqV.below {w w' : World} {v : Value} {L : List Int} (h : SeqV w v L) {B : Nat} (hb : Below B w w') (hB : w.heap.size ≤ B) : SeqV w' v L := IntsV.below h hb hB
theorem seqV_of {w : World} {v : Value} {n : Nat} {Z : Nat → Int} (h : IntsV w v n Z) : SeqV w v ((List.range n).map Z) := by
  unfold SeqV
  rcases h with ⟨rfl, A, c, rfl⟩ | ⟨h0, b, off, c, rfl, hc⟩
  · exact Or.inl ⟨by simp, _, _, rfl⟩
  · refine Or.inr ⟨by simpa using h0, b, off, c, by simp, fun i hi => ?_⟩
    simp at hi
    rw [hc i hi]
    simp [List.getD, hi]
theorem seqV_nil (w : World) (A : Option Addr) (c : Nat) : SeqV w (.slice A 0 c) [] := Or.inl ⟨rfl, _, _, rfl⟩

theorem Tryz.infoInt6 : (Tryz.prog.info? 3).map (fun i => (i.zero, i.size, i.bytes)) = some (some (.int .i64 0), 1, 8) := by kernel_rfl
def intCells (L : List Int) : List Value := L.map (Value.int .i64)
theorem intCells_app (A B : List Int) : intCells (A ++ B) = intCells A ++ intCells B := by simp [intCells]
theorem addr_plus (b o j : Nat) : (⟨b, o, none⟩ : Addr).add j = ⟨b, o + j, none⟩ := by unfold Addr.add; split <;> simp_all
theorem seq_cells {w : World} {b off n c : Nat} {L : List Int} (h : ∀ i, i < L.length → w.cell? ⟨b, off + i, none⟩ = some (.int .i64 (L.getD i 0))) (_hn : n = L.length) (_c : n ≤ c) : ∀ j u, (intCells L)[j]? = some u → w.cell? ((⟨b, off, none⟩ : Addr).add j) = some u := by
  intro j u hj
  have hjl : j < L.length := by
    rcases Nat.lt_or_ge j L.length with h1 | h1
    · exact h1
    · rw [List.getElem?_eq_none (by simpa [intCells] using h1)] at hj; cases hj
  rw [addr_plus, h j hjl]
  simp [intCells, hjl] at hj
  simp [List.getD, hjl, hj]

/-- Numbers behind a row of the call's own. -/
theorem wpList_appInts {P : Program} (w : World) {ops : Array Oper} {rest : List Oper} {o : Oper} {a : Act} {Q : Exit → Act → World → Prop} (hgd : o.guard = none) (s x : Operand) (t : TypeId)
    (ho : o.op = .call { callee := .builtin .append, args := #[s, x], argTypes := #[t, t] })
    (base : Nat) (i : TypeInfo) (ht : P.underlying t = some (.slice 3)) (hi : P.info? 3 = some i) (hz : i.zero = some (.int .i64 0))
    (hsize : i.size = 1) (hby : i.bytes = 8) (v : Value) (n : Nat) (xs : List Value) (hs : a.eval s = v) (hown : w.ownsRow base 3 1 v n xs)
    (u : Value) (l : List Int) (hx : a.eval x = u) (hu : SeqV w u l) (hn : n + l.length ≤ 1000000000) (hbase : base ≤ w.heap.size)
    (h : ∀ (A' : Option Addr) (c' : Nat) w', w'.ownsRow base 3 1 (.slice A' (n + l.length) c') (n + l.length) (xs ++ intCells l) → Grew w v w' (.slice A' (n + l.length) c') → wpList P ops Q rest (a.put o.dst (.slice A' (n + l.length) c')) w') :
    wpList P ops Q (o :: rest) a w := by
  obtain ⟨A, c, rfl⟩ := IntsV.form hu
  have key : ∀ ad : Addr, A = some ad → wpList P ops Q (o :: rest) a w := by
    intro ad hA
    subst hA
    refine wpList_append_own_at _ hgd s x t ho base 3 i (.int .i64 0) 1 8 ht hi hz hsize hby rfl (by decide) v n xs hs hown ad l.length c (intCells l) hx (by simp [intCells]) ?_ (fun u hu => by simp [intCells] at hu; obtain ⟨z, _, rfl⟩ := hu; rfl) (by unfold maxLen; omega) (by omega) hbase ?_
    · rcases hu with ⟨h0, _⟩ | ⟨_, b, off, c', e, hc⟩
      · intro j u hj
        rw [List.eq_nil_of_length_eq_zero h0] at hj
        simp [intCells] at hj
      · injection e with e1 e2 e3
        injection e1 with e1
        subst e1
        exact seq_cells (c := l.length) hc rfl (Nat.le_refl _)
    · intro v' w' hown' hgrow _ hloc
      obtain ⟨A', c', rfl⟩ := own_form hown'
      refine h A' c' w' hown' ⟨hgrow, ?_⟩
      rcases hloc with hl | hl
      · exact Or.inl hl
      · exact Or.inr ⟨_, hl, Nat.le_refl _⟩
  rcases A with _ | ad
  · have hl0 : l = [] := by
      rcases hu with ⟨h0, _⟩ | ⟨_, b, off, c', e, _⟩
      · exact List.eq_nil_of_length_eq_zero h0
      · cases e
    subst hl0
    obtain ⟨A', c', rfl⟩ := own_form hown
    refine wpList_plain hgd fun K hK => ?_
    have hr : (Builtin.append_ #[t, t] o.type #[.slice A' n c', .slice none 0 c]).run P w = .ok (.slice A' n c') w := by
      rcases hown.2 with ⟨h1, h2⟩ | ⟨g, cap, cur, h1, _, _, hnc, _⟩
      · injection h1 with e1 e2 e3
        subst e1 e2 e3
        simp [Builtin.append_, run_underlying ht, sizeOf, typeInfo, hi, Builtin.lenOf, Builtin.firstCells]
      · injection h1 with e1 e2 e3
        subst e1 e3
        simp [Builtin.append_, run_underlying ht, sizeOf, typeInfo, hi, Builtin.lenOf, Builtin.firstCells, hnc, storeCells]
    unfold Oper.wp execOp
    simp only [ho, resolve, invoke, builtin, Sem.run_bind, Sem.run_pure, Result.andThen_ok, List.map_toArray, List.map_cons, List.map_nil, hs, hx, List.length_nil, hr]
    exact hK _ _ (h A' c' w (by simpa [intCells] using hown) (Grew.refl _ _))
  · exact key ad rfl
theorem own_seq {w : World} {base n : Nat} {v : Value} {L : List Int} (h : w.ownsRow base 3 1 v n (intCells L)) : SeqV w v L := by
  have hn : L.length = n := by have := h.1; simp [intCells] at this; omega
  subst hn
  have h0 := h
  unfold SeqV
  rcases h.2 with ⟨rfl, h1⟩ | ⟨g, cap, cur, rfl, _, hh, hcap, _⟩
  · exact Or.inl ⟨h1, _, _, rfl⟩
  · rcases Nat.eq_zero_or_pos L.length with h3 | h3
    · exact Or.inl ⟨h3, _, _, by rw [h3]⟩
    · refine Or.inr ⟨h3, g, 0, cap, rfl, fun i hi => ?_⟩
      rw [Nat.zero_add, h0.cellAt i (by omega)]
      simp [intCells, List.getD, hi]

/-- A list in a slice whose capacity bears it. -/
def SeqC (w : World) (v : Value) (L : List Int) : Prop := SeqV w v L ∧ ∃ A c, v = .slice A L.length c ∧ L.length ≤ c
theorem SeqC.below {w w' : World} {v : Value} {L : List Int} (h : SeqC w v L) {B : Nat} (hb : Below B w w') (hB : w.heap.size ≤ B) : SeqC w' v L := ⟨h.1.below hb hB, h.2⟩
theorem own_seqC {w : World} {base n : Nat} {v : Value} {L : List Int} (h : w.ownsRow base 3 1 v n (intCells L)) : SeqC w v L := by
  have hn : L.length = n := by have := h.1; simp [intCells] at this; omega
  refine ⟨own_seq h, ?_⟩
  subst hn
  rcases h.2 with ⟨rfl, h1⟩ | ⟨g, cap, cur, rfl, _, hh, hcap, _⟩
  · exact ⟨_, _, by rw [h1], by omega⟩
  · exact ⟨_, _, rfl, hcap⟩
end Go.Proofs.YtcmocigckcjdjaaGreatDoor
