/- Pairs of numbers in memory: slices that are read, rows of the call's own; pairs appended. -/
import Derived.Test.YtgolcogigpnbeaaGreatDoorSeq
namespace Go.Proofs.YtgolcogigpnbeaaGreatDoor
open Go.RowKit

theorem getD_at {S : List (Int × Int)} {i : Nat} (h : i < S.length) : S.getD i (0, 0) = S[i] := by simp [List.getD, h]
def In64 (x : Int) : Prop := -9223372036854775808 ≤ x ∧ x ≤ 9223372036854775807
/-- A slice that reads as edges. -/
def EdgesV (w : World) (v : Value) (E : List (Int × Int)) : Prop :=
  (E = [] ∧ ∃ (ao : Option Addr) (cap : Nat), v = .slice ao 0 cap) ∨ (0 < E.length ∧ ∃ b off cap : Nat, v = .slice (some ⟨b, off, none⟩) E.length cap ∧
    ∀ i, i < E.length → w.cell? ⟨b, off + i * 2, none⟩ = some (.int .i64 (E.getD i (0, 0)).1) ∧ w.cell? ⟨b, off + i * 2 + 1, none⟩ = some (.int .i64 (E.getD i (0, 0)).2))
theorem EdgesV.below {w w' : World} {v : Value} {E : List (Int × Int)} (h : EdgesV w v E) {B : Nat} (hb : Below B w w') (hB : w.heap.size ≤ B) : EdgesV w' v E := by
  rcases h with h | ⟨h0, b, off, cap, rfl, hc⟩
  · exact Or.inl h
  · refine Or.inr ⟨h0, b, off, cap, rfl, fun i hi => ?_⟩
    have hl : b < w.heap.size := World.block_lt_of_cell? _ _ (hc i hi).1
    exact ⟨(hb.cell (p := ⟨b, off + i * 2, none⟩) (Nat.lt_of_lt_of_le hl hB)).trans (hc i hi).1, (hb.cell (p := ⟨b, off + i * 2 + 1, none⟩) (Nat.lt_of_lt_of_le hl hB)).trans (hc i hi).2⟩
theorem EdgesV.form {w : World} {v : Value} {E : List (Int × Int)} (h : EdgesV w v E) : ∃ A c, v = .slice A E.length c := by
  rcases h with ⟨rfl, A, c, rfl⟩ | ⟨_, b, off, c, rfl, _⟩
  · exact ⟨_, _, rfl⟩
  · exact ⟨_, _, rfl⟩
theorem EdgesV.pos {w : World} {A : Option Addr} {c n : Nat} {E : List (Int × Int)} (h : EdgesV w (.slice A n c) E) {i : Nat} (hi : i < E.length) : ∃ b off, A = some ⟨b, off, none⟩ ∧ w.cell? ⟨b, off + i * 2, none⟩ = some (.int .i64 (E.getD i (0, 0)).1) ∧ w.cell? ⟨b, off + i * 2 + 1, none⟩ = some (.int .i64 (E.getD i (0, 0)).2) := by
  rcases h with ⟨rfl, _⟩ | ⟨_, b, off, c, e, hc⟩
  · simp at hi
  · injection e with e1 e2 e3
    exact ⟨b, off, e1, hc i hi⟩
/-- The cells of edges, one behind the other. -/
def eL : List (Int × Int) → List Value
  | [] => []
  | e :: t => .int .i64 e.1 :: .int .i64 e.2 :: eL t
theorem eL_len : ∀ E : List (Int × Int), (eL E).length = E.length * 2
  | [] => rfl
  | e :: t => by simp [eL, eL_len t]; omega
theorem eL_app : ∀ E F : List (Int × Int), eL (E ++ F) = eL E ++ eL F
  | [], F => rfl
  | e :: t, F => by simp [eL, eL_app t F]
theorem eL_at : ∀ (E : List (Int × Int)) (i : Nat), i < E.length → (eL E)[i * 2]? = some (.int .i64 (E.getD i (0, 0)).1) ∧ (eL E)[i * 2 + 1]? = some (.int .i64 (E.getD i (0, 0)).2)
  | [], i, h => by simp at h
  | e :: t, 0, _ => by simp [eL]
  | e :: t, i + 1, h => by
    have := eL_at t i (by simpa using h)
    rw [show (i + 1) * 2 = i * 2 + 1 + 1 by omega]
    simp only [eL, List.getElem?_cons_succ, List.getD_cons_succ]
    exact this
theorem eL_one : ∀ (E : List (Int × Int)) (y : Value), y ∈ eL E → y.oneCell' = true
  | [], y, h => by simp [eL] at h
  | e :: t, y, h => by
    simp only [eL, List.mem_cons] at h
    rcases h with rfl | rfl | h
    · rfl
    · rfl
    · exact eL_one t y h
theorem own_edges {w : World} {base n e : Nat} {v : Value} {E : List (Int × Int)} (h : w.ownsRow base e 2 v n (eL E)) : EdgesV w v E := by
  have hn : E.length = n := by have := h.1; rw [eL_len] at this; omega
  subst hn
  have h0 := h
  rcases h.2 with ⟨rfl, h1⟩ | ⟨g, cap, cur, rfl, _, hh, hcap, _⟩
  · exact Or.inl ⟨List.eq_nil_of_length_eq_zero h1, _, _, rfl⟩
  · rcases Nat.eq_zero_or_pos E.length with h3 | h3
    · exact Or.inl ⟨List.eq_nil_of_length_eq_zero h3, _, _, by rw [h3]⟩
    · refine Or.inr ⟨h3, g, 0, cap, rfl, fun i hi => ?_⟩
      rw [Nat.zero_add, h0.cellAt _ (by omega), h0.cellAt _ (by omega)]
      exact eL_at E i hi
theorem own_cap {w : World} {base n e s c : Nat} {A : Option Addr} {xs : List Value} (h : w.ownsRow base e s (.slice A n c) n xs) : n ≤ c := by
  rcases h.2 with ⟨e, h1⟩ | ⟨g, cap, cur, e, _, hh, hcap, _⟩
  · omega
  · injection e with e1 e2 e3; omega
theorem edges_take {w : World} {A : Option Addr} {n c : Nat} {E : List (Int × Int)} (h : EdgesV w (.slice A n c) E) (hn : E.length = n) (k : Nat) (hk : k ≤ n) : EdgesV w (.slice A k c) (E.take k) := by
  rcases h with ⟨rfl, ao, cap, e⟩ | ⟨h0, b, off, cap, e, hc⟩
  · injection e with e1 e2 e3
    have : k = 0 := by omega
    subst this
    exact Or.inl ⟨rfl, _, _, rfl⟩
  · injection e with e1 e2 e3
    subst e1
    rcases Nat.eq_zero_or_pos k with h1 | h1
    · subst h1; exact Or.inl ⟨rfl, _, _, rfl⟩
    · have hl : (E.take k).length = k := by rw [List.length_take]; omega
      refine Or.inr ⟨by omega, b, off, c, by rw [hl], fun i hi => ?_⟩
      rw [hl] at hi
      have := hc i (by omega)
      rw [show (E.take k).getD i (0, 0) = E.getD i (0, 0) by simp [List.getD, List.getElem?_take_of_lt hi]]
      exact this
theorem edges_drop {w : World} {b off n c c' : Nat} {E : List (Int × Int)} (h : EdgesV w (.slice (some ⟨b, off, none⟩) n c) E) (hn : E.length = n) (k : Nat) (hk : k < n) : EdgesV w (.slice (some ⟨b, off + k * 2, none⟩) (n - k) c') (E.drop k) := by
  rcases h with ⟨rfl, ao, cap, e⟩ | ⟨h0, b', off', cap, e, hc⟩
  · simp at hn; omega
  · injection e with e1 e2 e3
    injection e1 with e1
    injection e1 with e1 e4
    subst e1 e4
    have hl : (E.drop k).length = n - k := by rw [List.length_drop]; omega
    refine Or.inr ⟨by omega, b, off + k * 2, c', by rw [hl], fun i hi => ?_⟩
    rw [hl] at hi
    have := hc (k + i) (by omega)
    rw [show (E.drop k).getD i (0, 0) = E.getD (k + i) (0, 0) by simp [List.getD, List.getElem?_drop], show off + k * 2 + i * 2 = off + (k + i) * 2 by omega]
    exact this
theorem edges_new (w : World) (t : TypeId) (x y : Int) (c : Nat) : EdgesV (w.alloc (.cells #[.int .i64 x, .int .i64 y] t)) (.slice (some ⟨w.heap.size, 0, none⟩) 1 c) [(x, y)] := by
  have h := Whole.new w t #[.int .i64 x, .int .i64 y]
  refine Or.inr ⟨by simp, _, _, _, rfl, fun i hi => ?_⟩
  have : i = 0 := by simpa using hi
  subst this
  exact ⟨h.cell 0, h.cell 1⟩

/-- Edges behind a row of the call's own. -/
theorem wpList_appEdges {P : Program} (w : World) {ops : Array Oper} {rest : List Oper} {o : Oper} {a : Act} {Q : Exit → Act → World → Prop} (hgd : o.guard = none) (s x : Operand) (t e : TypeId)
    (ho : o.op = .call { callee := .builtin .append, args := #[s, x], argTypes := #[t, t] })
    (base : Nat) (i : TypeInfo) (z : Value) (ht : P.underlying t = some (.slice e)) (hi : P.info? e = some i) (hz : i.zero = some z) (hzs : z.cells.size = 2)
    (hsize : i.size = 2) (hby : i.bytes = 16) (v : Value) (n : Nat) (xs : List Value) (hs : a.eval s = v) (hown : w.ownsRow base e 2 v n xs)
    (u : Value) (l : List (Int × Int)) (hx : a.eval x = u) (hu : EdgesV w u l) (hn : (n + l.length) * 16 ≤ 140737488355328) (hbase : base ≤ w.heap.size)
    (h : ∀ (A' : Option Addr) (c' : Nat) w', w'.ownsRow base e 2 (.slice A' (n + l.length) c') (n + l.length) (xs ++ eL l) → Grew w v w' (.slice A' (n + l.length) c') → wpList P ops Q rest (a.put o.dst (.slice A' (n + l.length) c')) w') :
    wpList P ops Q (o :: rest) a w := by
  have key : ∀ (ad : Addr) (c : Nat), u = .slice (some ad) l.length c → (∀ j y, (eL l)[j]? = some y → w.cell? (ad.add j) = some y) → wpList P ops Q (o :: rest) a w := by
    intro ad c hA hc
    subst hA
    refine wpList_append_own_at _ hgd s x t ho base e i z 2 16 ht hi hz hsize hby hzs (by decide) v n xs hs hown ad l.length c (eL l) hx (eL_len l) hc (eL_one l) (by unfold maxLen; omega) (by omega) hbase ?_
    intro v' w' hown' hgrow _ hloc
    obtain ⟨A', c', rfl⟩ := own_form hown'
    refine h A' c' w' hown' ⟨hgrow, ?_⟩
    rcases hloc with hl | hl
    · exact Or.inl hl
    · exact Or.inr ⟨_, hl, Nat.le_refl _⟩
  rcases hu with ⟨rfl, ao, cap, rfl⟩ | ⟨_, b, off, cap, rfl, hc⟩
  · rcases ao with _ | ad
    · obtain ⟨A', c', rfl⟩ := own_form hown
      refine wpList_plain hgd fun K hK => ?_
      have hr : (Builtin.append_ #[t, t] o.type #[.slice A' n c', .slice none 0 cap]).run P w = .ok (.slice A' n c') w := by
        rcases hown.2 with ⟨h1', h2⟩ | ⟨g, cap', cur, h1', _, _, hnc, _⟩
        · injection h1' with e1 e2 e3
          subst e1 e2 e3
          simp [Builtin.append_, run_underlying ht, sizeOf, typeInfo, hi, Builtin.lenOf, Builtin.firstCells]
        · injection h1' with e1 e2 e3
          subst e1 e3
          simp [Builtin.append_, run_underlying ht, sizeOf, typeInfo, hi, Builtin.lenOf, Builtin.firstCells, hnc, storeCells]
      unfold Oper.wp execOp
      simp only [ho, resolve, invoke, builtin, Sem.run_bind, Sem.run_pure, Result.andThen_ok, List.map_toArray, List.map_cons, List.map_nil, hs, hx, hr]
      exact hK _ _ (h A' c' w (by simpa [eL] using hown) (Grew.refl _ _))
    · exact key ad cap rfl (fun j y hj => by simp [eL] at hj)
  · refine key _ cap rfl fun j y hj => ?_
    have hjl : j < l.length * 2 := by
      rcases Nat.lt_or_ge j (l.length * 2) with h2 | h2
      · exact h2
      · rw [List.getElem?_eq_none (by rw [eL_len]; exact h2)] at hj; cases hj
    have h1 := hc (j / 2) (by omega)
    have h2 := eL_at l (j / 2) (by omega)
    rw [addr_plus]
    rcases (by omega : j = j / 2 * 2 ∨ j = j / 2 * 2 + 1) with e | e
    · rw [e, h2.1] at hj
      rw [e, h1.1]
      simpa using hj
    · rw [e, h2.2] at hj
      rw [e, ← Nat.add_assoc, h1.2]
      simpa using hj
end Go.Proofs.YtgolcogigpnbeaaGreatDoor
