/- Rows of slices: read, and appended to a row of the call's own. -/
import Derived.Test.YtcmocigckcjdjaaGreatDoorRowsOwn
namespace Go.Proofs.YtcmocigckcjdjaaGreatDoor
open Go.RowKit

/-- A slice whose cells are these. -/
def ValsV (w : World) (v : Value) (us : List Value) : Prop :=
  (us = [] ∧ ∃ (ao : Option Addr) (cap : Nat), v = .slice ao 0 cap) ∨ (0 < us.length ∧ ∃ b off cap : Nat, v = .slice (some ⟨b, off, none⟩) us.length cap ∧ ∀ i, i < us.length → w.cell? ⟨b, off + i, none⟩ = us[i]?)
theorem ValsV.below {w w' : World} {v : Value} {us : List Value} (h : ValsV w v us) {B : Nat} (hb : Below B w w') (hB : w.heap.size ≤ B) : ValsV w' v us := by
  rcases h with h | ⟨h0, b, off, cap, rfl, hc⟩
  · exact Or.inl h
  · refine Or.inr ⟨h0, b, off, cap, rfl, fun i hi => ?_⟩
    have h1 := hc i hi
    rw [List.getElem?_eq_getElem hi] at h1 ⊢
    exact (hb.cell (p := ⟨b, off + i, none⟩) (Nat.lt_of_lt_of_le (World.block_lt_of_cell? _ _ h1) hB)).trans h1
theorem own_vals {w : World} {base n e : Nat} {v : Value} {us : List Value} (h : w.ownsRow base e 1 v n us) : ValsV w v us := by
  have hl : us.length = n := by have := h.1; simpa using this
  subst hl
  have h0 := h
  rcases h.2 with ⟨rfl, h1⟩ | ⟨g, cap, cur, rfl, _, hh, hcap, _⟩
  · exact Or.inl ⟨List.eq_nil_of_length_eq_zero h1, _, _, rfl⟩
  · rcases Nat.eq_zero_or_pos us.length with h3 | h3
    · exact Or.inl ⟨List.eq_nil_of_length_eq_zero h3, _, _, by rw [h3]⟩
    · refine Or.inr ⟨h3, g, 0, cap, rfl, fun i hi => ?_⟩
      rw [Nat.zero_add, h0.cellAt i (by omega)]
theorem vals_take {w : World} {A : Option Addr} {n c : Nat} {us : List Value} (h : ValsV w (.slice A n c) us) (a : Nat) (ha : a ≤ n) : ValsV w (.slice A a c) (us.take a) := by
  rcases h with ⟨rfl, ao, cap, e⟩ | ⟨h0, b, off, cap, e, hc⟩
  · injection e with e1 e2 e3
    have : a = 0 := by omega
    subst this
    exact Or.inl ⟨rfl, _, _, rfl⟩
  · injection e with e1 e2 e3
    subst e1 e2
    rcases Nat.eq_zero_or_pos a with h1 | h1
    · subst h1; exact Or.inl ⟨rfl, _, _, rfl⟩
    · have hl : (us.take a).length = a := by rw [List.length_take]; omega
      refine Or.inr ⟨by omega, b, off, c, by rw [hl], fun i hi => ?_⟩
      rw [hc i (by omega), List.getElem?_take_of_lt (by omega)]
theorem vals_drop {w : World} {b off n c : Nat} {us : List Value} (h : ValsV w (.slice (some ⟨b, off, none⟩) n c) us) (a : Nat) (_ha : a ≤ n) : ValsV w (.slice (some ⟨b, off + a, none⟩) (n - a) (c - a)) (us.drop a) := by
  rcases h with ⟨rfl, ao, cap, e⟩ | ⟨h0, b', off', cap, e, hc⟩
  · injection e with e1 e2 e3
    subst e2
    exact Or.inl ⟨by simp, _, _, by rw [Nat.zero_sub]⟩
  · injection e with e1 e2 e3
    injection e1 with e1
    injection e1 with e1 e4
    subst e1 e4 e2
    have hl : (us.drop a).length = us.length - a := List.length_drop
    rcases Nat.eq_zero_or_pos (us.length - a) with h1 | h1
    · exact Or.inl ⟨List.eq_nil_of_length_eq_zero (by omega), _, _, by rw [h1]⟩
    · refine Or.inr ⟨by omega, b, off + a, c - a, by rw [hl], fun i hi => ?_⟩
      rw [Nat.add_assoc, hc (a + i) (by omega), List.getElem?_drop]

theorem wpList_appVals {P : Program} (w : World) {ops : Array Oper} {rest : List Oper} {o : Oper} {a : Act} {Q : Exit → Act → World → Prop} (hgd : o.guard = none) (s x : Operand) (t e : TypeId) (z : Value) (bytes : Nat)
    (ho : o.op = .call { callee := .builtin .append, args := #[s, x], argTypes := #[t, t] })
    (base : Nat) (i : TypeInfo) (ht : P.underlying t = some (.slice e)) (hi : P.info? e = some i) (hz : i.zero = some z)
    (hsize : i.size = 1) (hby : i.bytes = bytes) (hzs : z.cells.size = 1) (hbytes : bytes ≤ 128) (v : Value) (n : Nat) (xs : List Value) (hs : a.eval s = v) (hown : w.ownsRow base e 1 v n xs)
    (u : Value) (l : List Value) (hx : a.eval x = u) (hu : ValsV w u l) (h1 : ∀ y, y ∈ l → y.oneCell' = true) (hn : n + l.length ≤ 1000000000) (hbase : base ≤ w.heap.size)
    (h : ∀ (A' : Option Addr) (c' : Nat) w', w'.ownsRow base e 1 (.slice A' (n + l.length) c') (n + l.length) (xs ++ l) → Grew w v w' (.slice A' (n + l.length) c') → wpList P ops Q rest (a.put o.dst (.slice A' (n + l.length) c')) w') :
    wpList P ops Q (o :: rest) a w := by
  have hb1 : (n + l.length) * bytes ≤ (n + l.length) * 128 := Nat.mul_le_mul_left _ hbytes
  have key : ∀ (ad : Addr) (c : Nat), u = .slice (some ad) l.length c → (∀ j y, l[j]? = some y → w.cell? (ad.add j) = some y) → wpList P ops Q (o :: rest) a w := by
    intro ad c hA hc
    subst hA
    refine wpList_append_own_at _ hgd s x t ho base e i z 1 bytes ht hi hz hsize hby hzs (by decide) v n xs hs hown ad l.length c l hx (by simp) hc h1 (by unfold maxLen; omega) (by omega) hbase ?_
    intro v' w' hown' hgrow _ hloc
    obtain ⟨A', c', rfl⟩ := own_form hown'
    refine h A' c' w' hown' ⟨hgrow, ?_⟩
    rcases hloc with hl | hl
    · exact Or.inl hl
    · exact Or.inr ⟨_, hl, Nat.le_refl _⟩
  rcases hu with ⟨rfl, ao, cap, rfl⟩ | ⟨_, b, off, cap, rfl, hc⟩
  · rcases ao with _ | ad
    · obtain ⟨A', c', rfl⟩ := own_form hown
      refine wpList_plain hgd fun K hK => ?_
      have hr : (Builtin.append_ #[t, t] o.type #[.slice A' n c', .slice none 0 cap]).run P w = .ok (.slice A' n c') w := by
        rcases hown.2 with ⟨h1', h2⟩ | ⟨g, cap', cur, h1', _, _, hnc, _⟩
        · injection h1' with e1 e2 e3
          subst e1 e2 e3
          simp [Builtin.append_, run_underlying ht, sizeOf, typeInfo, hi, Builtin.lenOf, Builtin.firstCells]
        · injection h1' with e1 e2 e3
          subst e1 e3
          simp [Builtin.append_, run_underlying ht, sizeOf, typeInfo, hi, Builtin.lenOf, Builtin.firstCells, hnc, storeCells]
      unfold Oper.wp execOp
      simp only [ho, resolve, invoke, builtin, Sem.run_bind, Sem.run_pure, Result.andThen_ok, List.map_toArray, List.map_cons, List.map_nil, hs, hx, hr]
      exact hK _ _ (h A' c' w (by simpa using hown) (Grew.refl _ _))
    · exact key ad cap rfl (fun j y hj => by simp at hj)
  · refine key _ cap rfl fun j y hj => ?_
    have hjl : j < l.length := by
      rcases Nat.lt_or_ge j l.length with h2 | h2
      · exact h2
      · rw [List.getElem?_eq_none h2] at hj; cases hj
    rw [addr_plus, hc j hjl, hj]
theorem own_base {w : World} {b b' e s n : Nat} {v : Value} {xs : List Value} (h : w.ownsRow b e s v n xs) (hb : b' ≤ b) : w.ownsRow b' e s v n xs := by
  refine ⟨h.1, ?_⟩
  rcases h.2 with h1 | ⟨g, cap, cur, h1, h2, h3⟩
  · exact Or.inl h1
  · exact Or.inr ⟨g, cap, cur, h1, by omega, h3⟩
end Go.Proofs.YtcmocigckcjdjaaGreatDoor
