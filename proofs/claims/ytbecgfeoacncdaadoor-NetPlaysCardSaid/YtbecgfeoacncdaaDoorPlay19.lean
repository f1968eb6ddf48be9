/- NetPlays: the document's net as a value in a box, beside a net. -/
import Derived.Test.YtbecgfeoacncdaaDoorRefDodup19
import Derived.Test.YtbecgfeoacncdaaDoorRefDocome19
import Derived.Test.YtbecgfeoacncdaaDoorRefDosend19
import Derived.Test.YtbecgfeoacncdaaDoorRefIn19b
import Derived.Test.YtbecgfeoacncdaaDoorAllT
namespace Go.Proofs.YtbecgfeoacncdaaDoor
open Go.RowKit

/-- Numbers of the document's net are small. -/
structure SmallR (m : NetR) (M : Nat) : Prop where
  s : m.S.length ≤ M
  f : m.F.length ≤ M
  c : m.C.length ≤ M
theorem SmallR.step {m : NetR} {M : Nat} (h : SmallR m M) (kind a c : Int) (x : ByteArray) : SmallR (stepR m kind a c x).1 (M + 1) := by
  have h1 := h.s; have h2 := h.f; have h3 := h.c
  unfold stepR
  by_cases hk : kind = 0
  · rw [if_pos hk]
    split
    · exact ⟨by show (m.S ++ [_]).length ≤ _; simp; omega, by show (m.F ++ [_]).length ≤ _; simp; omega, by show m.C.length ≤ _; omega⟩
    · exact ⟨by show m.S.length ≤ _; omega, by show m.F.length ≤ _; omega, by show m.C.length ≤ _; omega⟩
  · rw [if_neg hk]
    split
    · split
      · exact ⟨by show m.S.length ≤ _; omega, by show (m.F ++ [_]).length ≤ _; simp; omega, by show m.C.length ≤ _; omega⟩
      · refine ⟨by show m.S.length ≤ _; omega, by show (m.F.take _ ++ m.F.drop _).length ≤ _; rw [List.length_append, List.length_take, List.length_drop]; omega, ?_⟩
        show (if _ then m.C else m.C ++ [_]).length ≤ _
        split
        · omega
        · simp; omega
    · exact ⟨by show m.S.length ≤ _; omega, by show m.F.length ≤ _; omega, by show m.C.length ≤ _; omega⟩
theorem stepR_k (m : NetR) (kind a c : Int) (x : ByteArray) : (stepR m kind a c x).1.k = m.k := by
  unfold stepR
  split
  · split <;> rfl
  · split
    · split <;> rfl
    · rfl
/-- The document's Do. -/
theorem refDo_any {w : World} {kk : Nat} {vS vF vC : Value} {m : NetR} {M : Nat} (hN : NetRV w kk vS vF vC m) (hs : SmallR m M) (hM : M ≤ 1000) (kind a c : Int) (x : ByteArray) :
    Calls Tryd.prog 12 #[.agg #[.int .i64 kk, vS, vF, vC], .agg #[.int .i64 kind, .int .i64 a, .int .i64 c, .string x]] w (DoR kk vS vF vC m (stepR m kind a c x).1 (stepR m kind a c x).2 w) := by
  obtain ⟨k, S, F, C⟩ := m
  obtain ⟨hk, hS, hF, hC⟩ := hN
  have h1 := hs.s; have h2 := hs.f; have h3 := hs.c
  simp only at hk hS hF hC h1 h2 h3
  subst hk
  unfold stepR
  by_cases hk : kind = 0
  · subst hk
    rw [if_pos rfl]
    by_cases ha : (hasB k a && hasB k c) = true
    · rw [if_pos ha]
      exact refDo_send hS hF hC rfl rfl rfl (by omega) (by omega) a c x ha
    · rw [if_neg ha]
      exact refDo_off hS hF hC rfl rfl rfl a c x ha
  · rw [if_neg hk]
    by_cases ha : 0 ≤ a ∧ a < F.length
    · rw [dif_pos ha]
      obtain ⟨i, rfl⟩ : ∃ i : Nat, a = i := ⟨a.toNat, by omega⟩
      have hi : i < F.length := by omega
      have hl : F[i]? = some (F[(i : Int).toNat]'(by omega)) := List.getElem?_eq_getElem hi
      by_cases hk1 : kind = 1
      · subst hk1
        rw [if_pos rfl]
        exact refDo_dup hS hF hC rfl rfl rfl (by omega) i _ hl c x
      · rw [if_neg hk1]
        exact refDo_come hS hF hC rfl rfl rfl (by omega) (by omega) i _ hl kind hk hk1 c x
    · rw [dif_neg ha]
      exact refDo_bad hS hF hC rfl rfl rfl kind a c x hk ha
/-- A slice that reads no block of a net nor the box. -/
def Free19 (W : World) (R : Nat → Prop) (mb : Nat) (v : Value) (S : List Let) : Prop := S = [] ∨ ∀ g, v.ownBlock = some g → ¬ R g ∧ g ≠ mb ∧ g < W.heap.size
/-- The document's net in its box, beside a net of blocks R. -/
def MV (W : World) (base : Nat) (R : Nat → Prop) (mb kk : Nat) (vS vF vC : Value) (m : NetR) : Prop :=
  base ≤ mb ∧ ¬ R mb ∧ Whole W mb 33 #[.int .i64 kk, vS, vF, vC] ∧ NetRV W kk vS vF vC m ∧ Free19 W R mb vS m.S ∧ Free19 W R mb vF m.F ∧ Free19 W R mb vC m.C
theorem Free19.size {W W' : World} {R : Nat → Prop} {mb : Nat} {v : Value} {S : List Let} (h : Free19 W R mb v S) (hz : W.heap.size ≤ W'.heap.size) : Free19 W' R mb v S := by
  rcases h with h | h
  · exact Or.inl h
  · exact Or.inr (fun g hg => ⟨(h g hg).1, (h g hg).2.1, Nat.lt_of_lt_of_le (h g hg).2.2 hz⟩)
theorem MV.below {W W' : World} {base : Nat} {R : Nat → Prop} {mb kk : Nat} {vS vF vC : Value} {m : NetR} (h : MV W base R mb kk vS vF vC m) (hb : Below W.heap.size W W') : MV W' base R mb kk vS vF vC m := by
  obtain ⟨h0, h1, h2, ⟨h3, h4, h5, h6⟩, h7, h8, h9⟩ := h
  exact ⟨h0, h1, h2.below hb h2.lt, ⟨h3, h4.below hb (Nat.le_refl _), h5.below hb (Nat.le_refl _), h6.below hb (Nat.le_refl _)⟩, h7.size hb.size, h8.size hb.size, h9.size hb.size⟩
theorem LetsAt.free {W W' : World} {R : Nat → Prop} {mb : Nat} {v : Value} {S : List Let} (h : LetsAt W v S) (hf : Free19 W R mb v S) (hr : Fr W.heap.size R W W') : LetsAt W' v S := by
  rcases hf with rfl | hf
  · obtain ⟨A, c, rfl, hc, _⟩ := h
    exact ⟨A, c, rfl, hc, Or.inl rfl⟩
  · cases hv : v.ownBlock with
    | none =>
      obtain ⟨A, c, rfl, hc, h⟩ := h
      refine ⟨A, c, rfl, hc, ?_⟩
      rcases h with h | ⟨b, off, rfl, _⟩
      · exact Or.inl h
      · cases hv
    | some g =>
      have hg := hf g hv
      refine h.stay (fun k hk => ?_)
      rw [hv] at hk
      injection hk with hk
      subst hk
      exact hr.block g hg.2.2 hg.1
/-- A call on the net goes by. -/
theorem MV.net {W W' : World} {base : Nat} {R R' : Nat → Prop} {mb kk : Nat} {vS vF vC : Value} {m : NetR} (h : MV W base R mb kk vS vF vC m) (hr : Fr W.heap.size R W W') (hR : ∀ k, R' k → R k ∨ W.heap.size ≤ k) : MV W' base R' mb kk vS vF vC m := by
  obtain ⟨h0, h1, h2, ⟨h3, h4, h5, h6⟩, h7, h8, h9⟩ := h
  have hlt := h2.lt
  have hn : ∀ {v : Value} {S : List Let}, Free19 W R mb v S → Free19 W' R' mb v S := fun {v S} hf => by
    rcases hf with hf | hf
    · exact Or.inl hf
    · refine Or.inr (fun g hg => ⟨fun hx => ?_, (hf g hg).2.1, Nat.lt_of_lt_of_le (hf g hg).2.2 hr.size⟩)
      rcases hR g hx with h | h
      · exact (hf g hg).1 h
      · have := (hf g hg).2.2; omega
  refine ⟨h0, fun hx => ?_, (hr.block mb hlt h1).trans h2, ⟨h3, h4.free h7 hr, h5.free h8 hr, h6.free h9 hr⟩, hn h7, hn h8, hn h9⟩
  rcases hR mb hx with h | h
  · exact h1 h
  · omega
/-- The document's Do goes by, and its net is stored. -/
theorem MV.next {W W1 : World} {base : Nat} {R : Nat → Prop} {mb kk : Nat} {vS vF vC vS' vF' vC' : Value} {m m' : NetR} (h : MV W base R mb kk vS vF vC m) (hR : ∀ k, R k → k < W.heap.size) (hb : Below W.heap.size W W1) (hN : NetRV W1 kk vS' vF' vC' m')
    (aS : AsOr W.heap.size vS m.S vS' m'.S) (aF : AsOr W.heap.size vF m.F vF' m'.F) (aC : AsOr W.heap.size vC m.C vC' m'.C) :
    MV ((((W1.setCell ⟨mb, 0, none⟩ (.int .i64 kk)).setCell ⟨mb, 1, none⟩ vS').setCell ⟨mb, 2, none⟩ vF').setCell ⟨mb, 3, none⟩ vC') base R mb kk vS' vF' vC' m' := by
  obtain ⟨h0, h1, h2, _, h7, h8, h9⟩ := h
  have hlt := h2.lt
  have hz : ((((W1.setCell ⟨mb, 0, none⟩ (.int .i64 kk)).setCell ⟨mb, 1, none⟩ vS').setCell ⟨mb, 2, none⟩ vF').setCell ⟨mb, 3, none⟩ vC').heap.size = W1.heap.size := by simp [World.setCell]
  have key : ∀ {v v' : Value} {S S' : List Let}, Free19 W R mb v S → AsOr W.heap.size v S v' S' → LetsAt W1 v' S' →
      Free19 ((((W1.setCell ⟨mb, 0, none⟩ (.int .i64 kk)).setCell ⟨mb, 1, none⟩ vS').setCell ⟨mb, 2, none⟩ vF').setCell ⟨mb, 3, none⟩ vC') R mb v' S' ∧ Off19 mb v' S' := fun {v v' S S'} hf ha hl => by
    rcases ha with ⟨rfl, rfl⟩ | ha
    · rcases hf with hf | hf
      · exact ⟨Or.inl hf, Or.inl hf⟩
      · exact ⟨Or.inr (fun g hg => ⟨(hf g hg).1, (hf g hg).2.1, by rw [hz]; exact Nat.lt_of_lt_of_le (hf g hg).2.2 hb.size⟩), Or.inr (fun e => (hf mb e).2.1 rfl)⟩
    · by_cases hS : S' = []
      · exact ⟨Or.inl hS, Or.inl hS⟩
      · refine ⟨Or.inr (fun g hg => ⟨fun hx => by have := hR g hx; have := ha g hg; omega, by have := ha g hg; omega, ?_⟩), Or.inr (fun e => by have := ha mb e; omega)⟩
        rw [hz]
        obtain ⟨A, c, rfl, hc, hl⟩ := hl
        rcases hl with hl | ⟨b, off, rfl, hl⟩
        · exact absurd hl hS
        · have hlen : 0 < S'.length := by cases S' with
            | nil => exact absurd rfl hS
            | cons _ _ => simp
          have h1 := lets_lt (show 0 < S'.length * 4 by omega) (hl 0 (by omega))
          injection hg with hg
          simp only at hg
          omega
  obtain ⟨n0, n1, n2, n3⟩ := hN
  obtain ⟨kS, oS⟩ := key h7 aS n1
  obtain ⟨kF, oF⟩ := key h8 aF n2
  obtain ⟨kC, oC⟩ := key h9 aC n3
  exact ⟨h0, h1, ((((h2.below hb hlt).put 0 _).put 1 _).put 2 _).put 3 _, ⟨n0, (((n1.put oS _ _).put oS _ _).put oS _ _).put oS _ _, (((n2.put oF _ _).put oF _ _).put oF _ _).put oF _ _, (((n3.put oC _ _).put oC _ _).put oC _ _).put oC _ _⟩, kS, kF, kC⟩
end Go.Proofs.YtbecgfeoacncdaaDoor
