/- A machine of words alone: all its calls. -/
import Derived.Test.YtlopoddllfkkfaaDoorBspG
namespace Go.Proofs.YtlopoddllfkkfaaDoor
open Go.RowKit

theorem at_hit20 (b : Nat) (c : Int) (w : World) (hg : ErrT w) (hc : w.cell? ⟨b, 1, none⟩ = some (.int .i64 c)) :
    Calls Tryd.prog 24 #[.iface 69 (.pointer (some ⟨b, 0, none⟩))] w fun e w' => e = .returned (.int .i64 c) ∧ Below w.heap.size w w' := by
  have hb : b < w.heap.size := World.block_lt_of_cell? _ _ hc
  go_enter Tryd.func24, Tryd.ntmps24
  go_wp2_with (go_at_call 31; refine (find_hit _ _ hg).mono ?_; rintro ev w' ⟨rfl, hw⟩; have hc' := (hw.cell (p := ⟨b, 1, none⟩) hb).trans hc; clear hc)
  go_ret
  exact ⟨rfl, by assumption⟩
theorem at_f20 {c p : Int} {w : World} {v : Value} (h : FaultAt c p w v) (hg : ErrT w) : Calls Tryd.prog 24 #[v] w fun e w' => e = .returned (.int .i64 p) ∧ Below w.heap.size w w' := by
  obtain ⟨b, s, rfl, hw⟩ := h
  exact at_hit20 b p w hg (by rw [hw.cell 1]; rfl)
theorem ErrIs.below {c a : Int} {w w' : World} {u : Value} (h : ErrIs c a w u) {B : Nat} (hb : Below B w w') (hB : w.heap.size ≤ B) : ErrIs c a w' u := by
  rcases h with h | ⟨h0, h⟩
  · exact Or.inl h
  · exact Or.inr ⟨h0, h.below hb hB⟩
theorem ErrIs.form {w : World} {c a : Int} {u : Value} (h : ErrIs c a w u) : u = .nilIface ∨ ∃ b, u = .iface 69 (.pointer (some ⟨b, 0, none⟩)) := by
  rcases h with ⟨_, rfl⟩ | ⟨_, b, s, rfl, _⟩
  · exact Or.inl rfl
  · exact Or.inr ⟨b, rfl⟩
theorem ErrIs.nil {w : World} {a : Int} {u : Value} (h : ErrIs 0 a w u) : u = .nilIface := by
  rcases h with ⟨_, rfl⟩ | ⟨h0, _⟩
  · rfl
  · exact absurd rfl h0
theorem code_is {c a : Int} {w : World} {u : Value} (h : ErrIs c a w u) (hg : ErrT w) : Calls Tryd.prog 11 #[u] w fun e w' => e = .returned (.int .i64 c) ∧ Below w.heap.size w w' := by
  rcases h with ⟨rfl, rfl⟩ | ⟨_, h⟩
  · refine (code_nil w).mono ?_
    rintro e w' ⟨rfl, rfl⟩
    exact ⟨rfl, Below.refl _ _⟩
  · exact code_f7 h hg
theorem at_is {c a : Int} {w : World} {u : Value} (h : ErrIs c a w u) (h0 : c ≠ 0) (hg : ErrT w) : Calls Tryd.prog 24 #[u] w fun e w' => e = .returned (.int .i64 a) ∧ Below w.heap.size w w' := by
  rcases h with ⟨rfl, rfl⟩ | ⟨_, h⟩
  · exact absurd rfl h0
  · exact at_f20 h hg
/-- A machine of words, whose lists lie ahead of it. -/
def LawA (TL : List (List Int)) (p0 : MP) (vt : Value) (base q m : Nat) (p : MP) (w2 w : World) : Prop :=
  ∃ R, LawM TL p0 vt base q m R p w ∧ Below base w2 w ∧ (∀ W, Below base w2 W → ListsV W vt TL) ∧ base ≤ w2.heap.size
section
variable {TL : List (List Int)} {p0 p p' : MP} {vt : Value} {base q q' m : Nat} {w2 w w' : World}
theorem LawA.size (h : LawA TL p0 vt base q m p w2 w) : base ≤ w.heap.size := by
  obtain ⟨_, _, h2, _, h4⟩ := h
  exact Nat.le_trans h4 h2.size
theorem LawA.inv (h : LawA TL p0 vt base q m p w2 w) : MInv TL q p := by
  obtain ⟨_, h1, _⟩ := h
  exact h1.2.1
theorem LawA.bel (h : LawA TL p0 vt base q m p w2 w) : Below base w2 w := by
  obtain ⟨_, _, h2, _⟩ := h
  exact h2
theorem LawA.below (h : LawA TL p0 vt base q m p w2 w) (hb : Below w.heap.size w w') : LawA TL p0 vt base q m p w2 w' := by
  have hs := h.size
  obtain ⟨R, h1, h2, h3, h4⟩ := h
  exact ⟨R, h1.below hb, h2.trans (hb.mono hs), h3, h4⟩
theorem LawA.lists (h : LawA TL p0 vt base q m p w2 w) (W : World) (hW : Below base w W) : ListsV W vt TL := by
  obtain ⟨_, _, h2, h3, _⟩ := h
  exact h3 W (h2.trans hW)
theorem LawA.op (h : LawA TL p0 vt base q m p w2 w) : ∃ R, LawM TL p0 vt base q m R p w ∧ ∀ w', LawTo TL p0 vt base q' m R p' w w' → LawA TL p0 vt base q' m p' w2 w' := by
  obtain ⟨R, h1, h2, h3, h4⟩ := h
  exact ⟨R, h1, fun w' ⟨R', k1, _, _, k4⟩ => ⟨R', k1, h2.trans k4, h3, h4⟩⟩
theorem awork (h : LawA TL p0 vt base q m p w2 w) (hq : q ≤ 300) (i : Int) :
    Calls Tryd.prog 12 #[.pointer (some ⟨m, 0, none⟩), .int .i64 i] w fun e w' => ∃ u, e = .returned u ∧ ErrAs (workC p i) w' u ∧ LawA TL p0 vt base q m (workQ TL p i) w2 w' := by
  obtain ⟨R, h1, h2⟩ := h.op (q' := q) (p' := workQ TL p i)
  refine (lwork h1 h.size hq h.lists i).mono ?_
  rintro e w' ⟨u, rfl, hu, ho⟩
  exact ⟨u, rfl, hu, h2 w' ho⟩
theorem adeliver (h : LawA TL p0 vt base q m p w2 w) (hq : q ≤ 300) (i : Int) :
    Calls Tryd.prog 14 #[.pointer (some ⟨m, 0, none⟩), .int .i64 i] w fun e w' => ∃ u, e = .returned u ∧ ErrAs (stepP p.nt 2 i 0 ⟨#[]⟩).2 w' u ∧ LawA TL p0 vt base (q + 1) m (netP p 2 i) w2 w' := by
  obtain ⟨R, h1, h2⟩ := h.op (q' := q + 1) (p' := netP p 2 i)
  refine (ldeliver h1 h.size hq i).mono ?_
  rintro e w' ⟨u, rfl, hu, ho⟩
  exact ⟨u, rfl, hu, h2 w' ho⟩
theorem apass (h : LawA TL p0 vt base q m p w2 w) (hq : q ≤ 300) (hrd : p.rd ≤ 1000000) :
    Calls Tryd.prog 17 #[.pointer (some ⟨m, 0, none⟩)] w fun e w' => ∃ u, e = .returned u ∧ ErrIs (passC p) (passA p) w' u ∧ LawA TL p0 vt base q m (passQ TL p) w2 w' := by
  obtain ⟨R, h1, h2⟩ := h.op (q' := q) (p' := passQ TL p)
  refine (lpass h1 h.size hq hrd).mono ?_
  rintro e w' ⟨u, rfl, hu, ho⟩
  exact ⟨u, rfl, hu, h2 w' ho⟩
theorem aworked (h : LawA TL p0 vt base q m p w2 w) (i : Int) (b : Bool) (hb : (if 0 ≤ i ∧ i < p.k then p.wk.getD i.toNat false else false) = b) :
    Calls Tryd.prog 21 #[.pointer (some ⟨m, 0, none⟩), .int .i64 i] w fun e w' => e = .returned (.bool b) ∧ Below w.heap.size w w' := by
  obtain ⟨R, h1, _⟩ := h
  subst hb
  exact lworked h1 i
theorem aflying (h : LawA TL p0 vt base q m p w2 w) (hq : q ≤ 300) (L : Nat) (hL : p.nt.fly.length = L) :
    Calls Tryd.prog 13 #[.pointer (some ⟨m, 0, none⟩)] w fun e w' => e = .returned (.int .i64 L) ∧ Below w.heap.size w w' := by
  obtain ⟨R, h1, _⟩ := h
  subst hL
  exact lflying h1 hq
theorem around (h : LawA TL p0 vt base q m p w2 w) (z : Nat) (hr : p.rd = z) :
    Calls Tryd.prog 22 #[.pointer (some ⟨m, 0, none⟩)] w fun e w' => e = .returned (.int .i64 (z : Nat)) ∧ w' = w := by
  obtain ⟨R, h1, _⟩ := h
  subst hr
  exact lroundN h1
end
end Go.Proofs.YtlopoddllfkkfaaDoor
