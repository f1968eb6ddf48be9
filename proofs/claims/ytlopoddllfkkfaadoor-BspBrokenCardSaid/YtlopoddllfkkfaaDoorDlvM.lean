/- net: what Deliver does in memory. -/
import Derived.Test.YtlopoddllfkkfaaDoorDouble
import Derived.Test.YtlopoddllfkkfaaDoorDelete
namespace Go.Proofs.YtlopoddllfkkfaaDoor
open Go.RowKit

theorem Fr.less {n m : Nat} {R : Nat → Prop} {w w' : World} (h : Fr n R w w') (hm : m ≤ n) : Fr m R w w' := ⟨h.os, h.tape, h.output, h.size, fun k hk hr => h.block k (by omega) hr⟩
/-- A letter in flight taken out. -/
def dropP (n : NetP) (i : Nat) : NetP := { n with fly := n.fly.take i ++ n.fly.drop (i + 1) }
/-- A letter that comes. -/
def cameP (n : NetP) (l : Let) : NetP :=
  if (n.came l.f l.t l.s).isSome = true then n
  else { n with came := fun p q r => if p = l.f ∧ q = l.t ∧ r = l.s then some l else n.came p q r, miss := n.miss - 1 }
theorem FlyAt.first {w : World} {base g off n cap : Nat} {S : List Let} (h : FlyAt w base (.slice (some ⟨g, off, none⟩) n cap) S) (h0 : 0 < n) :
    ∃ o3, (if cap = 1 then (some ⟨g, off, none⟩ : Option Addr) else some ⟨g, off + 4, none⟩) = some ⟨g, o3, none⟩ ∧ FlyAt w base (.slice (some ⟨g, o3, none⟩) (n - 1) (cap - 1)) (S.take 0 ++ S.drop 1) := by
  obtain ⟨A', c', e, hc, k⟩ := id h
  injection e with e1 e2 e3
  rw [show S.take 0 ++ S.drop 1 = S.tail by simp]
  by_cases h1 : cap = 1
  · refine ⟨off, if_pos h1, ?_⟩
    rcases k with ⟨k, _⟩ | ⟨g', off', k, k1, k2, _⟩
    · rw [k] at e1; cases e1
    · rw [k] at e1
      injection e1 with e1
      injection e1 with z1 z2
      subst z1
      have hl : S.tail.length = 0 := by rw [List.length_tail]; omega
      rw [show n - 1 = 0 by omega, show cap - 1 = 0 by omega]
      exact ⟨_, 0, by rw [hl], by omega, Or.inr ⟨g, off, rfl, k1, k2, fun j hj => absurd hj (by omega), fun j hj => absurd hj (by omega)⟩⟩
  · obtain ⟨g', off', hA, _, _, ht⟩ := h.tail (by omega)
    injection hA with hA
    injection hA with z1 z2
    subst z1 z2
    exact ⟨off + 4, if_neg h1, ht⟩
theorem NetIn.refly {w w' : World} {base N : Nat} {n : NetP} {b mb cb : Nat} {v v' : Value} {F G : Value → Option Value} {S' : List Let} (h : NetIn w base N n b mb cb v F G) (hg : w.grownBy w' v.ownBlock) (hf : FlyAt w' base v' S') (he : v'.ownBlock = v.ownBlock) :
    (w'.cell? ⟨b, 1, none⟩ = some v ∧ w'.frozen? ⟨b, 1, none⟩ = false) ∧ NetIn (w'.setCell ⟨b, 1, none⟩ v') base N { n with fly := S' } b mb cb v' F G ∧ Fr w.heap.size (Foot b mb cb v) w (w'.setCell ⟨b, 1, none⟩ v') := by
  have hw3 := h.whole.grown hg (fun e => h.v1 e.symm)
  have hm3 := h.sent.kept hg (fun e => h.v2 e.symm)
  have hc3 := h.came.kept hg (fun e => h.v3 e.symm)
  have hgr4 := grown_cell w' b 1 v'
  refine ⟨⟨hw3.cell 1, hw3.free 1⟩, { bb := h.bb, bm := h.bm, bc := h.bc, n1 := h.n1, n2 := h.n2, n3 := h.n3, v1 := by rw [he]; exact h.v1, v2 := by rw [he]; exact h.v2, v3 := by rw [he]; exact h.v3, whole := hw3.put 1 v', fly := hf.kept hgr4 (Or.inr (by rw [he]; exact h.v1)), sent := hm3.kept hgr4 (fun e => h.n1 (by injection e with e; exact e.symm)), came := hc3.kept hgr4 (fun e => h.n2 (by injection e with e; exact e.symm)), fs := h.fs, gs := h.gs }, ?_⟩
  have f3 := Fr.of_grown (R := Foot b mb cb v) hg (Nat.le_refl _) (fun k e _ => Or.inr (Or.inr (Or.inr e)))
  have f4 := Fr.of_grown (R := Foot b mb cb v) hgr4 hg.size (fun k e _ => Or.inl (by injection e with e; exact e.symm))
  exact f3.trans f4
/-- What the walk reads of a world behind the key's box. -/
def DlvC (b cb kb lb : Nat) (l : Let) (W : World) : Prop :=
  W.cell? ⟨b, 3, none⟩ = some (.map (some cb)) ∧ W.cell? ⟨kb, 0, none⟩ = some (.int .i64 l.f) ∧ W.cell? ⟨kb, 1, none⟩ = some (.int .i64 l.t) ∧ W.cell? ⟨kb, 2, none⟩ = some (.int .i64 l.s) ∧
    W.cell? ⟨lb, 0, none⟩ = some (.int .i64 l.f) ∧ W.cell? ⟨lb, 1, none⟩ = some (.int .i64 l.t) ∧ W.cell? ⟨lb, 2, none⟩ = some (.int .i64 l.s) ∧ W.cell? ⟨lb, 3, none⟩ = some (.string l.x)
set_option maxRecDepth 100000 in
theorem dlv_mem {w3 : World} {base N : Nat} {n : NetP} {b mb cb : Nat} {v : Value} {F G : Value → Option Value} (h : NetIn w3 base N n b mb cb v F G) (l : Let) (hf : In64 l.f) (ht : In64 l.t) (hs : In64 l.s) {lb : Nat}
    (hlb : Whole w3 lb 83 #[.int .i64 l.f, .int .i64 l.t, .int .i64 l.s, .string l.x]) (hne : lb ≠ cb) (hN : N ≤ 100000) {w4 : World} (hw4 : w4 = w3.alloc (.cells #[.int .i64 l.f, .int .i64 l.t, .int .i64 l.s] 103)) :
    (∀ W, Below w4.heap.size w4 W → DlvC b cb w3.heap.size lb l W ∧ ∃ z : Let, (Instr.lookup 97 (.map (some cb)) (.agg #[.int .i64 l.f, .int .i64 l.t, .int .i64 l.s]) true).run Tryd.prog W = .ok (.tuple #[.agg #[.int .i64 z.f, .int .i64 z.t, .int .i64 z.s, .string z.x], .bool (n.came l.f l.t l.s).isSome]) W) ∧
    (∀ W, Below w4.heap.size w4 W → NetIn W base N n b mb cb v F G) ∧
    (∀ W, Below w4.heap.size w4 W → (n.came l.f l.t l.s).isSome = false → ∃ W6 G', (Instr.mapUpdate 97 (.map (some cb)) (.agg #[.int .i64 l.f, .int .i64 l.t, .int .i64 l.s]) (.agg #[.int .i64 l.f, .int .i64 l.t, .int .i64 l.s, .string l.x])).run Tryd.prog W = .ok () W6 ∧
      DlvC b cb w3.heap.size lb l W6 ∧ W6.cell? ⟨b, 4, none⟩ = some (.int .i64 n.miss) ∧ W6.frozen? ⟨b, 4, none⟩ = false ∧ NetIn (W6.setCell ⟨b, 4, none⟩ (.int .i64 (n.miss - 1))) base (N + 1) (cameP n l) b mb cb v F G' ∧ Fr W.heap.size (Foot b mb cb v) W (W6.setCell ⟨b, 4, none⟩ (.int .i64 (n.miss - 1)))) := by
  obtain ⟨kl, hkl⟩ := key_name hf ht hs
  have hb1 : Below w3.heap.size w3 w4 := by rw [hw4]; exact (Below.refl _ _).alloc (Nat.le_refl _) _
  have h4 := h.below hb1 (Nat.le_refl _)
  have hl4 := hlb.below hb1 hlb.lt
  have hk4 : Whole w4 w3.heap.size 103 #[.int .i64 l.f, .int .i64 l.t, .int .i64 l.s] := by rw [hw4]; exact Whole.new _ _ _
  refine ⟨fun W hW => ?_, fun W hW => h4.below hW (Nat.le_refl _), fun W hW hno => ?_⟩
  · have hh := h4.below hW (Nat.le_refl _)
    have hl := hl4.below hW hl4.lt
    have hk := hk4.below hW hk4.lt
    refine ⟨⟨hh.whole.cell 3, hk.cell 0, hk.cell 1, hk.cell 2, hl.cell 0, hl.cell 1, hl.cell 2, hl.cell 3⟩, (n.came l.f l.t l.s).getD letZ, ?_⟩
    have hr := hh.came.look_ok name_keyed Tryd.underlying97 zero_let hkl
    rw [h.gs] at hr
    have e1 : ((n.came l.f l.t l.s).map letV).getD (letV letZ) = letV ((n.came l.f l.t l.s).getD letZ) := by cases n.came l.f l.t l.s <;> rfl
    rw [e1, Option.isSome_map] at hr
    exact hr
  · have hh := h4.below hW (Nat.le_refl _)
    obtain ⟨W6, G', hr, hm, hsame, hoth, hgr, _⟩ := hh.came.store name_keyed Tryd.underlying97 (by omega) hkl (letV l)
    have hw6 := hh.whole.grown hgr (fun e => h.n2 (by injection e))
    have hgr7 := grown_cell W6 b 4 (.int .i64 (n.miss - 1))
    have hc : cameP n l = { n with came := fun p q r => if p = l.f ∧ q = l.t ∧ r = l.s then some l else n.came p q r, miss := n.miss - 1 } := if_neg (by rw [hno]; simp)
    have hgs : ∀ p q r, G' (nameV p q r) = (if p = l.f ∧ q = l.t ∧ r = l.s then some l else n.came p q r).map letV := fun p q r => by
      by_cases hp : p = l.f ∧ q = l.t ∧ r = l.s
      · obtain ⟨rfl, rfl, rfl⟩ := hp
        rw [if_pos ⟨rfl, rfl, rfl⟩]
        exact hsame
      · rw [if_neg hp, ← h.gs]
        exact hoth _ (fun e => hp (nameV_inj e))
    have hl6 := (hl4.below hW hl4.lt).grown hgr (fun e => hne (by injection e))
    have hk6 := (hk4.below hW hk4.lt).grown hgr (fun e => by have := h.came.lt; injection e; omega)
    refine ⟨W6, G', hr, ⟨hw6.cell 3, hk6.cell 0, hk6.cell 1, hk6.cell 2, hl6.cell 0, hl6.cell 1, hl6.cell 2, hl6.cell 3⟩, hw6.cell 4, hw6.free 4, ?_, ?_⟩
    · rw [hc]
      exact { bb := h.bb, bm := h.bm, bc := h.bc, n1 := h.n1, n2 := h.n2, n3 := h.n3, v1 := h.v1, v2 := h.v2, v3 := h.v3, whole := hw6.put 4 _, fly := (hh.fly.kept hgr (Or.inr h.v3)).kept hgr7 (Or.inr h.v1), sent := ((hh.sent.kept hgr (fun e => h.n3 (by injection e))).kept hgr7 (fun e => h.n1 (by injection e with e; exact e.symm))).mono (Nat.le_succ _), came := hm.kept hgr7 (fun e => h.n2 (by injection e with e; exact e.symm)), fs := h.fs, gs := hgs }
    · have f6 := Fr.of_grown (R := Foot b mb cb v) hgr (Nat.le_refl _) (fun k e _ => Or.inr (Or.inr (Or.inl (by injection e with e; exact e.symm))))
      have f7 := Fr.of_grown (R := Foot b mb cb v) hgr7 hgr.size (fun k e _ => Or.inl (by injection e with e; exact e.symm))
      exact f6.trans f7
end Go.Proofs.YtlopoddllfkkfaaDoor
