/- A range over a function that hands over values in an order that nobody knows ('SeqGives'): a law of one's own. -/
import Derived.RangeFuncWrites
import Derived.RangeFuncCalls
import Derived.RangeFuncGives
import Derived.Test.YtcmocigckcjdjaaGreatDoorMem
namespace Go.Proofs.YtcmocigckcjdjaaGreatDoor
open Go.RowKit

/-- No row of cells lies there. -/
def NotCells (A : World) (r : Nat) : Prop := ∀ cs t f, A.heap[r]? ≠ some (.cells cs t f)
theorem NotCells.walk {A : World} {r : Nat} (h : ∃ o : Obj, A.heap[r]? = some o ∧ o.isWalk = true) : NotCells A r := by
  obtain ⟨o, ho, hw⟩ := h
  intro cs t f e
  rw [ho] at e
  injection e with e
  subst e
  simp [Obj.isWalk] at hw
theorem NotCells.of {A : World} {r : Nat} {o : Obj} (h : A.heap[r]? = some o) (hn : ∀ cs t f, o ≠ .cells cs t f) : NotCells A r := by
  intro cs t f e
  rw [h] at e
  injection e with e
  exact hn cs t f e

/-- How a round ends. -/
def roundS {α : Type} (I : List α → World → Prop) (D : Nat) (pre : List α) (W : World) : Exit → Act → World → Prop
  | .normal, _, W' => (KeepsWalks W W' ∧ ∀ b, (b = D ∨ b = D + 1) → W'.heap[b]? = W.heap[b]?) ∧ I pre W'
  | .ret, _, _ => False
  | .exit _, _, _ => False
  | .goto _, _, _ => False
  | .panic _, _, _ => False
  | .outgrown, _, _ => False

set_option maxHeartbeats 1000000 in
theorem range_seq {α : Type} {P : Program} {gf : Nat} {lb : Array Value} {enc : α → Value} {S : List α → Prop} {N : Nat} {g : Operand} {ps : Array Tmp} {assign body : Code} {Q : Exit → Act → World → Prop} {a : Act} {w : World}
    (hg : a.eval g = .func (.func gf) #[] lb) (eg : ∀ args w, (callFunc gf args).run P w = .ok (.enter gf args) w) (hit : SeqGives Fence.wide 3 P gf lb enc S N w) (hps : ps.size = 1)
    (I : List α → World → Prop)
    (hI : ∀ (pre : List α) (A A' : World) (row : Option Nat), I pre A → A.grownBy A' row → (∀ r, row = some r → w.heap.size ≤ r ∧ NotCells A r) → I pre A')
    (h0 : I [] w) (a₁ : α → World → Act) (W₁ : α → World → World) (hW₁ : ∀ (x : α) (W : World), W.grownBy (W₁ x W) none)
    (hassign : ∀ (l : Nat) (x : α) (W : World) (K : Act → World → Prop), K (a₁ x W) (W₁ x W) →
      assign.wpIn (Fence.wide.inRound l) 2 P (Exit.then K (fun _ _ _ => False)) { tmps := (ps.zip #[enc x]).foldl (fun t (p, v) => t.setIfInBounds p v) a.tmps, defers := [] } W)
    (hbody : ∀ (l : Nat) (pre : List α) (x : α) (W W2 : World), I pre W2 → pre.length < N → w.heap.size + 2 ≤ W.heap.size → (W₁ x W).grownBy W2 (some (w.heap.size + 1)) → (∀ b, (b = w.heap.size ∨ b = w.heap.size + 1) → NotCells W2 b) →
      body.wpIn (Fence.wide.inRound l) 2 P (roundS I w.heap.size (pre ++ [x]) W2) (a₁ x W) W2)
    (hdone : ∀ (xs : List α) (W : World), S xs → I xs W → W.heap[w.heap.size]? = some (.deferred (some [])) → Q .normal { a with defers := { target := .collected w.heap.size, args := #[] } :: a.defers } W) :
    (Code.rangeFunc g ps assign body).wp P Q a w := by
  refine (wpIn_wide (n := 4)).1 (wpIn_rangeFunc fun fn _ => ?_)
  have hro : Fence.wide.round = none := rfl
  rw [hro]
  obtain ⟨rec, hrec⟩ : ∃ rec : LoopState → Option Code → Loop, rec = fun st pe => { state := st, pending := pe, fn, tmps := a.tmps, params := ps, assign, body, defers := w.heap.size } := ⟨_, rfl⟩
  obtain ⟨D, hD⟩ : ∃ D, w.heap.size = D := ⟨_, rfl⟩
  obtain ⟨W1, hW1⟩ : ∃ W1, (w.alloc (.deferred (some []))).alloc (.loop (rec .ready none)) = W1 := ⟨_, rfl⟩
  have hs1 : W1.heap.size = D + 2 := by rw [← hW1]; simp [hD]
  have hL1 : W1.heap[D + 1]? = some (.loop (rec .ready none)) := by
    rw [← hW1, ← hD]
    have := World.alloc_heap_new (w.alloc (.deferred (some []))) (.loop (rec .ready none))
    rwa [World.size_alloc] at this
  have hK1 : W1.heap[D]? = some (.deferred (some [])) := by
    rw [← hW1, ← hD]
    exact (Below.heap_alloc _ _ _ (by simp)).trans (World.alloc_heap_new w _)
  have hb1 : Below w.heap.size w W1 := by
    rw [← hW1]; exact ((Below.refl _ w).alloc (Nat.le_refl _) _).alloc (by simp) _
  have hg1 : w.grownBy W1 none := ⟨hb1.os, hb1.tape, hb1.output, hb1.size, fun i hi _ => hb1.block i hi⟩
  rw [hD] at hI hbody hdone
  refine ⟨D + 1, [{ target := .collected D, args := #[] }], W1, { target := .fn (.func gf) lb, args := #[.func (.yield (D + 1)) #[] #[]] }, W1, gf, #[.func (.yield (D + 1)) #[] #[]] ++ lb, W1, ?_, ?_, fun _ _ => trivial, ?_, fun _ => by omega, ?_⟩
  · have := run_enterLoop_outer (P := P) (w := w) fn a.tmps ps assign body
    rw [this, ← hW1, hrec, hD]
  · simp only [resolve, hg]
    simp [go_sem]
  · simp [invoke, go_sem, eg]
  · have hkeep : ∀ {A A' : World} {row : Option Nat} {b : Nat} {o : Obj}, A.grownBy A' row → some b ≠ row → A.heap[b]? = some o → A'.heap[b]? = some o := fun hgr hne ho =>
      (hgr.block _ (Array.getElem?_eq_some_iff.1 ho).1 hne).trans ho
    have nl : ∀ (L : Loop) (cs : Array Value) (t : TypeId) (f : Nat × Nat), Obj.loop L ≠ .cells cs t f := fun _ _ _ _ e => by cases e
    have nd : ∀ (L : Option (List Deferred)) (cs : Array Value) (t : TypeId) (f : Nat × Nat), Obj.deferred L ≠ .cells cs t f := fun _ _ _ _ e => by cases e
    refine (hit (D + 1)
      (fun pre W => (I pre W ∧ D + 2 ≤ W.heap.size) ∧ W.heap[D + 1]? = some (.loop (rec .ready none)) ∧ W.heap[D]? = some (.deferred (some [])))
      W1 hb1
      (fun pre A A' row hs hgr hrow => by
        rw [hs1] at hrow
        have hne : ∀ b, b < D + 2 → some b ≠ row := fun b hb e => by have := (hrow b e.symm).1; omega
        exact ⟨⟨hI pre A A' row hs.1.1 hgr (fun r e => ⟨by have := (hrow r e).1; omega, NotCells.walk (hrow r e).2⟩), Nat.le_trans hs.1.2 hgr.size⟩, hkeep hgr (hne _ (by omega)) hs.2.1, hkeep hgr (hne _ (by omega)) hs.2.2⟩)
      ?_ ⟨⟨hI [] w W1 none h0 hg1 (fun r e => by cases e), by omega⟩, hL1, hK1⟩).mono ?_
    · rintro pre x W ⟨⟨hi, hsz⟩, hl, hk⟩ hlen
      have hlt : D + 1 < W.heap.size := by omega
      have hy := run_yield (P := P) (args := #[enc x]) hl (by rw [hrec]; simp [hps])
      rw [hrec] at hy
      have hgr1 := hW₁ x W
      have hi1 := hI pre W (W₁ x W) none hi hgr1 (fun r e => by cases e)
      have hl1 : (W₁ x W).heap[D + 1]? = some (.loop (rec .ready none)) := hkeep hgr1 (fun e => by cases e) hl
      have hk1 : (W₁ x W).heap[D]? = some (.deferred (some [])) := hkeep hgr1 (fun e => by cases e) hk
      refine ⟨fn, _, assign, body, hy, roundIn_of_wpIn trivial (hassign _ x W _ ⟨_, run_beginRound hl1 (by rw [hrec]), ?_⟩)⟩
      have hlt1 : D + 1 < (W₁ x W).heap.size := Nat.lt_of_lt_of_le hlt hgr1.size
      have hl2 : ((W₁ x W).putObj (D + 1) (.loop { rec .ready none with state := .busy })).heap[D + 1]? = some (.loop { rec .ready none with state := .busy }) := World.putObj_heap_same hlt1
      have hk2 : ((W₁ x W).putObj (D + 1) (.loop { rec .ready none with state := .busy })).heap[D]? = some (.deferred (some [])) := (World.putObj_heap_other (by omega)).trans hk1
      have hgr2 := grownBy_putObj' (W₁ x W) (D + 1) (.loop { rec .ready none with state := .busy })
      have hi2 := hI pre _ _ (some (D + 1)) hi1 hgr2 (fun r e => by cases e; exact ⟨by omega, NotCells.of hl1 (nl _)⟩)
      have hkw2 : KeepsWalks W ((W₁ x W).putObj (D + 1) (.loop { rec .ready none with state := .busy })) := (KeepsWalks.of_grownBy hgr1 (fun _ _ e => by cases e)).trans (KeepsWalks.putObj _ hl1 rfl)
      refine wpIn_mono (hbody (D + 1) pre x W _ hi2 hlen hsz hgr2 (fun b hb => by
        rcases hb with rfl | rfl
        · exact NotCells.of hk2 (nd _)
        · exact NotCells.of hl2 (nl _))) ?_
      rintro en a3 W3 hp
      cases en with
      | normal =>
        obtain ⟨⟨hkw3, hk3⟩, hi3⟩ := hp
        have hl3 := (hk3 (D + 1) (Or.inr rfl)).trans hl2
        have hd3 := (hk3 D (Or.inl rfl)).trans hk2
        have hr := run_endRound (P := P) none hl3
        have hlt3 : D + 1 < W3.heap.size := (Array.getElem?_eq_some_iff.1 hl3).1
        rw [hrec] at hr
        refine ⟨_, _, hr, rfl, ⟨⟨hI (pre ++ [x]) _ _ (some (D + 1)) hi3 (grownBy_putObj' W3 (D + 1) _) (fun r e => by cases e; exact ⟨by omega, NotCells.of hl3 (nl _)⟩), ?_⟩, ?_, (World.putObj_heap_other (by omega)).trans hd3⟩, (hkw2.trans hkw3).trans (KeepsWalks.putObj _ hl3 rfl)⟩
        · exact Nat.le_trans (Nat.le_trans hsz (hkw2.trans hkw3).size) (grownBy_putObj' W3 (D + 1) _).size
        · rw [World.putObj_heap_same hlt3, hrec]
          rfl
      | ret => exact hp.elim
      | exit id => exact hp.elim
      | goto t => exact hp.elim
      | panic ch => exact hp.elim
      | outgrown => exact hp.elim
    · rintro en W2 ⟨⟨v, rfl⟩, xs, hxs, ⟨hi, _⟩, hl, hk⟩
      refine ⟨none, _, by have := run_endLoop (P := P) hl (by rw [hrec]; simp); rw [hrec] at this; exact this, hdone xs _ hxs (hI xs _ _ (some (D + 1)) hi (grownBy_putObj' W2 (D + 1) _) (fun r e => by cases e; exact ⟨by omega, NotCells.of hl (nl _)⟩)) ((World.putObj_heap_other (by omega)).trans hk)⟩
end Go.Proofs.YtcmocigckcjdjaaGreatDoor
