/- A range over a function that hands over slices of numbers of its own making: a law of one's own. -/
import Derived.RangeFuncWrites
import Derived.RangeFuncCalls
import Derived.Test.YtcmocigckcjdjaaGreatDoorMem
namespace Go.Proofs.YtcmocigckcjdjaaGreatDoor
open Go.RowKit

def cellsOf (L : List Int) : List Value := L.map (Value.int .i64)
/-- What a round keeps for the function that it comes of. -/
def KeepG (Cp : Nat → Prop) (g : Nat) (A A' : World) : Prop := A.heap.size ≤ A'.heap.size ∧ ∀ b, (b = g ∨ Cp b) → A'.heap[b]? = A.heap[b]?

/-- Function gf, having captured lb, hands over the lists L 0 .. L (N - 1), each in a slice of its own. -/
def IterOk (P : Program) (gf : Nat) (lb : Array Value) (Cp : Nat → Prop) (e : TypeId) (N : Nat) (L : Nat → List Int) (w : World) : Prop :=
  ∀ (l : Nat) (J Jx : Nat → Nat → World → Prop) (W : World), Below w.heap.size w W →
    (∀ g k A A', W.heap.size ≤ g → J g k A → A.grownBy A' (some g) → J g k A') → (∀ g k A A', W.heap.size ≤ g → Jx g k A → A.grownBy A' (some g) → Jx g k A') →
    (∀ g k v A, W.heap.size ≤ g → k < N → J g k A → W.heap.size ≤ A.heap.size → g < A.heap.size → A.ownsRow W.heap.size e 1 v (L k).length (cellsOf (L k)) → v.ownBlock ≠ some g → YieldAt Fence.wide 2 P l #[v] A fun en A' =>
      (en = .returned (.bool true) ∧ J g (k + 1) A' ∧ KeepG Cp g A A') ∨ (en = .returned (.bool false) ∧ Jx g (k + 1) A')) →
    (∀ g, W.heap.size ≤ g → J g 0 W) →
    CallsIn Fence.wide 3 P gf (#[.func (.yield l) #[] #[]] ++ lb) W fun en W' => (∃ v, en = .returned v) ∧ ∃ g, W.heap.size ≤ g ∧ (J g N W' ∨ ∃ k, 0 < k ∧ k ≤ N ∧ Jx g k W')

/-- How a round may be left. -/
def roundP (Cp : Nat → Prop) (I : Nat → Nat → World → Prop) (Ix : Code → Nat → Nat → World → Prop) (D g k : Nat) (W : World) : Exit → Act → World → Prop
  | .normal, _, W' => (W.heap.size ≤ W'.heap.size ∧ ∀ b, (b = D ∨ b = D + 1 ∨ b = g ∨ Cp b) → W'.heap[b]? = W.heap[b]?) ∧ I g (k + 1) W'
  | .ret, _, W' => (∀ b, (b = D ∨ b = D + 1) → W'.heap[b]? = W.heap[b]?) ∧ Ix .ret g (k + 1) W'
  | .exit id, _, W' => (∀ b, (b = D ∨ b = D + 1) → W'.heap[b]? = W.heap[b]?) ∧ Ix (.exit id) g (k + 1) W'
  | .goto t, _, W' => (∀ b, (b = D ∨ b = D + 1) → W'.heap[b]? = W.heap[b]?) ∧ Ix (.goto t) g (k + 1) W'
  | .panic _, _, _ => False
  | .outgrown, _, _ => False

set_option maxHeartbeats 1000000 in
theorem range_ints {P : Program} {gf : Nat} {lb : Array Value} {Cp : Nat → Prop} {e : TypeId} {N : Nat} {L : Nat → List Int} {g : Operand} {ps : Array Tmp} {assign body : Code} {Q : Exit → Act → World → Prop} {a : Act} {w : World}
    (hg : a.eval g = .func (.func gf) #[] lb) (eg : ∀ args w, (callFunc gf args).run P w = .ok (.enter gf args) w) (hit : IterOk P gf lb Cp e N L w) (hCp : ∀ b, Cp b → b < w.heap.size) (hps : ps.size = 1)
    (I : Nat → Nat → World → Prop) (Ix : Code → Nat → Nat → World → Prop)
    (hI : ∀ g k A A' r, w.heap.size + 2 ≤ g → (r = w.heap.size ∨ r = w.heap.size + 1 ∨ r = g) → I g k A → A.grownBy A' (some r) → I g k A')
    (hIx : ∀ c g k A A' r, w.heap.size + 2 ≤ g → (r = w.heap.size ∨ r = w.heap.size + 1 ∨ r = g) → Ix c g k A → A.grownBy A' (some r) → Ix c g k A')
    (h0 : ∀ g, w.heap.size + 2 ≤ g → I g 0 w) (a₁ : Value → Act)
    (hassign : ∀ (l : Nat) (v : Value) (W : World) (K : Act → World → Prop), K (a₁ v) W →
      assign.wpIn (Fence.wide.inRound l) 2 P (Exit.then K (fun _ _ _ => False)) { tmps := (ps.zip #[v]).foldl (fun t (p, v) => t.setIfInBounds p v) a.tmps, defers := [] } W)
    (hbody : ∀ (l g k : Nat) (v : Value) (W : World), w.heap.size + 2 ≤ g → k < N → I g k W → w.heap.size + 2 ≤ W.heap.size → g < W.heap.size → W.ownsRow (w.heap.size + 2) e 1 v (L k).length (cellsOf (L k)) → v.ownBlock ≠ some g →
      body.wpIn (Fence.wide.inRound l) 2 P (roundP Cp I Ix w.heap.size g k W) (a₁ v) W)
    (hdone : ∀ (g : Nat) (W : World), w.heap.size + 2 ≤ g → I g N W → W.heap[w.heap.size]? = some (.deferred (some [])) → Q .normal { a with defers := { target := .collected w.heap.size, args := #[] } :: a.defers } W)
    (hstop : ∀ (c : Code) (g k : Nat) (W : World), w.heap.size + 2 ≤ g → 0 < k → k ≤ N → Ix c g k W → W.heap[w.heap.size]? = some (.deferred (some [])) → c.wp P Q { a with defers := { target := .collected w.heap.size, args := #[] } :: a.defers } W) :
    (Code.rangeFunc g ps assign body).wp P Q a w := by
  refine (wpIn_wide (n := 4)).1 (wpIn_rangeFunc fun fn _ => ?_)
  have hro : Fence.wide.round = none := rfl
  rw [hro]
  obtain ⟨rec, hrec⟩ : ∃ rec : LoopState → Option Code → Loop, rec = fun st pe => { state := st, pending := pe, fn, tmps := a.tmps, params := ps, assign, body, defers := w.heap.size } := ⟨_, rfl⟩
  obtain ⟨D, hD⟩ : ∃ D, w.heap.size = D := ⟨_, rfl⟩
  obtain ⟨W1, hW1⟩ : ∃ W1, (w.alloc (.deferred (some []))).alloc (.loop (rec .ready none)) = W1 := ⟨_, rfl⟩
  have hs1 : W1.heap.size = D + 2 := by rw [← hW1]; simp [hD]
  have hL1 : W1.heap[D + 1]? = some (.loop (rec .ready none)) := by
    rw [← hW1, ← hD]
    have := World.alloc_heap_new (w.alloc (.deferred (some []))) (.loop (rec .ready none))
    rwa [World.size_alloc] at this
  have hK1 : W1.heap[D]? = some (.deferred (some [])) := by
    rw [← hW1, ← hD]
    exact (Below.heap_alloc _ _ _ (by simp)).trans (World.alloc_heap_new w _)
  have hb1 : Below w.heap.size w W1 := by
    rw [← hW1]; exact ((Below.refl _ w).alloc (Nat.le_refl _) _).alloc (by simp) _
  have hg1 : w.grownBy W1 (some D) := ⟨hb1.os, hb1.tape, hb1.output, hb1.size, fun i hi _ => hb1.block i hi⟩
  rw [hD] at hI hIx h0 hbody hdone hstop
  refine ⟨D + 1, [{ target := .collected D, args := #[] }], W1, { target := .fn (.func gf) lb, args := #[.func (.yield (D + 1)) #[] #[]] }, W1, gf, #[.func (.yield (D + 1)) #[] #[]] ++ lb, W1, ?_, ?_, fun _ _ => trivial, ?_, fun _ => by omega, ?_⟩
  · have := run_enterLoop_outer (P := P) (w := w) fn a.tmps ps assign body
    rw [this, ← hW1, hrec, hD]
  · simp only [resolve, hg]
    simp [go_sem]
  · simp [invoke, go_sem, eg]
  · have hkeep : ∀ {A A' : World} {r b : Nat} {o : Obj}, A.grownBy A' (some r) → b ≠ r → A.heap[b]? = some o → A'.heap[b]? = some o := fun hgr hne ho =>
      (hgr.block _ (Array.getElem?_eq_some_iff.1 ho).1 (by simpa using hne)).trans ho
    refine (hit (D + 1)
      (fun g k W => I g k W ∧ W.heap[D + 1]? = some (.loop (rec .ready none)) ∧ W.heap[D]? = some (.deferred (some [])))
      (fun g k W => ∃ c, Ix c g k W ∧ W.heap[D + 1]? = some (.loop (rec .done (some c))) ∧ W.heap[D]? = some (.deferred (some [])))
      W1 hb1
      (fun g k A A' hgs hs hgr => ⟨hI g k A A' g (by omega) (Or.inr (Or.inr rfl)) hs.1 hgr, hkeep hgr (by omega) hs.2.1, hkeep hgr (by omega) hs.2.2⟩)
      (fun g k A A' hgs hs hgr => by
        obtain ⟨c, hc, hl, hk⟩ := hs
        exact ⟨c, hIx c g k A A' g (by omega) (Or.inr (Or.inr rfl)) hc hgr, hkeep hgr (by omega) hl, hkeep hgr (by omega) hk⟩)
      ?_ (fun g hgs => ⟨hI g 0 w W1 D (by omega) (Or.inl rfl) (h0 g (by omega)) hg1, hL1, hK1⟩)).mono ?_
    · rintro g k v W hgs hkN ⟨hi, hl, hk⟩ hsz hglt hrow hvg
      rw [hs1] at hgs hsz hrow
      have hlt : D + 1 < W.heap.size := by omega
      have hy := run_yield (P := P) (args := #[v]) hl (by rw [hrec]; simp [hps])
      rw [hrec] at hy
      refine ⟨fn, _, assign, body, hy, roundIn_of_wpIn trivial (hassign _ v W _ ⟨_, run_beginRound hl (by rw [hrec]), ?_⟩)⟩
      have hl2 : (W.putObj (D + 1) (.loop { rec .ready none with state := .busy })).heap[D + 1]? = some (.loop { rec .ready none with state := .busy }) := World.putObj_heap_same hlt
      have hk2 : (W.putObj (D + 1) (.loop { rec .ready none with state := .busy })).heap[D]? = some (.deferred (some [])) := (World.putObj_heap_other (by omega)).trans hk
      have hgr2 := grownBy_putObj' W (D + 1) (.loop { rec .ready none with state := .busy })
      have hne : v.ownBlock = none ∨ v.ownBlock ≠ some (D + 1) := by
        rcases hrow.2 with ⟨rfl, _⟩ | ⟨b, cap, cur, rfl, hb, _⟩
        · exact Or.inl rfl
        · exact Or.inr (by simp [Value.ownBlock]; omega)
      refine wpIn_mono (hbody (D + 1) g k v _ hgs hkN (hI g k _ _ (D + 1) hgs (Or.inr (Or.inl rfl)) hi hgr2) (by simpa using hsz) (by simpa using hglt) (hrow.kept hgr2 hne) hvg) ?_
      have fin : ∀ (jump : Option Code) (W3 : World), (∀ b, (b = D ∨ b = D + 1) → W3.heap[b]? = (W.putObj (D + 1) (.loop { rec .ready none with state := .busy })).heap[b]?) →
          (Instr.endRound (D + 1) jump).run P W3 = .ok (.bool jump.isNone) (W3.putObj (D + 1) (.loop (rec (if jump.isNone then .ready else .done) jump))) ∧
          W3.heap[D + 1]? = some (.loop { rec .ready none with state := .busy }) ∧
          (W3.putObj (D + 1) (.loop (rec (if jump.isNone then .ready else .done) jump))).heap[D + 1]? = some (.loop (rec (if jump.isNone then .ready else .done) jump)) ∧
          (W3.putObj (D + 1) (.loop (rec (if jump.isNone then .ready else .done) jump))).heap[D]? = some (.deferred (some [])) := fun jump W3 hk3 => by
        have hl3 := (hk3 (D + 1) (Or.inr rfl)).trans hl2
        have := run_endRound (P := P) jump hl3
        rw [hrec] at this ⊢
        exact ⟨this, by rw [hrec] at hl3; exact hl3, World.putObj_heap_same (Array.getElem?_eq_some_iff.1 hl3).1, (World.putObj_heap_other (by omega)).trans ((hk3 D (Or.inl rfl)).trans hk2)⟩
      rintro en a3 W3 hp
      cases en with
      | normal =>
        obtain ⟨⟨hsz3, hk3⟩, hi3⟩ := hp
        obtain ⟨hr, hl3, hl4, hk4⟩ := fin none W3 (fun b hb => hk3 b (by rcases hb with h | h <;> simp [h]))
        refine ⟨_, _, hr, .inl ⟨rfl, ⟨hI g (k + 1) _ _ (D + 1) hgs (Or.inr (Or.inl rfl)) hi3 (grownBy_putObj' W3 (D + 1) _), hl4, hk4⟩, ?_, fun b hb => ?_⟩⟩
        · simpa using hsz3
        · have hbD : b ≠ D + 1 := by
            rcases hb with rfl | h
            · omega
            · have := hCp b h; omega
          rw [World.putObj_heap_other hbD, hk3 b (by rcases hb with h | h <;> simp [h]), World.putObj_heap_other hbD]
      | ret =>
        obtain ⟨hk3, hi3⟩ := hp
        obtain ⟨hr, hl3, hl4, hk4⟩ := fin (some .ret) W3 hk3
        exact ⟨_, _, hr, .inr ⟨rfl, .ret, hIx _ g (k + 1) _ _ (D + 1) hgs (Or.inr (Or.inl rfl)) hi3 (grownBy_putObj' W3 (D + 1) _), hl4, hk4⟩⟩
      | exit id =>
        obtain ⟨hk3, hi3⟩ := hp
        obtain ⟨hr, hl3, hl4, hk4⟩ := fin (some (.exit id)) W3 hk3
        exact ⟨_, _, hr, .inr ⟨rfl, .exit id, hIx _ g (k + 1) _ _ (D + 1) hgs (Or.inr (Or.inl rfl)) hi3 (grownBy_putObj' W3 (D + 1) _), hl4, hk4⟩⟩
      | goto t =>
        obtain ⟨hk3, hi3⟩ := hp
        obtain ⟨hr, hl3, hl4, hk4⟩ := fin (some (.goto t)) W3 hk3
        exact ⟨_, _, hr, .inr ⟨rfl, .goto t, hIx _ g (k + 1) _ _ (D + 1) hgs (Or.inr (Or.inl rfl)) hi3 (grownBy_putObj' W3 (D + 1) _), hl4, hk4⟩⟩
      | panic ch => exact hp.elim
      | outgrown => exact hp.elim
    · rintro en W2 ⟨⟨v, rfl⟩, g, hgs, hend⟩
      rw [hs1] at hgs
      rcases hend with ⟨hi, hl, hk⟩ | ⟨k, hk0, hkN, c, hi, hl, hk⟩
      · exact ⟨none, _, by have := run_endLoop (P := P) hl (by rw [hrec]; simp); rw [hrec] at this; exact this, hdone g _ hgs (hI g N _ _ (D + 1) hgs (Or.inr (Or.inl rfl)) hi (grownBy_putObj' W2 (D + 1) _)) ((World.putObj_heap_other (by omega)).trans hk)⟩
      · exact ⟨some c, _, by have := run_endLoop (P := P) hl (by rw [hrec]; simp); rw [hrec] at this; exact this, wpIn_wide.2 (hstop c g k _ hgs hk0 hkN (hIx c g k _ _ (D + 1) hgs (Or.inr (Or.inl rfl)) hi (grownBy_putObj' W2 (D + 1) _)) ((World.putObj_heap_other (by omega)).trans hk))⟩
end Go.Proofs.YtcmocigckcjdjaaGreatDoor
