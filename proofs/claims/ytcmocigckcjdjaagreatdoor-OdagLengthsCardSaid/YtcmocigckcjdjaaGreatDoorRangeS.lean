/- A range over a function that hands over slices of numbers of its own making, where what it keeps lies in blocks that come up one after the other: a law of one's own. -/
import Derived.Test.YtcmocigckcjdjaaGreatDoorRange
namespace Go.Proofs.YtcmocigckcjdjaaGreatDoor
open Go.RowKit

/-- What a round keeps for the function that it comes of. -/
def KeepW (Cp G : Nat → Prop) (A A' : World) : Prop := A.heap.size ≤ A'.heap.size ∧ ∀ b, (G b ∨ Cp b) → A'.heap[b]? = A.heap[b]?
/-- Invariant J outlives what is done beside: at the blocks G and at new ones. -/
def StaysW (J : (Nat → Prop) → Nat → World → Prop) (B : Nat) : Prop := ∀ G k A A' row, (∀ b, G b → B ≤ b) → (∀ r, row = some r → G r) → J G k A → A.grownBy A' row → J G k A'
/-- New blocks may be taken. -/
def TakesW (J : (Nat → Prop) → Nat → World → Prop) (B : Nat) : Prop := ∀ G G' k A, (∀ b, G' b → B ≤ b) → (∀ b, G' b → G b ∨ A.heap.size ≤ b) → J G k A → J G' k A
/-- What a round does with the k-th list. -/
def RoundW (P : Program) (Cp : Nat → Prop) (e : TypeId) (N : Nat) (L : Nat → List Int) (l : Nat) (J Jx : (Nat → Prop) → Nat → World → Prop) (B : Nat) : Prop :=
  ∀ G k v A, (∀ b, G b → B ≤ b ∧ b < A.heap.size) → k < N → J G k A → B ≤ A.heap.size → A.ownsRow B e 1 v (L k).length (cellsOf (L k)) → (∀ b, v.ownBlock = some b → ¬ G b) → YieldAt Fence.wide 2 P l #[v] A fun en A' =>
      (en = .returned (.bool true) ∧ J G (k + 1) A' ∧ KeepW Cp G A A') ∨ (en = .returned (.bool false) ∧ Jx G (k + 1) A')

/-- Function gf, having captured lb, hands over the lists L 0 .. L (N - 1), each in a slice of its own. -/
def IterW (P : Program) (gf : Nat) (lb : Array Value) (Cp : Nat → Prop) (e : TypeId) (N : Nat) (L : Nat → List Int) (w : World) : Prop :=
  ∀ (l : Nat) (J Jx : (Nat → Prop) → Nat → World → Prop) (W : World), Below w.heap.size w W →
    StaysW J W.heap.size → StaysW Jx W.heap.size → TakesW J W.heap.size → RoundW P Cp e N L l J Jx W.heap.size → J (fun _ => False) 0 W →
    CallsIn Fence.wide 3 P gf (#[.func (.yield l) #[] #[]] ++ lb) W fun en W' => (∃ v, en = .returned v) ∧ ∃ G, (∀ b, G b → W.heap.size ≤ b) ∧ (J G N W' ∨ ∃ k, 0 < k ∧ k ≤ N ∧ Jx G k W')

theorem IterOk.ways {P : Program} {gf : Nat} {lb : Array Value} {Cp : Nat → Prop} {e : TypeId} {N : Nat} {L : Nat → List Int} {w : World} (h : IterOk P gf lb Cp e N L w) : IterW P gf lb Cp e N L w := by
  intro l J Jx W hW hJ hJx hT hY h0
  refine (h l (fun g k A => J (fun b => b = g) k A) (fun g k A => Jx (fun b => b = g) k A) W hW
    (fun g k A A' hg hs hgr => hJ _ k A A' (some g) (fun b hb => by rw [hb]; exact hg) (fun r hr => (Option.some.inj hr).symm) hs hgr)
    (fun g k A A' hg hs hgr => hJx _ k A A' (some g) (fun b hb => by rw [hb]; exact hg) (fun r hr => (Option.some.inj hr).symm) hs hgr) ?_
    (fun g hg => hT _ _ 0 W (fun b hb => by rw [hb]; exact hg) (fun b hb => Or.inr (by rw [hb]; exact hg)) h0)).mono ?_
  · intro g k v A hg hk hs hsz hlt hrow hv
    obtain ⟨fn, tmps, assign, body, hy, hR⟩ := hY (fun b => b = g) k v A (fun b hb => by rw [hb]; exact ⟨hg, hlt⟩) hk hs hsz hrow (fun b hb hbg => hv (by rw [hb, hbg]))
    refine ⟨fn, tmps, assign, body, hy, hR.mono ?_⟩
    rintro en A' (⟨rfl, h1, h2⟩ | ⟨rfl, h1⟩)
    · exact Or.inl ⟨rfl, h1, h2.1, fun b hb => h2.2 b hb⟩
    · exact Or.inr ⟨rfl, h1⟩
  · rintro en W' ⟨hv, g, hg, hend⟩
    exact ⟨hv, fun b => b = g, fun b hb => by rw [hb]; exact hg, hend⟩

/-- How a round may be left. -/
def roundW (Cp : Nat → Prop) (I : (Nat → Prop) → Nat → World → Prop) (Ix : Code → (Nat → Prop) → Nat → World → Prop) (D : Nat) (G : Nat → Prop) (k : Nat) (W : World) : Exit → Act → World → Prop
  | .normal, _, W' => (W.heap.size ≤ W'.heap.size ∧ ∀ b, (b = D ∨ b = D + 1 ∨ G b ∨ Cp b) → W'.heap[b]? = W.heap[b]?) ∧ I G (k + 1) W'
  | .ret, _, W' => (∀ b, (b = D ∨ b = D + 1) → W'.heap[b]? = W.heap[b]?) ∧ Ix .ret G (k + 1) W'
  | .exit id, _, W' => (∀ b, (b = D ∨ b = D + 1) → W'.heap[b]? = W.heap[b]?) ∧ Ix (.exit id) G (k + 1) W'
  | .goto t, _, W' => (∀ b, (b = D ∨ b = D + 1) → W'.heap[b]? = W.heap[b]?) ∧ Ix (.goto t) G (k + 1) W'
  | .panic _, _, _ => False
  | .outgrown, _, _ => False
/-- What the caller's invariant bears. -/
def BearsW (I : (Nat → Prop) → Nat → World → Prop) (D : Nat) : Prop := ∀ G k A A' row, (∀ b, G b → D + 2 ≤ b) → (∀ r, row = some r → r = D ∨ r = D + 1 ∨ G r) → I G k A → A.grownBy A' row → I G k A'

set_option maxHeartbeats 1000000 in
theorem range_ways {P : Program} {gf : Nat} {lb : Array Value} {Cp : Nat → Prop} {e : TypeId} {N : Nat} {L : Nat → List Int} {g : Operand} {ps : Array Tmp} {assign body : Code} {Q : Exit → Act → World → Prop} {a : Act} {w : World}
    (hg : a.eval g = .func (.func gf) #[] lb) (eg : ∀ args w, (callFunc gf args).run P w = .ok (.enter gf args) w) (hit : IterW P gf lb Cp e N L w) (hCp : ∀ b, Cp b → b < w.heap.size) (hps : ps.size = 1)
    (I : (Nat → Prop) → Nat → World → Prop) (Ix : Code → (Nat → Prop) → Nat → World → Prop)
    (hI : BearsW I w.heap.size) (hIx : ∀ c, BearsW (Ix c) w.heap.size) (hT : TakesW I (w.heap.size + 2))
    (h0 : I (fun _ => False) 0 w) (a₁ : Value → Act)
    (hassign : ∀ (l : Nat) (v : Value) (W : World) (K : Act → World → Prop), K (a₁ v) W →
      assign.wpIn (Fence.wide.inRound l) 2 P (Exit.then K (fun _ _ _ => False)) { tmps := (ps.zip #[v]).foldl (fun t (p, v) => t.setIfInBounds p v) a.tmps, defers := [] } W)
    (hbody : ∀ (l : Nat) (G : Nat → Prop) (k : Nat) (v : Value) (W : World), (∀ b, G b → w.heap.size + 2 ≤ b ∧ b < W.heap.size) → k < N → I G k W → w.heap.size + 2 ≤ W.heap.size → W.ownsRow (w.heap.size + 2) e 1 v (L k).length (cellsOf (L k)) → (∀ b, v.ownBlock = some b → ¬ G b) →
      body.wpIn (Fence.wide.inRound l) 2 P (roundW Cp I Ix w.heap.size G k W) (a₁ v) W)
    (hdone : ∀ (G : Nat → Prop) (W : World), (∀ b, G b → w.heap.size + 2 ≤ b) → I G N W → W.heap[w.heap.size]? = some (.deferred (some [])) → Q .normal { a with defers := { target := .collected w.heap.size, args := #[] } :: a.defers } W)
    (hstop : ∀ (c : Code) (G : Nat → Prop) (k : Nat) (W : World), (∀ b, G b → w.heap.size + 2 ≤ b) → 0 < k → k ≤ N → Ix c G k W → W.heap[w.heap.size]? = some (.deferred (some [])) → c.wp P Q { a with defers := { target := .collected w.heap.size, args := #[] } :: a.defers } W) :
    (Code.rangeFunc g ps assign body).wp P Q a w := by
  refine (wpIn_wide (n := 4)).1 (wpIn_rangeFunc fun fn _ => ?_)
  have hro : Fence.wide.round = none := rfl
  rw [hro]
  obtain ⟨rec, hrec⟩ : ∃ rec : LoopState → Option Code → Loop, rec = fun st pe => { state := st, pending := pe, fn, tmps := a.tmps, params := ps, assign, body, defers := w.heap.size } := ⟨_, rfl⟩
  obtain ⟨D, hD⟩ : ∃ D, w.heap.size = D := ⟨_, rfl⟩
  obtain ⟨W1, hW1⟩ : ∃ W1, (w.alloc (.deferred (some []))).alloc (.loop (rec .ready none)) = W1 := ⟨_, rfl⟩
  have hs1 : W1.heap.size = D + 2 := by rw [← hW1]; simp [hD]
  have hL1 : W1.heap[D + 1]? = some (.loop (rec .ready none)) := by
    rw [← hW1, ← hD]
    have := World.alloc_heap_new (w.alloc (.deferred (some []))) (.loop (rec .ready none))
    rwa [World.size_alloc] at this
  have hK1 : W1.heap[D]? = some (.deferred (some [])) := by
    rw [← hW1, ← hD]
    exact (Below.heap_alloc _ _ _ (by simp)).trans (World.alloc_heap_new w _)
  have hb1 : Below w.heap.size w W1 := by
    rw [← hW1]; exact ((Below.refl _ w).alloc (Nat.le_refl _) _).alloc (by simp) _
  have hg1 : w.grownBy W1 (some D) := ⟨hb1.os, hb1.tape, hb1.output, hb1.size, fun i hi _ => hb1.block i hi⟩
  rw [hD] at hI hIx hT hbody hdone hstop
  refine ⟨D + 1, [{ target := .collected D, args := #[] }], W1, { target := .fn (.func gf) lb, args := #[.func (.yield (D + 1)) #[] #[]] }, W1, gf, #[.func (.yield (D + 1)) #[] #[]] ++ lb, W1, ?_, ?_, fun _ _ => trivial, ?_, fun _ => by omega, ?_⟩
  · have := run_enterLoop_outer (P := P) (w := w) fn a.tmps ps assign body
    rw [this, ← hW1, hrec, hD]
  · simp only [resolve, hg]
    simp [go_sem]
  · simp [invoke, go_sem, eg]
  · have hkeep : ∀ {A A' : World} {row : Option Nat} {b : Nat} {o : Obj}, A.grownBy A' row → (∀ r, row = some r → b ≠ r) → A.heap[b]? = some o → A'.heap[b]? = some o := fun hgr hne ho =>
      (hgr.block _ (Array.getElem?_eq_some_iff.1 ho).1 (fun e => hne _ e.symm rfl)).trans ho
    have one : ∀ {r : Nat} {G : Nat → Prop}, (r = D ∨ r = D + 1) → ∀ q, some r = some q → q = D ∨ q = D + 1 ∨ G q := fun h q e => by
      obtain rfl := Option.some.inj e
      rcases h with h | h
      · exact Or.inl h
      · exact Or.inr (Or.inl h)
    have up : ∀ {G : Nat → Prop}, (∀ b, G b → D + 2 ≤ b) → ∀ {row : Option Nat}, (∀ r, row = some r → G r) → ∀ {b : Nat}, b < D + 2 → ∀ r, row = some r → b ≠ r := fun hgs row hr b hb r e h => by
      have := hgs r (hr r e); omega
    refine (hit (D + 1)
      (fun G k W => I G k W ∧ W.heap[D + 1]? = some (.loop (rec .ready none)) ∧ W.heap[D]? = some (.deferred (some [])))
      (fun G k W => ∃ c, Ix c G k W ∧ W.heap[D + 1]? = some (.loop (rec .done (some c))) ∧ W.heap[D]? = some (.deferred (some [])))
      W1 hb1
      (fun G k A A' row hgs hr hs hgr => by
        rw [hs1] at hgs
        exact ⟨hI G k A A' row hgs (fun r e => Or.inr (Or.inr (hr r e))) hs.1 hgr, hkeep hgr (up hgs hr (by omega)) hs.2.1, hkeep hgr (up hgs hr (by omega)) hs.2.2⟩)
      (fun G k A A' row hgs hr hs hgr => by
        rw [hs1] at hgs
        obtain ⟨c, hc, hl, hk⟩ := hs
        exact ⟨c, hIx c G k A A' row hgs (fun r e => Or.inr (Or.inr (hr r e))) hc hgr, hkeep hgr (up hgs hr (by omega)) hl, hkeep hgr (up hgs hr (by omega)) hk⟩)
      (fun G G' k A hgs hn hs => by
        rw [hs1] at hgs
        exact ⟨hT G G' k A hgs hn hs.1, hs.2⟩)
      ?_ ⟨hI _ 0 w W1 (some D) (fun b hb => hb.elim) (one (Or.inl rfl)) h0 hg1, hL1, hK1⟩).mono ?_
    · rintro G k v W hgs hkN ⟨hi, hl, hk⟩ hsz hrow hvg
      rw [hs1] at hgs hsz hrow
      have hgs' : ∀ b, G b → D + 2 ≤ b := fun b hb => (hgs b hb).1
      have hlt : D + 1 < W.heap.size := by omega
      have hy := run_yield (P := P) (args := #[v]) hl (by rw [hrec]; simp [hps])
      rw [hrec] at hy
      refine ⟨fn, _, assign, body, hy, roundIn_of_wpIn trivial (hassign _ v W _ ⟨_, run_beginRound hl (by rw [hrec]), ?_⟩)⟩
      have hl2 : (W.putObj (D + 1) (.loop { rec .ready none with state := .busy })).heap[D + 1]? = some (.loop { rec .ready none with state := .busy }) := World.putObj_heap_same hlt
      have hk2 : (W.putObj (D + 1) (.loop { rec .ready none with state := .busy })).heap[D]? = some (.deferred (some [])) := (World.putObj_heap_other (by omega)).trans hk
      have hgr2 := grownBy_putObj' W (D + 1) (.loop { rec .ready none with state := .busy })
      have hne : v.ownBlock = none ∨ v.ownBlock ≠ some (D + 1) := by
        rcases hrow.2 with ⟨rfl, _⟩ | ⟨b, cap, cur, rfl, hb, _⟩
        · exact Or.inl rfl
        · exact Or.inr (by simp [Value.ownBlock]; omega)
      refine wpIn_mono (hbody (D + 1) G k v _ (fun b hb => ⟨hgs' b hb, by simpa using (hgs b hb).2⟩) hkN (hI G k _ _ (some (D + 1)) hgs' (one (Or.inr rfl)) hi hgr2) (by simpa using hsz) (hrow.kept hgr2 hne) hvg) ?_
      have fin : ∀ (jump : Option Code) (W3 : World), (∀ b, (b = D ∨ b = D + 1) → W3.heap[b]? = (W.putObj (D + 1) (.loop { rec .ready none with state := .busy })).heap[b]?) →
          (Instr.endRound (D + 1) jump).run P W3 = .ok (.bool jump.isNone) (W3.putObj (D + 1) (.loop (rec (if jump.isNone then .ready else .done) jump))) ∧
          W3.heap[D + 1]? = some (.loop { rec .ready none with state := .busy }) ∧
          (W3.putObj (D + 1) (.loop (rec (if jump.isNone then .ready else .done) jump))).heap[D + 1]? = some (.loop (rec (if jump.isNone then .ready else .done) jump)) ∧
          (W3.putObj (D + 1) (.loop (rec (if jump.isNone then .ready else .done) jump))).heap[D]? = some (.deferred (some [])) := fun jump W3 hk3 => by
        have hl3 := (hk3 (D + 1) (Or.inr rfl)).trans hl2
        have := run_endRound (P := P) jump hl3
        rw [hrec] at this ⊢
        exact ⟨this, by rw [hrec] at hl3; exact hl3, World.putObj_heap_same (Array.getElem?_eq_some_iff.1 hl3).1, (World.putObj_heap_other (by omega)).trans ((hk3 D (Or.inl rfl)).trans hk2)⟩
      rintro en a3 W3 hp
      cases en with
      | normal =>
        obtain ⟨⟨hsz3, hk3⟩, hi3⟩ := hp
        obtain ⟨hr, hl3, hl4, hk4⟩ := fin none W3 (fun b hb => hk3 b (by rcases hb with h | h <;> simp [h]))
        refine ⟨_, _, hr, .inl ⟨rfl, ⟨hI G (k + 1) _ _ (some (D + 1)) hgs' (one (Or.inr rfl)) hi3 (grownBy_putObj' W3 (D + 1) _), hl4, hk4⟩, ?_, fun b hb => ?_⟩⟩
        · simpa using hsz3
        · have hbD : b ≠ D + 1 := by
            rcases hb with h | h
            · have := hgs' b h; omega
            · have := hCp b h; omega
          rw [World.putObj_heap_other hbD, hk3 b (by rcases hb with h | h <;> simp [h]), World.putObj_heap_other hbD]
      | ret =>
        obtain ⟨hk3, hi3⟩ := hp
        obtain ⟨hr, hl3, hl4, hk4⟩ := fin (some .ret) W3 hk3
        exact ⟨_, _, hr, .inr ⟨rfl, .ret, hIx _ G (k + 1) _ _ (some (D + 1)) hgs' (one (Or.inr rfl)) hi3 (grownBy_putObj' W3 (D + 1) _), hl4, hk4⟩⟩
      | exit id =>
        obtain ⟨hk3, hi3⟩ := hp
        obtain ⟨hr, hl3, hl4, hk4⟩ := fin (some (.exit id)) W3 hk3
        exact ⟨_, _, hr, .inr ⟨rfl, .exit id, hIx _ G (k + 1) _ _ (some (D + 1)) hgs' (one (Or.inr rfl)) hi3 (grownBy_putObj' W3 (D + 1) _), hl4, hk4⟩⟩
      | goto t =>
        obtain ⟨hk3, hi3⟩ := hp
        obtain ⟨hr, hl3, hl4, hk4⟩ := fin (some (.goto t)) W3 hk3
        exact ⟨_, _, hr, .inr ⟨rfl, .goto t, hIx _ G (k + 1) _ _ (some (D + 1)) hgs' (one (Or.inr rfl)) hi3 (grownBy_putObj' W3 (D + 1) _), hl4, hk4⟩⟩
      | panic ch => exact hp.elim
      | outgrown => exact hp.elim
    · rintro en W2 ⟨⟨v, rfl⟩, G, hgs, hend⟩
      rw [hs1] at hgs
      rcases hend with ⟨hi, hl, hk⟩ | ⟨k, hk0, hkN, c, hi, hl, hk⟩
      · exact ⟨none, _, by have := run_endLoop (P := P) hl (by rw [hrec]; simp); rw [hrec] at this; exact this, hdone G _ hgs (hI G N _ _ (some (D + 1)) hgs (one (Or.inr rfl)) hi (grownBy_putObj' W2 (D + 1) _)) ((World.putObj_heap_other (by omega)).trans hk)⟩
      · exact ⟨some c, _, by have := run_endLoop (P := P) hl (by rw [hrec]; simp); rw [hrec] at this; exact this, wpIn_wide.2 (hstop c G k _ hgs hk0 hkN (hIx c G k _ _ (some (D + 1)) hgs (one (Or.inr rfl)) hi (grownBy_putObj' W2 (D + 1) _)) ((World.putObj_heap_other (by omega)).trans hk))⟩
end Go.Proofs.YtcmocigckcjdjaaGreatDoor
