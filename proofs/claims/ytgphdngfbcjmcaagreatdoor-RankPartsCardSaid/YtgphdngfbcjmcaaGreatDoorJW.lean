/- rank: the paths of a part, one behind the other: pure part. A range over a function that hands over slices of numbers of its own making, where what it keeps lies in blocks that come up one after the other: a law of one's own. Where a walk along paths stands: what its iterator keeps from one list to the next. Where a walk along paths stands, with boxes of its levels. A region whose reads all come ahead of one of its operations, by whatever way: the reads are taken first. -/
import Derived.Test.YtgphdngfbcjmcaaGreatDoorJP
import Derived.Test.YtgphdngfbcjmcaaGreatDoorRange
import Derived.Test.YtgphdngfbcjmcaaGreatDoorAppVals
import Derived.Test.YtgphdngfbcjmcaaGreatDoorReads5
namespace Go.Proofs.YtgphdngfbcjmcaaGreatDoor
section
open Go.RowKit

/-- Those of a list from a on, ahead of b. -/
def cutZ {α : Type} (L : List α) (a b : Int) : List α := (L.take b.toNat).drop a.toNat
theorem cutZ_append {α : Type} (X Y : List α) (a b : Int) : cutZ (X ++ Y) a b = cutZ X a b ++ cutZ Y (a - X.length) (b - X.length) := by
  unfold cutZ
  rw [List.take_append, List.drop_append]
  congr 1
  rw [List.length_take, show (b - (X.length : Int)).toNat = b.toNat - X.length by omega]
  rcases Nat.lt_or_ge b.toNat X.length with h | h
  · rw [show b.toNat - X.length = 0 by omega]
    simp
  · rw [show (a - (X.length : Int)).toNat = a.toNat - min b.toNat X.length by omega]
theorem cutZ_low {α : Type} {L : List α} {a b : Int} (h : (L.length : Int) ≤ a) : cutZ L a b = [] := by
  unfold cutZ
  apply List.drop_eq_nil_of_le
  rw [List.length_take]
  omega
theorem cutZ_high {α : Type} {L : List α} {a b : Int} (h : b ≤ 0) : cutZ L a b = [] := by
  unfold cutZ
  rw [show b.toNat = 0 by omega]
  simp
theorem cutZ_map {α β : Type} (f : α → β) (L : List α) (a b : Int) : cutZ (L.map f) a b = (cutZ L a b).map f := by
  unfold cutZ
  rw [List.map_drop, List.map_take]
theorem cutZ_len {α : Type} (L : List α) {a b : Int} (h0 : 0 ≤ a) (h1 : a ≤ b) (h2 : b ≤ L.length) : (cutZ L a b).length = (b - a).toNat := by
  unfold cutZ
  rw [List.length_drop, List.length_take]
  omega
theorem cutZ_at {α : Type} (L : List α) {a b : Int} (h0 : 0 ≤ a) (i : Nat) (h : a + i < b) : (cutZ L a b)[i]? = L[a.toNat + i]? := by
  unfold cutZ
  rw [List.getElem?_drop, List.getElem?_take, if_pos (by omega)]
/-- What goes on by the first j numbers. -/
def fmTo (g : Int → List (List Int)) (L : List Int) (j : Nat) : List (List Int) := (L.take j).flatMap g
theorem fmTo_succ (g : Int → List (List Int)) {L : List Int} {j : Nat} (h : j < L.length) : fmTo g L (j + 1) = fmTo g L j ++ g (L.getD j 0) := by
  unfold fmTo
  rw [List.take_succ_eq_append_getElem h, List.flatMap_append]
  simp [List.getD, h]
theorem fmTo_all (g : Int → List (List Int)) (L : List Int) : fmTo g L L.length = L.flatMap g := by unfold fmTo; rw [List.take_length]
theorem fmTo_cut (g : Int → List (List Int)) (L : List Int) (j : Nat) : L.flatMap g = fmTo g L j ++ (L.drop j).flatMap g := by
  unfold fmTo
  rw [← List.flatMap_append, List.take_append_drop]
theorem fmTo_len {n : Nat} (C : List (List Int)) (k : Nat) (L : List Int) (j : Nat) : (fmTo (pthP C (n - 1 - k) k) L j).length = aheadP n C k L j := by
  unfold fmTo
  rw [fm_len, ahead_eq]
/-- The numbers that are passed over. -/
def skipP (E : List Int) (f : Int) : Nat := E.countP (· < f + 1)
theorem skip_le (f : Int → Nat) (L : List Int) (x : Int) : skipP (endsL f L) x ≤ L.length := by
  have h : skipP (endsL f L) x ≤ (endsL f L).length := List.countP_le_length
  rwa [endsL_len] at h
theorem skip_low (f : Int → Nat) (L : List Int) (x : Int) (h0 : skipP (endsL f L) x ≠ 0) : (((L.take (skipP (endsL f L) x)).map f).sum : Int) ≤ x := by
  have hs := countP_lt (ends_sorted f L) (x + 1)
  have hle := skip_le f L x
  obtain ⟨j, hj⟩ : ∃ j, skipP (endsL f L) x = j + 1 := ⟨skipP (endsL f L) x - 1, by omega⟩
  have h := (hs j (by rw [endsL_len]; omega)).1 (by unfold skipP at hj; omega)
  rw [endsL_at f L (by omega)] at h
  rw [hj]
  omega
/-- At the start of the loop nothing is told. -/
theorem cut_start {n : Nat} (C : List (List Int)) (k : Nat) (L : List Int) (f t : Int) : cutZ (fmTo (pthP C (n - 1 - k) k) L (skipP (endsL (cntP C (n - 1 - k) k) L) f)) f t = [] := by
  rcases Nat.eq_zero_or_pos (skipP (endsL (cntP C (n - 1 - k) k) L) f) with h | h
  · rw [h]
    unfold fmTo cutZ
    simp
  · apply cutZ_low
    rw [fmTo_len]
    exact skip_low _ L f (by omega)
/-- One step of the loop. -/
theorem cut_step {n : Nat} (C : List (List Int)) {k : Nat} (hk : k < n) {L : List Int} {j : Nat} (hj : j < L.length) (f t : Int) :
    cutZ (fmTo (pthP C (n - 1 - k) k) L (j + 1)) f t = cutZ (fmTo (pthP C (n - 1 - k) k) L j) f t ++
      (cutZ (subP n C (k + 1) (nxt n C k (L.getD j 0))) (f - aheadP n C k L j) (t - aheadP n C k L j)).map ((L.getD j 0) :: ·) := by
  rw [fmTo_succ _ hj, cutZ_append, fmTo_len, pth_sub C hk, cutZ_map]
/-- Where the loop ends. -/
theorem cut_end {n : Nat} (C : List (List Int)) {k : Nat} (hk : k < n) {L : List Int} {j : Nat} (f t : Int) (h : j = L.length ∨ t ≤ aheadP n C k L j) :
    cutZ (subP n C k L) f t = cutZ (fmTo (pthP C (n - 1 - k) k) L j) f t := by
  rw [subP, if_pos hk]
  rcases h with rfl | h
  · rw [fmTo_all]
  · rw [fmTo_cut _ L j, cutZ_append, fmTo_len, cutZ_high (show t - (aheadP n C k L j : Int) ≤ 0 by omega), List.append_nil]
theorem skip_high (f : Int → Nat) {L : List Int} {x : Int} {j : Nat} (hj : j < L.length) (h : skipP (endsL f L) x ≤ j) : x < (((L.take (j + 1)).map f).sum : Nat) := by
  have hs := countP_lt (ends_sorted f L) (x + 1) j (by rw [endsL_len]; exact hj)
  rw [endsL_at f L hj] at hs
  have h1 : ¬ j < (endsL f L).countP (· < x + 1) := by unfold skipP at h; omega
  have h2 := fun h3 => h1 (hs.2 h3)
  omega
theorem ahead_succ {n : Nat} (C : List (List Int)) (k : Nat) {L : List Int} {j : Nat} (hj : j < L.length) : aheadP n C k L (j + 1) = aheadP n C k L j + cntP C (n - 1 - k) k (L.getD j 0) := sum_take_succ _ hj
theorem cut_one {f t : Int} (hf : f ≤ 0) (ht : 1 ≤ t) : cutZ [([] : List Int)] f t = [[]] := by
  unfold cutZ
  rw [show f.toNat = 0 by omega, List.drop_zero, List.take_of_length_le (by simp; omega)]
theorem cut_idx {n : Nat} (C : List (List Int)) {k : Nat} (hk : k < n) {L : List Int} {j : Nat} (hj : j < L.length) (f t : Int) {i : Nat} {Y : List Int}
    (h : (cutZ (subP n C (k + 1) (nxt n C k (L.getD j 0))) (f - aheadP n C k L j) (t - aheadP n C k L j))[i]? = some Y) :
    (cutZ (subP n C k L) f t)[(cutZ (fmTo (pthP C (n - 1 - k) k) L j) f t).length + i]? = some (L.getD j 0 :: Y) := by
  have hi := (List.getElem?_eq_some_iff.1 h).1
  rw [subP, if_pos hk, fmTo_cut _ L (j + 1), cutZ_append, cut_step C hk hj, List.append_assoc, List.getElem?_append_right (Nat.le_add_right _ _), Nat.add_sub_cancel_left, List.getElem?_append_left (by rw [List.length_map]; exact hi), List.getElem?_map, h]
  rfl
theorem nx_sum {n : Nat} (C : List (List Int)) {k : Nat} (h : k + 1 < n) (a : Int) : ((nxt n C k a).map (cntP C (n - 1 - (k + 1)) (k + 1))).sum = cntP C (n - 1 - k) k a := by
  unfold nxt
  rw [if_pos h, show n - 1 - k = (n - 1 - (k + 1)) + 1 by omega]
  rfl
theorem nxE_eq (n : Nat) (C : List (List Int)) (k : Nat) (a : Int) : nxE n C k a = endsL (cntP C (n - 1 - (k + 1)) (k + 1)) (nxt n C k a) := by
  unfold nxE
  rw [show n - 2 - k = n - 1 - (k + 1) by omega]
theorem ahead_le (n : Nat) (C : List (List Int)) (k : Nat) (L : List Int) (j : Nat) : aheadP n C k L j ≤ (L.map (cntP C (n - 1 - k) k)).sum := sum_take_le _ L j
end

section
open Go.RowKit

/-- What a round keeps for the function that it comes of. -/
def KeepW (Cp G : Nat → Prop) (A A' : World) : Prop := A.heap.size ≤ A'.heap.size ∧ ∀ b, (G b ∨ Cp b) → A'.heap[b]? = A.heap[b]?
/-- Invariant J outlives what is done beside: at the blocks G and at new ones. -/
def StaysW (J : (Nat → Prop) → Nat → World → Prop) (B : Nat) : Prop := ∀ G k A A' row, (∀ b, G b → B ≤ b) → (∀ r, row = some r → G r) → J G k A → A.grownBy A' row → J G k A'
/-- New blocks may be taken. -/
def TakesW (J : (Nat → Prop) → Nat → World → Prop) (B : Nat) : Prop := ∀ G G' k A, (∀ b, G' b → B ≤ b) → (∀ b, G' b → G b ∨ A.heap.size ≤ b) → J G k A → J G' k A
/-- What a round does with the k-th list. -/
def RoundW (P : Program) (Cp : Nat → Prop) (e : TypeId) (N : Nat) (L : Nat → List Int) (l : Nat) (J Jx : (Nat → Prop) → Nat → World → Prop) (B : Nat) : Prop :=
  ∀ G k v A, (∀ b, G b → B ≤ b ∧ b < A.heap.size) → k < N → J G k A → B ≤ A.heap.size → A.ownsRow B e 1 v (L k).length (cellsOf (L k)) → (∀ b, v.ownBlock = some b → ¬ G b) → YieldAt Fence.wide 2 P l #[v] A fun en A' =>
      (en = .returned (.bool true) ∧ J G (k + 1) A' ∧ KeepW Cp G A A') ∨ (en = .returned (.bool false) ∧ Jx G (k + 1) A')

/-- Function gf, having captured lb, hands over the lists L 0 .. L (N - 1), each in a slice of its own. -/
def IterW (P : Program) (gf : Nat) (lb : Array Value) (Cp : Nat → Prop) (e : TypeId) (N : Nat) (L : Nat → List Int) (w : World) : Prop :=
  ∀ (l : Nat) (J Jx : (Nat → Prop) → Nat → World → Prop) (W : World), Below w.heap.size w W →
    StaysW J W.heap.size → StaysW Jx W.heap.size → TakesW J W.heap.size → RoundW P Cp e N L l J Jx W.heap.size → J (fun _ => False) 0 W →
    CallsIn Fence.wide 3 P gf (#[.func (.yield l) #[] #[]] ++ lb) W fun en W' => (∃ v, en = .returned v) ∧ ∃ G, (∀ b, G b → W.heap.size ≤ b) ∧ (J G N W' ∨ ∃ k, 0 < k ∧ k ≤ N ∧ Jx G k W')

theorem IterOk.ways {P : Program} {gf : Nat} {lb : Array Value} {Cp : Nat → Prop} {e : TypeId} {N : Nat} {L : Nat → List Int} {w : World} (h : IterOk P gf lb Cp e N L w) : IterW P gf lb Cp e N L w := by
  intro l J Jx W hW hJ hJx hT hY h0
  refine (h l (fun g k A => J (fun b => b = g) k A) (fun g k A => Jx (fun b => b = g) k A) W hW
    (fun g k A A' hg hs hgr => hJ _ k A A' (some g) (fun b hb => by rw [hb]; exact hg) (fun r hr => (Option.some.inj hr).symm) hs hgr)
    (fun g k A A' hg hs hgr => hJx _ k A A' (some g) (fun b hb => by rw [hb]; exact hg) (fun r hr => (Option.some.inj hr).symm) hs hgr) ?_
    (fun g hg => hT _ _ 0 W (fun b hb => by rw [hb]; exact hg) (fun b hb => Or.inr (by rw [hb]; exact hg)) h0)).mono ?_
  · intro g k v A hg hk hs hsz hlt hrow hv
    obtain ⟨fn, tmps, assign, body, hy, hR⟩ := hY (fun b => b = g) k v A (fun b hb => by rw [hb]; exact ⟨hg, hlt⟩) hk hs hsz hrow (fun b hb hbg => hv (by rw [hb, hbg]))
    refine ⟨fn, tmps, assign, body, hy, hR.mono ?_⟩
    rintro en A' (⟨rfl, h1, h2⟩ | ⟨rfl, h1⟩)
    · exact Or.inl ⟨rfl, h1, h2.1, fun b hb => h2.2 b hb⟩
    · exact Or.inr ⟨rfl, h1⟩
  · rintro en W' ⟨hv, g, hg, hend⟩
    exact ⟨hv, fun b => b = g, fun b hb => by rw [hb]; exact hg, hend⟩

/-- How a round may be left. -/
def roundW (Cp : Nat → Prop) (I : (Nat → Prop) → Nat → World → Prop) (Ix : Code → (Nat → Prop) → Nat → World → Prop) (D : Nat) (G : Nat → Prop) (k : Nat) (W : World) : Exit → Act → World → Prop
  | .normal, _, W' => (W.heap.size ≤ W'.heap.size ∧ ∀ b, (b = D ∨ b = D + 1 ∨ G b ∨ Cp b) → W'.heap[b]? = W.heap[b]?) ∧ I G (k + 1) W'
  | .ret, _, W' => (∀ b, (b = D ∨ b = D + 1) → W'.heap[b]? = W.heap[b]?) ∧ Ix .ret G (k + 1) W'
  | .exit id, _, W' => (∀ b, (b = D ∨ b = D + 1) → W'.heap[b]? = W.heap[b]?) ∧ Ix (.exit id) G (k + 1) W'
  | .goto t, _, W' => (∀ b, (b = D ∨ b = D + 1) → W'.heap[b]? = W.heap[b]?) ∧ Ix (.goto t) G (k + 1) W'
  | .panic _, _, _ => False
  | .outgrown, _, _ => False
/-- What the caller's invariant bears. -/
def BearsW (I : (Nat → Prop) → Nat → World → Prop) (D : Nat) : Prop := ∀ G k A A' row, (∀ b, G b → D + 2 ≤ b) → (∀ r, row = some r → r = D ∨ r = D + 1 ∨ G r) → I G k A → A.grownBy A' row → I G k A'

set_option maxHeartbeats 1000000 in
theorem range_ways {P : Program} {gf : Nat} {lb : Array Value} {Cp : Nat → Prop} {e : TypeId} {N : Nat} {L : Nat → List Int} {g : Operand} {ps : Array Tmp} {assign body : Code} {Q : Exit → Act → World → Prop} {a : Act} {w : World}
    (hg : a.eval g = .func (.func gf) #[] lb) (eg : ∀ args w, (callFunc gf args).run P w = .ok (.enter gf args) w) (hit : IterW P gf lb Cp e N L w) (hCp : ∀ b, Cp b → b < w.heap.size) (hps : ps.size = 1)
    (I : (Nat → Prop) → Nat → World → Prop) (Ix : Code → (Nat → Prop) → Nat → World → Prop)
    (hI : BearsW I w.heap.size) (hIx : ∀ c, BearsW (Ix c) w.heap.size) (hT : TakesW I (w.heap.size + 2))
    (h0 : I (fun _ => False) 0 w) (a₁ : Value → Act)
    (hassign : ∀ (l : Nat) (v : Value) (W : World) (K : Act → World → Prop), K (a₁ v) W →
      assign.wpIn (Fence.wide.inRound l) 2 P (Exit.then K (fun _ _ _ => False)) { tmps := (ps.zip #[v]).foldl (fun t (p, v) => t.setIfInBounds p v) a.tmps, defers := [] } W)
    (hbody : ∀ (l : Nat) (G : Nat → Prop) (k : Nat) (v : Value) (W : World), (∀ b, G b → w.heap.size + 2 ≤ b ∧ b < W.heap.size) → k < N → I G k W → w.heap.size + 2 ≤ W.heap.size → W.ownsRow (w.heap.size + 2) e 1 v (L k).length (cellsOf (L k)) → (∀ b, v.ownBlock = some b → ¬ G b) →
      body.wpIn (Fence.wide.inRound l) 2 P (roundW Cp I Ix w.heap.size G k W) (a₁ v) W)
    (hdone : ∀ (G : Nat → Prop) (W : World), (∀ b, G b → w.heap.size + 2 ≤ b) → I G N W → W.heap[w.heap.size]? = some (.deferred (some [])) → Q .normal { a with defers := { target := .collected w.heap.size, args := #[] } :: a.defers } W)
    (hstop : ∀ (c : Code) (G : Nat → Prop) (k : Nat) (W : World), (∀ b, G b → w.heap.size + 2 ≤ b) → 0 < k → k ≤ N → Ix c G k W → W.heap[w.heap.size]? = some (.deferred (some [])) → c.wp P Q { a with defers := { target := .collected w.heap.size, args := #[] } :: a.defers } W) :
    (Code.rangeFunc g ps assign body).wp P Q a w := by
  refine (wpIn_wide (n := 4)).1 (wpIn_rangeFunc fun fn _ => ?_)
  have hro : Fence.wide.round = none := rfl
  rw [hro]
  obtain ⟨rec, hrec⟩ : ∃ rec : LoopState → Option Code → Loop, rec = fun st pe => { state := st, pending := pe, fn, tmps := a.tmps, params := ps, assign, body, defers := w.heap.size } := ⟨_, rfl⟩
  obtain ⟨D, hD⟩ : ∃ D, w.heap.size = D := ⟨_, rfl⟩
  obtain ⟨W1, hW1⟩ : ∃ W1, (w.alloc (.deferred (some []))).alloc (.loop (rec .ready none)) = W1 := ⟨_, rfl⟩
  have hs1 : W1.heap.size = D + 2 := by rw [← hW1]; simp [hD]
  have hL1 : W1.heap[D + 1]? = some (.loop (rec .ready none)) := by
    rw [← hW1, ← hD]
    have := World.alloc_heap_new (w.alloc (.deferred (some []))) (.loop (rec .ready none))
    rwa [World.size_alloc] at this
  have hK1 : W1.heap[D]? = some (.deferred (some [])) := by
    rw [← hW1, ← hD]
    exact (Below.heap_alloc _ _ _ (by simp)).trans (World.alloc_heap_new w _)
  have hb1 : Below w.heap.size w W1 := by
    rw [← hW1]; exact ((Below.refl _ w).alloc (Nat.le_refl _) _).alloc (by simp) _
  have hg1 : w.grownBy W1 (some D) := ⟨hb1.os, hb1.tape, hb1.output, hb1.size, fun i hi _ => hb1.block i hi⟩
  rw [hD] at hI hIx hT hbody hdone hstop
  refine ⟨D + 1, [{ target := .collected D, args := #[] }], W1, { target := .fn (.func gf) lb, args := #[.func (.yield (D + 1)) #[] #[]] }, W1, gf, #[.func (.yield (D + 1)) #[] #[]] ++ lb, W1, ?_, ?_, fun _ _ => trivial, ?_, fun _ => by omega, ?_⟩
  · have := run_enterLoop_outer (P := P) (w := w) fn a.tmps ps assign body
    rw [this, ← hW1, hrec, hD]
  · simp only [resolve, hg]
    simp [go_sem]
  · simp [invoke, go_sem, eg]
  · have hkeep : ∀ {A A' : World} {row : Option Nat} {b : Nat} {o : Obj}, A.grownBy A' row → (∀ r, row = some r → b ≠ r) → A.heap[b]? = some o → A'.heap[b]? = some o := fun hgr hne ho =>
      (hgr.block _ (Array.getElem?_eq_some_iff.1 ho).1 (fun e => hne _ e.symm rfl)).trans ho
    have one : ∀ {r : Nat} {G : Nat → Prop}, (r = D ∨ r = D + 1) → ∀ q, some r = some q → q = D ∨ q = D + 1 ∨ G q := fun h q e => by
      obtain rfl := Option.some.inj e
      rcases h with h | h
      · exact Or.inl h
      · exact Or.inr (Or.inl h)
    have up : ∀ {G : Nat → Prop}, (∀ b, G b → D + 2 ≤ b) → ∀ {row : Option Nat}, (∀ r, row = some r → G r) → ∀ {b : Nat}, b < D + 2 → ∀ r, row = some r → b ≠ r := fun hgs row hr b hb r e h => by
      have := hgs r (hr r e); omega
    refine (hit (D + 1)
      (fun G k W => I G k W ∧ W.heap[D + 1]? = some (.loop (rec .ready none)) ∧ W.heap[D]? = some (.deferred (some [])))
      (fun G k W => ∃ c, Ix c G k W ∧ W.heap[D + 1]? = some (.loop (rec .done (some c))) ∧ W.heap[D]? = some (.deferred (some [])))
      W1 hb1
      (fun G k A A' row hgs hr hs hgr => by
        rw [hs1] at hgs
        exact ⟨hI G k A A' row hgs (fun r e => Or.inr (Or.inr (hr r e))) hs.1 hgr, hkeep hgr (up hgs hr (by omega)) hs.2.1, hkeep hgr (up hgs hr (by omega)) hs.2.2⟩)
      (fun G k A A' row hgs hr hs hgr => by
        rw [hs1] at hgs
        obtain ⟨c, hc, hl, hk⟩ := hs
        exact ⟨c, hIx c G k A A' row hgs (fun r e => Or.inr (Or.inr (hr r e))) hc hgr, hkeep hgr (up hgs hr (by omega)) hl, hkeep hgr (up hgs hr (by omega)) hk⟩)
      (fun G G' k A hgs hn hs => by
        rw [hs1] at hgs
        exact ⟨hT G G' k A hgs hn hs.1, hs.2⟩)
      ?_ ⟨hI _ 0 w W1 (some D) (fun b hb => hb.elim) (one (Or.inl rfl)) h0 hg1, hL1, hK1⟩).mono ?_
    · rintro G k v W hgs hkN ⟨hi, hl, hk⟩ hsz hrow hvg
      rw [hs1] at hgs hsz hrow
      have hgs' : ∀ b, G b → D + 2 ≤ b := fun b hb => (hgs b hb).1
      have hlt : D + 1 < W.heap.size := by omega
      have hy := run_yield (P := P) (args := #[v]) hl (by rw [hrec]; simp [hps])
      rw [hrec] at hy
      refine ⟨fn, _, assign, body, hy, roundIn_of_wpIn trivial (hassign _ v W _ ⟨_, run_beginRound hl (by rw [hrec]), ?_⟩)⟩
      have hl2 : (W.putObj (D + 1) (.loop { rec .ready none with state := .busy })).heap[D + 1]? = some (.loop { rec .ready none with state := .busy }) := World.putObj_heap_same hlt
      have hk2 : (W.putObj (D + 1) (.loop { rec .ready none with state := .busy })).heap[D]? = some (.deferred (some [])) := (World.putObj_heap_other (by omega)).trans hk
      have hgr2 := grownBy_putObj' W (D + 1) (.loop { rec .ready none with state := .busy })
      have hne : v.ownBlock = none ∨ v.ownBlock ≠ some (D + 1) := by
        rcases hrow.2 with ⟨rfl, _⟩ | ⟨b, cap, cur, rfl, hb, _⟩
        · exact Or.inl rfl
        · exact Or.inr (by simp [Value.ownBlock]; omega)
      refine wpIn_mono (hbody (D + 1) G k v _ (fun b hb => ⟨hgs' b hb, by simpa using (hgs b hb).2⟩) hkN (hI G k _ _ (some (D + 1)) hgs' (one (Or.inr rfl)) hi hgr2) (by simpa using hsz) (hrow.kept hgr2 hne) hvg) ?_
      have fin : ∀ (jump : Option Code) (W3 : World), (∀ b, (b = D ∨ b = D + 1) → W3.heap[b]? = (W.putObj (D + 1) (.loop { rec .ready none with state := .busy })).heap[b]?) →
          (Instr.endRound (D + 1) jump).run P W3 = .ok (.bool jump.isNone) (W3.putObj (D + 1) (.loop (rec (if jump.isNone then .ready else .done) jump))) ∧
          W3.heap[D + 1]? = some (.loop { rec .ready none with state := .busy }) ∧
          (W3.putObj (D + 1) (.loop (rec (if jump.isNone then .ready else .done) jump))).heap[D + 1]? = some (.loop (rec (if jump.isNone then .ready else .done) jump)) ∧
          (W3.putObj (D + 1) (.loop (rec (if jump.isNone then .ready else .done) jump))).heap[D]? = some (.deferred (some [])) := fun jump W3 hk3 => by
        have hl3 := (hk3 (D + 1) (Or.inr rfl)).trans hl2
        have := run_endRound (P := P) jump hl3
        rw [hrec] at this ⊢
        exact ⟨this, by rw [hrec] at hl3; exact hl3, World.putObj_heap_same (Array.getElem?_eq_some_iff.1 hl3).1, (World.putObj_heap_other (by omega)).trans ((hk3 D (Or.inl rfl)).trans hk2)⟩
      rintro en a3 W3 hp
      cases en with
      | normal =>
        obtain ⟨⟨hsz3, hk3⟩, hi3⟩ := hp
        obtain ⟨hr, hl3, hl4, hk4⟩ := fin none W3 (fun b hb => hk3 b (by rcases hb with h | h <;> simp [h]))
        refine ⟨_, _, hr, .inl ⟨rfl, ⟨hI G (k + 1) _ _ (some (D + 1)) hgs' (one (Or.inr rfl)) hi3 (grownBy_putObj' W3 (D + 1) _), hl4, hk4⟩, ?_, fun b hb => ?_⟩⟩
        · simpa using hsz3
        · have hbD : b ≠ D + 1 := by
            rcases hb with h | h
            · have := hgs' b h; omega
            · have := hCp b h; omega
          rw [World.putObj_heap_other hbD, hk3 b (by rcases hb with h | h <;> simp [h]), World.putObj_heap_other hbD]
      | ret =>
        obtain ⟨hk3, hi3⟩ := hp
        obtain ⟨hr, hl3, hl4, hk4⟩ := fin (some .ret) W3 hk3
        exact ⟨_, _, hr, .inr ⟨rfl, .ret, hIx _ G (k + 1) _ _ (some (D + 1)) hgs' (one (Or.inr rfl)) hi3 (grownBy_putObj' W3 (D + 1) _), hl4, hk4⟩⟩
      | exit id =>
        obtain ⟨hk3, hi3⟩ := hp
        obtain ⟨hr, hl3, hl4, hk4⟩ := fin (some (.exit id)) W3 hk3
        exact ⟨_, _, hr, .inr ⟨rfl, .exit id, hIx _ G (k + 1) _ _ (some (D + 1)) hgs' (one (Or.inr rfl)) hi3 (grownBy_putObj' W3 (D + 1) _), hl4, hk4⟩⟩
      | goto t =>
        obtain ⟨hk3, hi3⟩ := hp
        obtain ⟨hr, hl3, hl4, hk4⟩ := fin (some (.goto t)) W3 hk3
        exact ⟨_, _, hr, .inr ⟨rfl, .goto t, hIx _ G (k + 1) _ _ (some (D + 1)) hgs' (one (Or.inr rfl)) hi3 (grownBy_putObj' W3 (D + 1) _), hl4, hk4⟩⟩
      | panic ch => exact hp.elim
      | outgrown => exact hp.elim
    · rintro en W2 ⟨⟨v, rfl⟩, G, hgs, hend⟩
      rw [hs1] at hgs
      rcases hend with ⟨hi, hl, hk⟩ | ⟨k, hk0, hkN, c, hi, hl, hk⟩
      · exact ⟨none, _, by have := run_endLoop (P := P) hl (by rw [hrec]; simp); rw [hrec] at this; exact this, hdone G _ hgs (hI G N _ _ (some (D + 1)) hgs (one (Or.inr rfl)) hi (grownBy_putObj' W2 (D + 1) _)) ((World.putObj_heap_other (by omega)).trans hk)⟩
      · exact ⟨some c, _, by have := run_endLoop (P := P) hl (by rw [hrec]; simp); rw [hrec] at this; exact this, wpIn_wide.2 (hstop c G k _ hgs hk0 hkN (hIx c G k _ _ (some (D + 1)) hgs (one (Or.inr rfl)) hi (grownBy_putObj' W2 (D + 1) _)) ((World.putObj_heap_other (by omega)).trans hk))⟩
end

section
open Go.RowKit

theorem size_put (w : World) (p : Addr) (u : Value) : (w.setCell p u).heap.size = w.heap.size := by simp [World.setCell]
/-- A row cut short. -/
theorem own_prefix {w : World} {base e n m c : Nat} {A : Option Addr} {xs : List Value} (h : w.ownsRow base e 1 (.slice A n c) n xs) (hm : m ≤ n) : w.ownsRow base e 1 (.slice A m c) m (xs.take m) := by
  have hl : xs.length = n := by have := h.1; simpa using this
  refine ⟨by rw [List.length_take]; omega, ?_⟩
  rcases h.2 with ⟨e1, h1⟩ | ⟨g, cap, cur, e1, h2, h3, h4, h5, h6, h7⟩
  · injection e1 with e1 e2 e3
    subst e1 e3
    obtain rfl : m = 0 := by omega
    exact Or.inl ⟨rfl, rfl⟩
  · injection e1 with e1 e2 e3
    subst e1 e3
    refine Or.inr ⟨g, c, cur, rfl, h2, h3, by omega, h5, h6, ?_⟩
    rw [← h7, List.take_take, Nat.mul_one, Nat.mul_one]
    congr 1
    omega
/-- What holds of a world, and of every one that has the same in these blocks. -/
def Firm (S : Nat → Prop) (w : World) (φ : World → Prop) : Prop := ∀ X : World, (∀ b, S b → b < w.heap.size → X.heap[b]? = w.heap[b]?) → w.heap.size ≤ X.heap.size → φ X
section
variable {S : Nat → Prop} {w w' : World} {φ : World → Prop}
theorem Firm.here (h : Firm S w φ) : φ w := h w (fun _ _ _ => rfl) (Nat.le_refl _)
theorem Firm.next (h : Firm S w φ) (hb : ∀ b, S b → b < w.heap.size → w'.heap[b]? = w.heap[b]?) (hs : w.heap.size ≤ w'.heap.size) : Firm S w' φ := fun X hX hXs =>
  h X (fun b h1 h2 => (hX b h1 (by omega)).trans (hb b h1 h2)) (Nat.le_trans hs hXs)
theorem Firm.below (h : Firm S w φ) (hb : Below w.heap.size w w') : Firm S w' φ := h.next (fun b _ h2 => hb.block b h2) hb.size
theorem Firm.set (h : Firm S w φ) {p : Addr} (hp : ¬ S p.block) (u : Value) : Firm S (w.setCell p u) φ :=
  h.next (fun b h1 _ => Below.heap_setCell w p u b (fun e => hp (e ▸ h1))) (by simp [World.setCell])
theorem Firm.imp {ψ : World → Prop} (h : Firm S w φ) (hi : ∀ X, φ X → ψ X) : Firm S w ψ := fun X h1 h2 => hi X (h X h1 h2)
theorem Firm.wider {S' : Nat → Prop} (h : Firm S w φ) (hS : ∀ b, b < w.heap.size → S b → S' b) : Firm S' w φ := fun X h1 h2 => h X (fun b k1 k2 => h1 b (hS b k2 k1) k2) h2
end
/-- A world with another's memory. -/
def worldOf (w X : World) : World := { w with heap := X.heap }
theorem worldOf_below {w X : World} {B : Nat} (h : ∀ b, b < B → X.heap[b]? = w.heap[b]?) (hs : w.heap.size ≤ X.heap.size) : Below B w (worldOf w X) := ⟨rfl, rfl, rfl, hs, h⟩
theorem seqC_heap {w X : World} {v : Value} {L : List Int} (h : SeqC (worldOf w X) v L) : SeqC X v L := h
/-- A list lies in blocks that there are. -/
theorem SeqC.firm {w : World} {v : Value} {L : List Int} (h : SeqC w v L) : Firm (fun b => b < w.heap.size) w fun X => SeqC X v L := fun _ h1 h2 =>
  seqC_heap (h.below (worldOf_below (fun b hb => h1 b hb hb) h2) (Nat.le_refl _))
/-- A list in a row of the call's own. -/
theorem own_firm {w : World} {base n : Nat} {v : Value} {L : List Int} {S : Nat → Prop} (h : w.ownsRow base 3 1 v n (intCells L)) (hS : ∀ b, v.ownBlock = some b → S b) : Firm S w fun X => SeqC X v L := fun X h1 h2 => by
  refine own_seqC (base := base) (n := n) ⟨h.1, ?_⟩
  rcases h.2 with k | ⟨g, cap, cur, rfl, k1, k2, k3⟩
  · exact Or.inl k
  · exact Or.inr ⟨g, cap, cur, rfl, k1, by rw [h1 g (hS g rfl) (Array.getElem?_eq_some_iff.1 k2).1]; exact k2, k3⟩

/-- Where a walk stands: q lists told; its path, in the box pb, is v. -/
structure WayAt (J : (Nat → Prop) → Nat → World → Prop) (Cp : Nat → Prop) (B : Nat) (W1 : World) (pb : Nat) (G : Nat → Prop) (q : Nat) (v : Value) (pre : List Int) (A : World) : Prop where
  inv : J G q A
  bound : ∀ b, G b → B ≤ b ∧ b < A.heap.size
  old : ∀ b, B ≤ b → b < W1.heap.size → G b
  size : W1.heap.size ≤ A.heap.size
  kept : ∀ b, b < W1.heap.size → b ≠ pb → (B ≤ b ∨ Cp b) → A.heap[b]? = W1.heap[b]?
  box : Whole A pb 23 #[v]
  own : A.ownsRow W1.heap.size 3 1 v pre.length (intCells pre)
  mine : ∀ b, v.ownBlock = some b → G b
section
variable {J Jx : (Nat → Prop) → Nat → World → Prop} {Cp G : Nat → Prop} {B pb q : Nat} {W1 A A' : World} {v v' : Value} {pre pre' : List Int}
theorem grown_of_below {w w' : World} (h : Below w.heap.size w w') (row : Option Nat) : w.grownBy w' row := ⟨h.os, h.tape, h.output, h.size, fun i hi _ => h.block i hi⟩
theorem WayAt.below (h : WayAt J Cp B W1 pb G q v pre A) (hJ : StaysW J B) (hb : Below A.heap.size A A') : WayAt J Cp B W1 pb G q v pre A' where
  inv := hJ G q A A' none (fun b hb => (h.bound b hb).1) (fun r hr => by cases hr) h.inv (grown_of_below hb none)
  bound b k := ⟨(h.bound b k).1, Nat.lt_of_lt_of_le (h.bound b k).2 hb.size⟩
  old := h.old
  size := Nat.le_trans h.size hb.size
  kept b h1 h2 h3 := (hb.block b (Nat.lt_of_lt_of_le h1 h.size)).trans (h.kept b h1 h2 h3)
  box := h.box.below hb h.box.lt
  own := own_below h.own hb (Nat.le_refl _)
  mine := h.mine
/-- What is firm stays. -/
theorem WayAt.firm (h : WayAt J Cp B W1 pb G q v pre A) {φ : World → Prop} {S : Nat → Prop} (hf : Firm S W1 φ) (hS : ∀ b, S b → b ≠ pb ∧ (B ≤ b ∨ Cp b)) : Firm S A φ :=
  hf.next (fun b h1 h2 => h.kept b h2 (hS b h1).1 (hS b h1).2) h.size
/-- The path is stored anew: a row that grew, or was cut. -/
theorem WayAt.store (h : WayAt J Cp B W1 pb G q v pre A) (hJ : StaysW J B) (hT : TakesW J B) (hpb : B ≤ pb) (hpl : pb < W1.heap.size) (hg : Grew A v A' v') (ho : A'.ownsRow W1.heap.size 3 1 v' pre'.length (intCells pre')) :
    WayAt J Cp B W1 pb (fun b => G b ∨ (A.heap.size ≤ b ∧ b < A'.heap.size)) q v' pre' (A'.setCell ⟨pb, 0, none⟩ v') := by
  have hsz := h.size
  have hsz' := hg.1.size
  have hG1 : ∀ b, G b → B ≤ b := fun b hb => (h.bound b hb).1
  have hG2 : ∀ b, (G b ∨ (A.heap.size ≤ b ∧ b < A'.heap.size)) → B ≤ b := fun b hb => by
    rcases hb with hb | ⟨hb, _⟩
    · exact hG1 b hb
    · omega
  have hvb : ∀ b, v.ownBlock = some b → W1.heap.size ≤ b ∧ G b := fun b hb => ⟨(h.own.lt b hb).1, h.mine b hb⟩
  have hpw : Whole A' pb 23 #[v] := h.box.grown hg.1 (fun e => by have := (hvb pb e.symm).1; omega)
  have h1 : J G q A' := hJ G q A A' v.ownBlock hG1 (fun r hr => (hvb r hr).2) h.inv hg.1
  refine ⟨?_, fun b hb => ?_, fun b k1 k2 => Or.inl (h.old b k1 k2), ?_, fun b k1 k2 k3 => ?_, ?_, ?_, fun b hb => ?_⟩
  · have hpg : Below pb A' (A'.setCell ⟨pb, 0, none⟩ v') := (Below.refl pb A').setCell (Nat.le_refl _) _
    have h2 : J (fun b => G b ∨ (A.heap.size ≤ b ∧ b < A'.heap.size)) q A := hT G _ q A hG2 (fun b hb => by
      rcases hb with hb | ⟨hb, _⟩
      · exact Or.inl hb
      · exact Or.inr hb) h.inv
    have h3 := hJ _ q A A' v.ownBlock hG2 (fun r hr => Or.inl (hvb r hr).2) h2 hg.1
    exact hJ _ q A' _ (some pb) hG2 (fun r hr => by obtain rfl := Option.some.inj hr; exact Or.inl (h.old _ hpb hpl)) h3 ⟨hpg.os, hpg.tape, hpg.output, hpg.size, fun k _ hk => Below.heap_setCell A' _ _ k (fun e => hk (by rw [e]))⟩
  · show B ≤ b ∧ b < (A'.setCell ⟨pb, 0, none⟩ v').heap.size
    rw [size_put]
    rcases hb with hb | ⟨h4, h5⟩
    · have := h.bound b hb
      exact ⟨this.1, by omega⟩
    · exact ⟨by omega, h5⟩
  · rw [size_put]; omega
  · rw [Below.heap_setCell A' _ _ b (by simpa using k2), hg.1.block b (by omega) (fun e => by have := (hvb b e.symm).1; omega)]
    exact h.kept b k1 k2 k3
  · exact hpw.put 0 v'
  · refine own_put ho (fun e => ?_) v'
    have e' : v'.ownBlock = some pb := e
    have := (ho.lt pb e').1
    omega
  · rcases hg.2 with e | ⟨g, e, hge⟩
    · exact Or.inl (h.mine b (by rw [← e]; exact hb))
    · have := (ho.lt b hb).2
      rw [e] at hb
      obtain rfl := Option.some.inj hb
      exact Or.inr ⟨hge, this⟩
/-- A round went on. -/
theorem WayAt.round (h : WayAt J Cp B W1 pb G q v pre A) (hpb : B ≤ pb) (hpl : pb < W1.heap.size) (hk : KeepW Cp G A A') (hj : J G (q + 1) A') : WayAt J Cp B W1 pb G (q + 1) v pre A' where
  inv := hj
  bound b k := ⟨(h.bound b k).1, Nat.lt_of_lt_of_le (h.bound b k).2 hk.1⟩
  old := h.old
  size := Nat.le_trans h.size hk.1
  kept b h1 h2 h3 := by
    refine (hk.2 b ?_).trans (h.kept b h1 h2 h3)
    rcases h3 with h3 | h3
    · exact Or.inl (h.old b h3 h1)
    · exact Or.inr h3
  box := (hk.2 pb (Or.inl (h.old pb hpb hpl))).trans h.box
  own := by
    refine ⟨h.own.1, ?_⟩
    rcases h.own.2 with k | ⟨g, cap, cur, rfl, k1, k2, k3⟩
    · exact Or.inl k
    · exact Or.inr ⟨g, cap, cur, rfl, k1, by rw [hk.2 g (Or.inl (h.mine g rfl))]; exact k2, k3⟩
  mine := h.mine
end
end

section
open Go.RowKit

/-- Where a walk stands, the blocks X (boxes of its levels) being as they were in R. -/
structure WayK (J : (Nat → Prop) → Nat → World → Prop) (Cp : Nat → Prop) (B : Nat) (W1 : World) (pb : Nat) (X : Nat → Prop) (R : World) (G : Nat → Prop) (q : Nat) (v : Value) (pre : List Int) (A : World) : Prop where
  way : WayAt J Cp B W1 pb G q v pre A
  lev : ∀ b, X b → G b ∧ A.heap[b]? = R.heap[b]? ∧ v.ownBlock ≠ some b ∧ b ≠ pb
section
variable {J Jx : (Nat → Prop) → Nat → World → Prop} {Cp G X : Nat → Prop} {B pb q : Nat} {W1 A A' R : World} {v v' : Value} {pre pre' : List Int}
theorem WayK.below (h : WayK J Cp B W1 pb X R G q v pre A) (hJ : StaysW J B) (hb : Below A.heap.size A A') : WayK J Cp B W1 pb X R G q v pre A' :=
  ⟨h.way.below hJ hb, fun b hx => ⟨(h.lev b hx).1, (hb.block b (h.way.bound b (h.lev b hx).1).2).trans (h.lev b hx).2.1, (h.lev b hx).2.2⟩⟩
theorem WayK.store (h : WayK J Cp B W1 pb X R G q v pre A) (hJ : StaysW J B) (hT : TakesW J B) (hpb : B ≤ pb) (hpl : pb < W1.heap.size) (hg : Grew A v A' v') (ho : A'.ownsRow W1.heap.size 3 1 v' pre'.length (intCells pre')) :
    WayK J Cp B W1 pb X R (fun b => G b ∨ (A.heap.size ≤ b ∧ b < A'.heap.size)) q v' pre' (A'.setCell ⟨pb, 0, none⟩ v') := by
  refine ⟨h.way.store hJ hT hpb hpl hg ho, fun b hx => ?_⟩
  obtain ⟨h1, h2, h3, h4⟩ := h.lev b hx
  have hl := (h.way.bound b h1).2
  refine ⟨Or.inl h1, ?_, fun e => ?_, h4⟩
  · rw [Below.heap_setCell A' _ _ b (by simpa using h4), hg.1.block b hl (fun e => h3 e.symm)]
    exact h2
  · rcases hg.2 with e' | ⟨g, e', hge⟩
    · exact h3 (by rw [← e']; exact e)
    · rw [e'] at e
      have := Option.some.inj e
      omega
theorem WayK.round (h : WayK J Cp B W1 pb X R G q v pre A) (hpb : B ≤ pb) (hpl : pb < W1.heap.size) (hk : KeepW Cp G A A') (hj : J G (q + 1) A') : WayK J Cp B W1 pb X R G (q + 1) v pre A' :=
  ⟨h.way.round hpb hpl hk hj, fun b hx => ⟨(h.lev b hx).1, (hk.2 b (Or.inl (h.lev b hx).1)).trans (h.lev b hx).2.1, (h.lev b hx).2.2⟩⟩
/-- A box more. -/
theorem WayK.box (h : WayK J Cp B W1 pb X R G q v pre A) (hJ : StaysW J B) (hT : TakesW J B) (hpb : B ≤ pb) (hpl : pb < W1.heap.size) (o : Obj) : WayK J Cp B W1 pb (fun b => X b ∨ b = A.heap.size) (A.alloc o) (fun b => G b ∨ b = A.heap.size) q v pre (A.alloc o) := by
  have hb : Below A.heap.size A (A.alloc o) := (Below.refl _ _).alloc (Nat.le_refl _) _
  have hs : (A.alloc o).heap.size = A.heap.size + 1 := by simp
  have hB : B ≤ A.heap.size := by have := h.way.size; omega
  have h' := h.below hJ hb
  have hG : ∀ b, (G b ∨ b = A.heap.size) → B ≤ b := fun b hb => hb.elim (fun h1 => (h.way.bound b h1).1) (fun h1 => by omega)
  have hinv : J (fun b => G b ∨ b = A.heap.size) q (A.alloc o) := by
    have h1 := hT G (fun b => G b ∨ b = A.heap.size) q A hG (fun b hb => hb.imp id (fun h => by omega)) h.way.inv
    exact hJ _ q A _ none hG (fun r hr => by cases hr) h1 (grown_of_below hb none)
  refine ⟨⟨hinv, fun b hb => ⟨hG b hb, hb.elim (fun h1 => by have := (h.way.bound b h1).2; omega) (fun h1 => by omega)⟩, fun b k1 k2 => Or.inl (h.way.old b k1 k2), h'.way.size, h'.way.kept, h'.way.box, h'.way.own, fun b hb => Or.inl (h.way.mine b hb)⟩, fun b hb => ?_⟩
  rcases hb with hb | rfl
  · obtain ⟨h1, h2, h3, h4⟩ := h.lev b hb
    exact ⟨Or.inl h1, rfl, h3, h4⟩
  · refine ⟨Or.inr rfl, rfl, fun e => ?_, by have := h.way.size; omega⟩
    have := (h.way.own.lt _ e).2
    omega
/-- Back at the level above. -/
theorem WayK.less {X' : Nat → Prop} {R' : World} (h : WayK J Cp B W1 pb X' R' G q v pre A) (hX : ∀ b, X b → X' b ∧ R'.heap[b]? = R.heap[b]?) : WayK J Cp B W1 pb X R G q v pre A :=
  ⟨h.way, fun b hb => by
    obtain ⟨h1, h2, h3⟩ := h.lev b (hX b hb).1
    exact ⟨h1, h2.trans (hX b hb).2, h3⟩⟩
end
end

section
open Go.RowKit

section
variable {P : Program} {ops : Array Oper} {Q : Exit → Act → World → Prop} {md : Region.Mode} {S : World → Prop} {κ : Nat}

/-- What has come up came up behind all that it waits for. -/
def ClosedL (md : Region.Mode) (ops : Array Oper) (listed : Array Bool) : Prop := ∀ p o, ops[p]? = some o → listed.getD p false = true → ∀ e ∈ o.after, Region.binds md e = true → listed.getD e.on false = true
theorem ClosedL.set {listed : Array Bool} {j : Nat} (hc : ClosedL md ops listed) (hj : j ∈ Region.ready md ops listed) : ClosedL md ops (listed.setIfInBounds j true) := by
  intro p o ho hp e he hb
  by_cases hpj : p = j
  · subst hpj
    obtain ⟨_, o', ho', hall⟩ := mem_ready.1 hj
    rw [ho] at ho'
    obtain rfl := Option.some.inj ho'
    exact getD_set_true (hall e he hb)
  · rw [getD_set_ne false (Ne.symm hpj)] at hp
    exact getD_set_true (hc p o ho hp e he hb)
theorem closed_none (n : Nat) : ClosedL md ops (Array.replicate n false) := by
  intro p o _ hp
  rcases Nat.lt_or_ge p n with h | h
  · simp [h] at hp
  · simp [h] at hp
def closedB (md : Region.Mode) (ops : Array Oper) (listed : Array Bool) : Bool := (List.range ops.size).all fun p => match ops[p]? with
  | some o => !(listed.getD p false) || o.after.all fun e => !(Region.binds md e) || listed.getD e.on false
  | none => true
theorem closed_of {listed : Array Bool} (h : closedB md ops listed = true) : ClosedL md ops listed := by
  intro p o ho hp e he hb
  unfold closedB at h
  rw [List.all_eq_true] at h
  have h1 := h p (List.mem_range.2 (Array.getElem?_eq_some_iff.1 ho).1)
  rw [ho] at h1
  simp only [hp, Bool.not_true, Bool.false_or, Array.all_eq_true_iff_forall_mem] at h1
  have h2 := h1 e he
  rw [hb] at h2
  simpa using h2
/-- Operation p waits for i, by way of those of a list. -/
def wayB (md : Region.Mode) (ops : Array Oper) (i : Nat) : List Nat → Nat → Bool
  | [], p => waitsB md ops p i
  | x :: t, p => waitsB md ops p x && wayB md ops i t x
theorem waits_listed {listed : Array Bool} {i p : Nat} (hc : ClosedL md ops listed) (h : waitsB md ops p i = true) (hp : listed.getD p false = true) : listed.getD i false = true := by
  unfold waitsB at h
  cases ho : ops[p]? with
  | none => rw [ho] at h; cases h
  | some o =>
    rw [ho] at h
    simp only [Array.any_eq_true, Bool.and_eq_true, beq_iff_eq] at h
    obtain ⟨t, ht, hb, he⟩ := h
    have := hc p o ho hp o.after[t] (Array.getElem_mem ht) hb
    rwa [he] at this
theorem way_listed {i : Nat} {listed : Array Bool} (hc : ClosedL md ops listed) : ∀ (l : List Nat) (p : Nat), wayB md ops i l p = true → listed.getD p false = true → listed.getD i false = true
  | [], _, h, hp => waits_listed hc h hp
  | x :: t, p, h, hp => by
    simp only [wayB, Bool.and_eq_true] at h
    exact way_listed hc t x h.2 (waits_listed hc h.1 hp)
theorem way_ready {i : Nat} {l : List Nat} {listed : Array Bool} (hc : ClosedL md ops listed) (h : wayB md ops i l κ = true) (hk : κ ∈ Region.ready md ops listed) : listed.getD i false = true := by
  cases l with
  | nil => exact waits_spec h hk
  | cons x t =>
    simp only [wayB, Bool.and_eq_true] at h
    exact way_listed hc t x h.2 (waits_spec h.1 hk)
theorem Until.takeT {i : Nat} {wy : List Nat} {oi : Oper} {v : Value} (hi : ops[i]? = some oi) (hs : Region.noSelect ops = true) (hw : wayB md ops i wy κ = true) (hQ : ∀ c a w, Q (.panic c) (a.put oi.dst v) w → Q (.panic c) a w) :
    ∀ {f : Nat} {listed : Array Bool} {a : Act} {w : World}, ClosedL md ops listed → Region.free md ops listed i = true → i ∈ Region.ready md ops listed → YieldsIf P ops S oi v a → S w → listed.getD κ true = false →
      Until P md ops Q κ S f (listed.setIfInBounds i true) (a.put oi.dst v) w → Until P md ops Q κ S (f + 1) listed a w := by
  have main : ∀ (f : Nat) (listed : Array Bool) (a : Act) (w : World), ClosedL md ops listed → (∀ j oj, ops[j]? = some oj → j ≠ i → listed.getD j true = false → (∀ e ∈ oj.after, Region.binds md e = true → e.on ≠ i) → oi.apart ops oj = true) →
      i ∈ Region.ready md ops listed → YieldsIf P ops S oi v a → S w → listed.getD κ true = false → Until P md ops Q κ S f (listed.setIfInBounds i true) (a.put oi.dst v) w → Until P md ops Q κ S (f + 1) listed a w := by
    intro f
    induction f with
    | zero =>
      intro listed a w _ _ hr hy hS hk H
      refine ⟨fun h => (by rw [h] at hr; cases hr), fun j hj => ?_⟩
      rcases Decidable.em (j = i) with e | e
      · subst e; exact hy.wpOp hi hS ⟨fun _ _ => hS, H⟩
      · have := ready_mono hj e
        rw [H.1] at this
        cases this
    | succ f ih =>
      intro listed a w hc hfree hr hy hS hk H
      have hiu : listed.getD i false = false := unlisted_both (mem_ready.1 hr).1
      refine ⟨fun h => (by rw [h] at hr; cases hr), fun j hj => ?_⟩
      rcases Decidable.em (j = i) with e | e
      · subst e; exact hy.wpOp hi hS ⟨fun _ _ => hS, H⟩
      · have hjk : j ≠ κ := fun h => by
          subst h
          rw [way_ready hc hw hj] at hiu
          cases hiu
        have hik : i ≠ κ := fun h => by
          subst h
          rw [way_ready hc hw hr] at hiu
          cases hiu
        obtain ⟨hju, oj, hoj, hall⟩ := mem_ready.1 hj
        have hno : ∀ x ∈ oj.after, Region.binds md x = true → x.on ≠ i := fun x hx hb he => by
          have := hall x hx hb
          rw [he, hiu] at this
          cases this
        have step := wpOp_putIf hoj (hfree j oj hoj e hju hno) (fun cs b => Region.noSelect_spec hs i oi cs b hi) (fun cs b => Region.noSelect_spec hs j oj cs b hoj) hQ hy (H.2 j (ready_mono hj e))
        refine wpOp_mono (fun a' w' h => ?_) step
        have hS' : S w' := h.2.1 hjk (by rw [getD_set_ne true hik]; exact hk)
        refine ⟨fun _ _ => hS', ih _ a' w' (hc.set hj) (fun k ok ho hki hun hn => hfree k ok ho hki ?_ hn) (ready_mono hr (Ne.symm e)) h.1 hS' (by rw [getD_set_ne true hjk]; exact hk) ?_⟩
        · rcases Decidable.em (j = k) with e2 | e2
          · subst e2; exact hju
          · rw [getD_set_ne true e2] at hun; exact hun
        · rw [Array.setIfInBounds_comm _ _ e]; exact h.2.2
  intro f listed a w hc hf hr hy hS hk H
  exact main f listed a w hc (Region.free_spec hi hf) hr hy hS hk H

/-- The reads, one by one. -/
def readsT (md : Region.Mode) (ops : Array Oper) (κ : Nat) : List (Nat × List Nat) → Array Bool → Bool
  | [], _ => true
  | i :: t, listed => Region.free md ops listed i.1 && (Region.ready md ops listed).contains i.1 && wayB md ops i.1 i.2 κ && !(listed.getD κ true) && readsT md ops κ t (listed.setIfInBounds i.1 true)
/-- Those of a list. -/
def nums1 : List (Nat × List Nat) → List Nat
  | [] => []
  | i :: t => i.1 :: nums1 t
theorem until_readsT (hs : Region.noSelect ops = true) {w : World} (hS : S w) {f : Nat} : ∀ (R : List (Nat × List Nat)) (listed : Array Bool) (a : Act), ClosedL md ops listed → readsT md ops κ R listed = true →
    Reads P ops Q S (fun a' => ClosedL md ops (listAll (nums1 R) listed) → Until P md ops Q κ S f (listAll (nums1 R) listed) a' w) (nums1 R) a → Until P md ops Q κ S (f + R.length) listed a w
  | [], _, _, hc, _, h => h hc
  | i :: t, listed, a, hc, hB, ⟨oi, v, hi, hy, hQ, h⟩ => by
    simp only [readsT, Bool.and_eq_true] at hB
    obtain ⟨⟨⟨⟨h1, h2⟩, h3⟩, h4⟩, h5⟩ := hB
    exact Until.takeT hi hs h3 hQ hc h1 (by simpa using h2) hy hS (by simpa using h4) (until_readsT hs hS t _ _ (hc.set (by simpa using h2)) h5 h)
/-- A region, its reads first. -/
theorem region_readsT {id : Nat} {l : List Oper} {a : Act} {w : World} (R : List (Nat × List Nat)) (κ f : Nat) (hm : P.follows .mixedOrders = true) (hs : Region.noSelect l.toArray = true) (S : World → Prop) (hS : S w.drew)
    (hB : readsT .any l.toArray κ R (Array.replicate l.toArray.size false) = true) (hsz : l.toArray.size = f + R.length)
    (h : Reads P l.toArray Q S (fun a' => ClosedL .any l.toArray (listAll (nums1 R) (Array.replicate l.toArray.size false)) → Until P .any l.toArray Q κ S f (listAll (nums1 R) (Array.replicate l.toArray.size false)) a' w.drew) (nums1 R) a) : (Code.region id l.toArray true).wp P Q a w := by
  refine wp_region_any hm (Until.any (κ := κ) (S := S) ?_)
  rw [hsz]
  refine until_readsT (f := f) hs hS R _ a (closed_none _) (by rw [← hsz]; exact hB) ?_
  rw [← hsz]
  exact h
/-- A statement that goes on, whatever else were asked of it. -/
theorem wp_calm {c : Code} {K : Act → World → Prop} {Q' : Exit → Act → World → Prop} {a : Act} {w : World} (h : c.wp P (Exit.then K fun _ _ _ => False) a w) : c.wp P (Exit.then K Q') a w := by
  refine wp_mono h ?_
  intro e a' w' hq
  cases e with
  | normal => exact hq
  | exit id => exact hq.elim
  | goto l => exact hq.elim
  | ret => exact hq.elim
  | panic ch => exact hq.elim
  | outgrown => exact hq.elim
/-- One more that yields whatever is done, later on. -/
theorem until_more {i f : Nat} {oi : Oper} {v : Value} {listed : Array Bool} {a : Act} {w : World} (hi : ops[i]? = some oi) (hs : Region.noSelect ops = true) {wy : List Nat} (hw : wayB md ops i wy κ = true) (hc : ClosedL md ops listed) (hf : Region.free md ops listed i = true)
    (hr : (Region.ready md ops listed).contains i = true) (hk : listed.getD κ true = false) (hS : S w) (hy : YieldsIf P ops S oi v a) (hQ : ∀ c a w, Q (.panic c) (a.put oi.dst v) w → Q (.panic c) a w)
    (h : Until P md ops Q κ S f (listed.setIfInBounds i true) (a.put oi.dst v) w) : Until P md ops Q κ S (f + 1) listed a w :=
  Until.takeT hi hs hw hQ hc hf (by simpa using hr) hy hS hk h
end
end
end Go.Proofs.YtgphdngfbcjmcaaGreatDoor
