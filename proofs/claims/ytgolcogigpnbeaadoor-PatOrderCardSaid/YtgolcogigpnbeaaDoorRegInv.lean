/- A region that draws its order, walked by an invariant that is told by which operations have come up. -/
import Derived.Test.YtgolcogigpnbeaaDoorProg
import Derived.Deep.RegionHeld
import Derived.RegionTactic
namespace Go.Proofs.YtgolcogigpnbeaaDoor
open Go

/-- How many have not come up. -/
def falses (L : Array Bool) : Nat := L.toList.countP (fun b => !b)
theorem falses_set {L : Array Bool} {i : Nat} (h : L.getD i true = false) : falses (L.setIfInBounds i true) + 1 = falses L := by
  have hi : i < L.size := by
    rcases Nat.lt_or_ge i L.size with h' | h'
    · exact h'
    · simp [Array.getD, Nat.not_lt.2 h'] at h
  have hv : L.toList[i]'(by simpa using hi) = false := by
    simp only [Array.getD, hi, dif_pos] at h
    simpa using h
  unfold falses
  rw [Array.toList_setIfInBounds, List.countP_set (by simpa using hi)]
  rw [hv]
  have hpos : 0 < L.toList.countP (fun b => !b) := List.countP_pos_iff.2 ⟨false, by rw [← hv]; exact List.getElem_mem _, rfl⟩
  show (L.toList.countP (fun b => !b) - 1 + 0) + 1 = _
  omega
theorem falses_zero {L : Array Bool} (h : falses L = 0) (i : Nat) : L.getD i true = true := by
  unfold falses at h
  rw [List.countP_eq_zero] at h
  rcases Nat.lt_or_ge i L.size with h' | h'
  · have := h (L[i]) (by simp)
    simp only [Array.getD, h', dif_pos]
    simpa using this
  · simp [Array.getD, Nat.not_lt.2 h']
/-- Each waits for earlier ones alone. -/
def backward (ops : Array Oper) : Bool := (List.range ops.size).all fun i => match ops[i]? with
  | none => true
  | some o => o.after.all fun e => !(Region.binds .any e) || decide (e.on < i)
theorem ready_all {ops : Array Oper} (hb : backward ops = true) {L : Array Bool} (h : Region.ready .any ops L = []) (hs : L.size = ops.size) : ∀ i, i < ops.size → L.getD i true = true := by
  intro i
  induction i using Nat.strongRecOn with
  | _ i ih =>
    intro hi
    cases hc : L.getD i true with
    | true => rfl
    | false =>
      have ho : ops[i]? = some ops[i] := Array.getElem?_eq_getElem hi
      have hm : i ∈ Region.ready .any ops L := mem_ready.2 ⟨hc, ops[i], ho, fun e he hbi => by
        unfold backward at hb
        rw [List.all_eq_true] at hb
        have h1 := hb i (List.mem_range.2 hi)
        rw [ho] at h1
        simp only [Array.all_eq_true_iff_forall_mem] at h1
        have h2 := h1 e he
        rw [hbi] at h2
        simp only [Bool.not_true, Bool.false_or, decide_eq_true_eq] at h2
        have h3 := ih e.on h2 (by omega)
        have h4 : e.on < L.size := by omega
        simpa [Array.getD, h4] using h3⟩
      rw [h] at hm
      cases hm
theorem wpAny_inv {P : Program} {ops : Array Oper} {Q : Exit → Act → World → Prop} (J : Array Bool → Act → World → Prop) (hb : backward ops = true)
    (hs : ∀ L a w, J L a w → L.size = ops.size)
    (hend : ∀ L a w, J L a w → (∀ i, i < ops.size → L.getD i true = true) → Q .normal a w)
    (hstep : ∀ i o L a w, J L a w → L.getD i true = false → ops[i]? = some o → (∀ e ∈ o.after, Region.binds .any e = true → L.getD e.on false = true) → wpOp P ops Q i (fun a' w' => J (L.setIfInBounds i true) a' w') a w) :
    ∀ fuel L a w, J L a w → falses L = fuel → wpAny P .any ops Q fuel L a w
  | 0, L, a, w, hJ, hf => by
    have hr : Region.ready .any ops L = [] := by
      cases h : Region.ready .any ops L with
      | nil => rfl
      | cons i t =>
        have hm : i ∈ Region.ready .any ops L := by rw [h]; simp
        have := (mem_ready.1 hm).1
        rw [falses_zero hf i] at this
        cases this
    exact ⟨hr, hend L a w hJ (fun i _ => falses_zero hf i)⟩
  | fuel + 1, L, a, w, hJ, hf => by
    refine ⟨fun hr => hend L a w hJ (ready_all hb hr (hs L a w hJ)), fun i hi => ?_⟩
    obtain ⟨h1, o, h2, h3⟩ := mem_ready.1 hi
    refine wpOp_mono (fun a' w' h => wpAny_inv J hb hs hend hstep fuel _ a' w' h ?_) (hstep i o L a w hJ h1 h2 h3)
    have := falses_set h1
    omega
theorem wp_region_inv {P : Program} {ops : Array Oper} {Q : Exit → Act → World → Prop} {id : Nat} {a : Act} {w : World} (hm : P.follows .mixedOrders = true) (J : Array Bool → Act → World → Prop) (hb : backward ops = true)
    (h0 : J (Array.replicate ops.size false) a w.drew)
    (hs : ∀ L a w, J L a w → L.size = ops.size)
    (hend : ∀ L a w, J L a w → (∀ i, i < ops.size → L.getD i true = true) → Q .normal a w)
    (hstep : ∀ i o L a w, J L a w → L.getD i true = false → ops[i]? = some o → (∀ e ∈ o.after, Region.binds .any e = true → L.getD e.on false = true) → wpOp P ops Q i (fun a' w' => J (L.setIfInBounds i true) a' w') a w) :
    (Code.region id ops true).wp P Q a w :=
  wp_region_any hm (wpAny_inv J hb hs hend hstep _ _ a w.drew h0 (by unfold falses; rw [Array.toList_replicate, List.countP_replicate]; rfl))
end Go.Proofs.YtgolcogigpnbeaaDoor
