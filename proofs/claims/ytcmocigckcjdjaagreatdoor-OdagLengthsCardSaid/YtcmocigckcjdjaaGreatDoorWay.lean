/- Where a walk along paths stands: what its iterator keeps from one list to the next. -/
import Derived.Test.YtcmocigckcjdjaaGreatDoorRangeS
import Derived.Test.YtcmocigckcjdjaaGreatDoorAppVals
namespace Go.Proofs.YtcmocigckcjdjaaGreatDoor
open Go.RowKit

theorem size_put (w : World) (p : Addr) (u : Value) : (w.setCell p u).heap.size = w.heap.size := by simp [World.setCell]
/-- A row cut short. -/
theorem own_prefix {w : World} {base e n m c : Nat} {A : Option Addr} {xs : List Value} (h : w.ownsRow base e 1 (.slice A n c) n xs) (hm : m ≤ n) : w.ownsRow base e 1 (.slice A m c) m (xs.take m) := by
  have hl : xs.length = n := by have := h.1; simpa using this
  refine ⟨by rw [List.length_take]; omega, ?_⟩
  rcases h.2 with ⟨e1, h1⟩ | ⟨g, cap, cur, e1, h2, h3, h4, h5, h6, h7⟩
  · injection e1 with e1 e2 e3
    subst e1 e3
    obtain rfl : m = 0 := by omega
    exact Or.inl ⟨rfl, rfl⟩
  · injection e1 with e1 e2 e3
    subst e1 e3
    refine Or.inr ⟨g, c, cur, rfl, h2, h3, by omega, h5, h6, ?_⟩
    rw [← h7, List.take_take, Nat.mul_one, Nat.mul_one]
    congr 1
    omega
/-- What holds of a world, and of every one that has the same in these blocks. -/
def Firm (S : Nat → Prop) (w : World) (φ : World → Prop) : Prop := ∀ X : World, (∀ b, S b → b < w.heap.size → X.heap[b]? = w.heap[b]?) → w.heap.size ≤ X.heap.size → φ X
section
variable {S : Nat → Prop} {w w' : World} {φ : World → Prop}
theorem Firm.here (h : Firm S w φ) : φ w := h w (fun _ _ _ => rfl) (Nat.le_refl _)
theorem Firm.next (h : Firm S w φ) (hb : ∀ b, S b → b < w.heap.size → w'.heap[b]? = w.heap[b]?) (hs : w.heap.size ≤ w'.heap.size) : Firm S w' φ := fun X hX hXs =>
  h X (fun b h1 h2 => (hX b h1 (by omega)).trans (hb b h1 h2)) (Nat.le_trans hs hXs)
theorem Firm.below (h : Firm S w φ) (hb : Below w.heap.size w w') : Firm S w' φ := h.next (fun b _ h2 => hb.block b h2) hb.size
theorem Firm.set (h : Firm S w φ) {p : Addr} (hp : ¬ S p.block) (u : Value) : Firm S (w.setCell p u) φ :=
  h.next (fun b h1 _ => Below.heap_setCell w p u b (fun e => hp (e ▸ h1))) (by simp [World.setCell])
theorem Firm.imp {ψ : World → Prop} (h : Firm S w φ) (hi : ∀ X, φ X → ψ X) : Firm S w ψ := fun X h1 h2 => hi X (h X h1 h2)
theorem Firm.wider {S' : Nat → Prop} (h : Firm S w φ) (hS : ∀ b, b < w.heap.size → S b → S' b) : Firm S' w φ := fun X h1 h2 => h X (fun b k1 k2 => h1 b (hS b k2 k1) k2) h2
end
/-- A world with another's memory. -/
def worldOf (w X : World) : World := { w with heap := X.heap }
theorem worldOf_below {w X : World} {B : Nat} (h : ∀ b, b < B → X.heap[b]? = w.heap[b]?) (hs : w.heap.size ≤ X.heap.size) : Below B w (worldOf w X) := ⟨rfl, rfl, rfl, hs, h⟩
theorem seqC_heap {w X : World} {v : Value} {L : List Int} (h : SeqC (worldOf w X) v L) : SeqC X v L := h
/-- A list lies in blocks that there are. -/
theorem SeqC.firm {w : World} {v : Value} {L : List Int} (h : SeqC w v L) : Firm (fun b => b < w.heap.size) w fun X => SeqC X v L := fun _ h1 h2 =>
  seqC_heap (h.below (worldOf_below (fun b hb => h1 b hb hb) h2) (Nat.le_refl _))
/-- A list in a row of the call's own. -/
theorem own_firm {w : World} {base n : Nat} {v : Value} {L : List Int} {S : Nat → Prop} (h : w.ownsRow base 3 1 v n (intCells L)) (hS : ∀ b, v.ownBlock = some b → S b) : Firm S w fun X => SeqC X v L := fun X h1 h2 => by
  refine own_seqC (base := base) (n := n) ⟨h.1, ?_⟩
  rcases h.2 with k | ⟨g, cap, cur, rfl, k1, k2, k3⟩
  · exact Or.inl k
  · exact Or.inr ⟨g, cap, cur, rfl, k1, by rw [h1 g (hS g rfl) (Array.getElem?_eq_some_iff.1 k2).1]; exact k2, k3⟩

/-- Where a walk stands: q lists told; its path, in the box pb, is v. -/
structure WayAt (J : (Nat → Prop) → Nat → World → Prop) (Cp : Nat → Prop) (B : Nat) (W1 : World) (pb : Nat) (G : Nat → Prop) (q : Nat) (v : Value) (pre : List Int) (A : World) : Prop where
  inv : J G q A
  bound : ∀ b, G b → B ≤ b ∧ b < A.heap.size
  old : ∀ b, B ≤ b → b < W1.heap.size → G b
  size : W1.heap.size ≤ A.heap.size
  kept : ∀ b, b < W1.heap.size → b ≠ pb → (B ≤ b ∨ Cp b) → A.heap[b]? = W1.heap[b]?
  box : Whole A pb 44 #[v]
  own : A.ownsRow W1.heap.size 3 1 v pre.length (intCells pre)
  mine : ∀ b, v.ownBlock = some b → G b
section
variable {J Jx : (Nat → Prop) → Nat → World → Prop} {Cp G : Nat → Prop} {B pb q : Nat} {W1 A A' : World} {v v' : Value} {pre pre' : List Int}
theorem grown_of_below {w w' : World} (h : Below w.heap.size w w') (row : Option Nat) : w.grownBy w' row := ⟨h.os, h.tape, h.output, h.size, fun i hi _ => h.block i hi⟩
theorem WayAt.below (h : WayAt J Cp B W1 pb G q v pre A) (hJ : StaysW J B) (hb : Below A.heap.size A A') : WayAt J Cp B W1 pb G q v pre A' where
  inv := hJ G q A A' none (fun b hb => (h.bound b hb).1) (fun r hr => by cases hr) h.inv (grown_of_below hb none)
  bound b k := ⟨(h.bound b k).1, Nat.lt_of_lt_of_le (h.bound b k).2 hb.size⟩
  old := h.old
  size := Nat.le_trans h.size hb.size
  kept b h1 h2 h3 := (hb.block b (Nat.lt_of_lt_of_le h1 h.size)).trans (h.kept b h1 h2 h3)
  box := h.box.below hb h.box.lt
  own := own_below h.own hb (Nat.le_refl _)
  mine := h.mine
/-- What is firm stays. -/
theorem WayAt.firm (h : WayAt J Cp B W1 pb G q v pre A) {φ : World → Prop} {S : Nat → Prop} (hf : Firm S W1 φ) (hS : ∀ b, S b → b ≠ pb ∧ (B ≤ b ∨ Cp b)) : Firm S A φ :=
  hf.next (fun b h1 h2 => h.kept b h2 (hS b h1).1 (hS b h1).2) h.size
/-- The path is stored anew: a row that grew, or was cut. -/
theorem WayAt.store (h : WayAt J Cp B W1 pb G q v pre A) (hJ : StaysW J B) (hT : TakesW J B) (hpb : B ≤ pb) (hpl : pb < W1.heap.size) (hg : Grew A v A' v') (ho : A'.ownsRow W1.heap.size 3 1 v' pre'.length (intCells pre')) :
    WayAt J Cp B W1 pb (fun b => G b ∨ (A.heap.size ≤ b ∧ b < A'.heap.size)) q v' pre' (A'.setCell ⟨pb, 0, none⟩ v') := by
  have hsz := h.size
  have hsz' := hg.1.size
  have hG1 : ∀ b, G b → B ≤ b := fun b hb => (h.bound b hb).1
  have hG2 : ∀ b, (G b ∨ (A.heap.size ≤ b ∧ b < A'.heap.size)) → B ≤ b := fun b hb => by
    rcases hb with hb | ⟨hb, _⟩
    · exact hG1 b hb
    · omega
  have hvb : ∀ b, v.ownBlock = some b → W1.heap.size ≤ b ∧ G b := fun b hb => ⟨(h.own.lt b hb).1, h.mine b hb⟩
  have hpw : Whole A' pb 44 #[v] := h.box.grown hg.1 (fun e => by have := (hvb pb e.symm).1; omega)
  have h1 : J G q A' := hJ G q A A' v.ownBlock hG1 (fun r hr => (hvb r hr).2) h.inv hg.1
  refine ⟨?_, fun b hb => ?_, fun b k1 k2 => Or.inl (h.old b k1 k2), ?_, fun b k1 k2 k3 => ?_, ?_, ?_, fun b hb => ?_⟩
  · have hpg : Below pb A' (A'.setCell ⟨pb, 0, none⟩ v') := (Below.refl pb A').setCell (Nat.le_refl _) _
    have h2 : J (fun b => G b ∨ (A.heap.size ≤ b ∧ b < A'.heap.size)) q A := hT G _ q A hG2 (fun b hb => by
      rcases hb with hb | ⟨hb, _⟩
      · exact Or.inl hb
      · exact Or.inr hb) h.inv
    have h3 := hJ _ q A A' v.ownBlock hG2 (fun r hr => Or.inl (hvb r hr).2) h2 hg.1
    exact hJ _ q A' _ (some pb) hG2 (fun r hr => by obtain rfl := Option.some.inj hr; exact Or.inl (h.old _ hpb hpl)) h3 ⟨hpg.os, hpg.tape, hpg.output, hpg.size, fun k _ hk => Below.heap_setCell A' _ _ k (fun e => hk (by rw [e]))⟩
  · show B ≤ b ∧ b < (A'.setCell ⟨pb, 0, none⟩ v').heap.size
    rw [size_put]
    rcases hb with hb | ⟨h4, h5⟩
    · have := h.bound b hb
      exact ⟨this.1, by omega⟩
    · exact ⟨by omega, h5⟩
  · rw [size_put]; omega
  · rw [Below.heap_setCell A' _ _ b (by simpa using k2), hg.1.block b (by omega) (fun e => by have := (hvb b e.symm).1; omega)]
    exact h.kept b k1 k2 k3
  · exact hpw.put 0 v'
  · refine own_put ho (fun e => ?_) v'
    have e' : v'.ownBlock = some pb := e
    have := (ho.lt pb e').1
    omega
  · rcases hg.2 with e | ⟨g, e, hge⟩
    · exact Or.inl (h.mine b (by rw [← e]; exact hb))
    · have := (ho.lt b hb).2
      rw [e] at hb
      obtain rfl := Option.some.inj hb
      exact Or.inr ⟨hge, this⟩
/-- A round went on. -/
theorem WayAt.round (h : WayAt J Cp B W1 pb G q v pre A) (hpb : B ≤ pb) (hpl : pb < W1.heap.size) (hk : KeepW Cp G A A') (hj : J G (q + 1) A') : WayAt J Cp B W1 pb G (q + 1) v pre A' where
  inv := hj
  bound b k := ⟨(h.bound b k).1, Nat.lt_of_lt_of_le (h.bound b k).2 hk.1⟩
  old := h.old
  size := Nat.le_trans h.size hk.1
  kept b h1 h2 h3 := by
    refine (hk.2 b ?_).trans (h.kept b h1 h2 h3)
    rcases h3 with h3 | h3
    · exact Or.inl (h.old b h3 h1)
    · exact Or.inr h3
  box := (hk.2 pb (Or.inl (h.old pb hpb hpl))).trans h.box
  own := by
    refine ⟨h.own.1, ?_⟩
    rcases h.own.2 with k | ⟨g, cap, cur, rfl, k1, k2, k3⟩
    · exact Or.inl k
    · exact Or.inr ⟨g, cap, cur, rfl, k1, by rw [hk.2 g (Or.inl (h.mine g rfl))]; exact k2, k3⟩
  mine := h.mine
end
end Go.Proofs.YtcmocigckcjdjaaGreatDoor
