/- lines: sets of ints, Span. -/
import Derived.Test.YtjilbnfaclenlaaDoorLinesT
namespace Go.Proofs.YtjilbnfaclenlaaDoor
open Go.RowKit

theorem int_key : Go.Maps.Keyed Tryd.prog 3 := Go.Maps.int_keyed Tryd.underlying3
theorem keyOf_int {x : Int} (h : In64 x) : keyOf Tryd.prog 3 (.int .i64 x) = some (.int .i64 x) := Go.Maps.keyOf_int_mk Tryd.underlying3 (wf_in64 h)
/-- A map that is a set of ints. -/
def IntSet (w : World) (b : Nat) (E : List Int) : Prop :=
  ∃ (n : Nat) (D : DataW Unit), w.ownsMap Tryd.prog 3 (Go.unitElem (H := Unit)) b n D ∧ n ≤ E.length ∧ ∀ (x : Int) (kl : Lit), keyOf Tryd.prog 3 (.int .i64 x) = some kl → Go.Maps.has D kl = decide (x ∈ E)
theorem IntSet.made (w : World) : IntSet (w.alloc (.map #[] 0)) w.heap.size [] :=
  ⟨0, .map [], World.ownsMap_made w _ _ _, Nat.le_refl _, fun e kl _ => by simp [Go.Maps.has]⟩
theorem IntSet.lt {w : World} {b : Nat} {E : List Int} (h : IntSet w b E) : b < w.heap.size := by
  obtain ⟨n, D, h, _⟩ := h
  exact h.lt
theorem IntSet.kept {w w' : World} {b : Nat} {E : List Int} {r : Option Nat} (h : IntSet w b E) (hg : w.grownBy w' r) (hne : some b ≠ r) : IntSet w' b E := by
  obtain ⟨n, D, h, h1, h2⟩ := h
  exact ⟨n, D, h.kept hg hne, h1, h2⟩
theorem IntSet.below {w w' : World} {b : Nat} {E : List Int} {B : Nat} (h : IntSet w b E) (hb : Below B w w') (hB : w.heap.size ≤ B) : IntSet w' b E :=
  h.kept (r := none) ⟨hb.os, hb.tape, hb.output, hb.size, fun i hi _ => hb.block i (by omega)⟩ (by simp)
theorem ints_below {w w' : World} {b n : Nat} {D : DataW Unit} {B : Nat} (h : w.ownsMap Tryd.prog 3 (Go.unitElem (H := Unit)) b n D) (hb : Below B w w') (hB : w.heap.size ≤ B) : w'.ownsMap Tryd.prog 3 (Go.unitElem (H := Unit)) b n D :=
  h.kept (show w.grownBy w' none from ⟨hb.os, hb.tape, hb.output, hb.size, fun i hi _ => hb.block i (by omega)⟩) (by simp)
theorem IntSet.put {w' : World} {b n : Nat} {E : List Int} {D : DataW Unit} {e : Int} {kl : Lit} {d : DataW Unit} (hk : keyOf Tryd.prog 3 (.int .i64 e) = some kl) (hn : n ≤ E.length) (hi : Go.Maps.IsMap D)
    (hD : ∀ (e : Int) (kl : Lit), keyOf Tryd.prog 3 (.int .i64 e) = some kl → Go.Maps.has D kl = decide (e ∈ E)) (h' : w'.ownsMap Tryd.prog 3 (Go.unitElem (H := Unit)) b (n + 1) (D.put kl d)) : IntSet w' b (E ++ [e]) := by
  refine ⟨n + 1, _, h', by simp; omega, fun x kx hx => ?_⟩
  by_cases hxe : x = e
  · subst hxe
    have hkk : kx = kl := by
      rw [hk] at hx
      exact (Option.some.inj hx).symm
    rw [hkk]
    rw [Go.Maps.has_put_same hi (int_key.key hk)]
    simp
  · have hne : kx ≠ kl := by
      intro h
      rw [h] at hx
      have := int_key.inj hx hk
      injection this with _ this
      exact hxe this
    rw [Go.Maps.has_put_other hne, hD x kx hx]
    simp [hxe]
/-- The numbers of the edges among some vertices. -/
def spanL (S : List (Int × Int)) (V : List Int) : Nat → List Int
  | 0 => []
  | i + 1 => spanL S V i ++ (if decide ((edgeOr S (i : Nat)).1 ∈ V) && decide ((edgeOr S (i : Nat)).2 ∈ V) then [(i : Int)] else [])
theorem spanL_le (S : List (Int × Int)) (V : List Int) : ∀ i, (spanL S V i).length ≤ i
  | 0 => Nat.le_refl _
  | i + 1 => by
    have := spanL_le S V i
    simp only [spanL, List.length_append]
    split <;> simp <;> omega
theorem edgeOr_in {S : List (Int × Int)} (h : ∀ e, e ∈ S → In64 e.1 ∧ In64 e.2) (id : Int) : In64 (edgeOr S id).1 ∧ In64 (edgeOr S id).2 := by
  unfold edgeOr
  split
  · rename_i hv
    obtain ⟨k, rfl, hk⟩ := hasV_yes hv
    rw [Int.toNat_natCast]
    exact h _ (by simp [List.getD, hk])
  · unfold In64; simp

end Go.Proofs.YtjilbnfaclenlaaDoor
