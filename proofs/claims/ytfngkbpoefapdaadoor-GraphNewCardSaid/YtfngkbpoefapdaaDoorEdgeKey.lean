/- Edges as keys of a map. -/
import Derived.Test.YtfngkbpoefapdaaDoorGraph1
namespace Go.Proofs.YtfngkbpoefapdaaDoor
open Go.RowKit

def edgeV (e : Int × Int) : Value := .agg #[.int .i64 e.1, .int .i64 e.2]
/-- In the range of int. -/
def In64 (x : Int) : Prop := -9223372036854775808 ≤ x ∧ x ≤ 9223372036854775807
theorem wf_in64 {x : Int} (h : In64 x) : (Lit.int .i64 x).wf = true := Go.WalkArith.wf_i64 h
theorem Tryd.typesN : ∃ m, Tryd.prog.types.size = m + 1 := ⟨Tryd.prog.types.size - 1, by have : (0 : Nat) < Tryd.prog.types.size := of_decide_eq_true (by kernel_rfl); omega⟩
theorem Tryd.keyTypeE : Tryd.prog.keyType 47 = true := by kernel_rfl
theorem Tryd.cellsE : Tryd.prog.cellsOf 47 = 2 := by kernel_rfl
theorem Tryd.cellsI : Tryd.prog.cellsOf 3 = 1 := by kernel_rfl
theorem formed_edge (e : Int × Int) : (edgeV e).formed Tryd.prog 47 = true := by
  simp [edgeV, Value.formed, Tryd.underlying47, Tryd.cellsE]
theorem key_edge {e : Int × Int} (h1 : In64 e.1) (h2 : In64 e.2) : ∃ kl, keyOf Tryd.prog 47 (edgeV e) = some kl := by
  obtain ⟨m, hm⟩ := Tryd.typesN
  have w1 := wf_in64 h1
  have w2 := wf_in64 h2
  unfold keyOf
  rw [Tryd.underlying47, Tryd.keyTypeE, formed_edge, hm]
  simp [Program.keyLits, Tryd.underlying47, Tryd.underlying3, edgeV, Value.cells, Tryd.cellsE, Tryd.cellsI, w1, w2]

/-- A map that is a set of edges. -/
def EdgeSet (w : World) (b : Nat) (E : List (Int × Int)) : Prop :=
  ∃ (n : Nat) (D : DataW Unit), w.ownsMap Tryd.prog 47 (Go.unitElem (H := Unit)) b n D ∧ n ≤ E.length ∧ ∀ (e : Int × Int) (kl : Lit), keyOf Tryd.prog 47 (edgeV e) = some kl → Go.Maps.has D kl = decide (e ∈ E)
theorem EdgeSet.made (w : World) : EdgeSet (w.alloc (.map #[] 0)) w.heap.size [] :=
  ⟨0, .map [], World.ownsMap_made w _ _ _, Nat.le_refl _, fun e kl _ => by simp [Go.Maps.has]⟩
theorem EdgeSet.lt {w : World} {b : Nat} {E : List (Int × Int)} (h : EdgeSet w b E) : b < w.heap.size := by
  obtain ⟨n, D, h, _⟩ := h
  exact h.lt
theorem EdgeSet.kept {w w' : World} {b : Nat} {E : List (Int × Int)} {r : Option Nat} (h : EdgeSet w b E) (hg : w.grownBy w' r) (hne : some b ≠ r) : EdgeSet w' b E := by
  obtain ⟨n, D, h, h1, h2⟩ := h
  exact ⟨n, D, h.kept hg hne, h1, h2⟩
theorem EdgeSet.below {w w' : World} {b : Nat} {E : List (Int × Int)} {B : Nat} (h : EdgeSet w b E) (hb : Below B w w') (hB : w.heap.size ≤ B) : EdgeSet w' b E :=
  h.kept (r := none) ⟨hb.os, hb.tape, hb.output, hb.size, fun i hi _ => hb.block i (by omega)⟩ (by simp)
theorem edgeV_inj {a b : Int × Int} (h : edgeV a = edgeV b) : a = b := by
  simp [edgeV] at h
  exact Prod.ext h.1 h.2
/-- What a store makes of the set. -/
theorem EdgeSet.put {w' : World} {b n : Nat} {E : List (Int × Int)} {D : DataW Unit} {e : Int × Int} {kl : Lit} {d : DataW Unit} (hk : keyOf Tryd.prog 47 (edgeV e) = some kl) (hn : n ≤ E.length) (hi : Go.Maps.IsMap D)
    (hD : ∀ (e : Int × Int) (kl : Lit), keyOf Tryd.prog 47 (edgeV e) = some kl → Go.Maps.has D kl = decide (e ∈ E)) (h' : w'.ownsMap Tryd.prog 47 (Go.unitElem (H := Unit)) b (n + 1) (D.put kl d)) : EdgeSet w' b (E ++ [e]) := by
  refine ⟨n + 1, _, h', by simp; omega, fun x kx hx => ?_⟩
  by_cases hxe : x = e
  · subst hxe
    have hkk : kx = kl := by
      rw [hk] at hx
      exact (Option.some.inj hx).symm
    rw [hkk]
    rw [Go.Maps.has_put_same hi (edge_keyed.key hk)]
    simp
  · have hne : kx ≠ kl := by
      intro h
      rw [h] at hx
      exact hxe (edgeV_inj (edge_keyed.inj hx hk))
    rw [Go.Maps.has_put_other hne, hD x kx hx]
    simp [hxe]
end Go.Proofs.YtfngkbpoefapdaaDoor
