/- Pairs of numbers as keys of a map. -/
import Derived.Test.YtcmocigckcjdjaaGreatDoorSetI13
import Derived.Deep.DeepHandedRow
namespace Go.Proofs.YtcmocigckcjdjaaGreatDoor
open Go.RowKit

theorem laidOut13 : laidOutB Tryz.prog = true := by kernel_rfl
theorem link_keyed : Go.Maps.Keyed Tryz.prog 94 := Go.Maps.Keyed.of_law (deep_law_laid laidOut13 (m := 10) (by omega) (of_decide_eq_true (by kernel_rfl)) (by kernel_rfl) (by kernel_rfl))
def edgeV (e : Int × Int) : Value := .agg #[.int .i64 e.1, .int .i64 e.2]
theorem typesN13 : ∃ m, Tryz.prog.types.size = m + 1 := ⟨Tryz.prog.types.size - 1, by have : (0 : Nat) < Tryz.prog.types.size := of_decide_eq_true (by kernel_rfl); omega⟩
theorem keyTypeL : Tryz.prog.keyType 94 = true := by kernel_rfl
theorem cellsL : Tryz.prog.cellsOf 94 = 2 := by kernel_rfl
theorem cellsI13 : Tryz.prog.cellsOf 3 = 1 := by kernel_rfl
theorem formed_link (e : Int × Int) : (edgeV e).formed Tryz.prog 94 = true := by
  simp [edgeV, Value.formed, Tryz.underlying94, cellsL]
theorem key_link {e : Int × Int} (h1 : In64 e.1) (h2 : In64 e.2) : ∃ kl, keyOf Tryz.prog 94 (edgeV e) = some kl := by
  obtain ⟨m, hm⟩ := typesN13
  have w1 := wf_in64 h1
  have w2 := wf_in64 h2
  unfold keyOf
  rw [Tryz.underlying94, keyTypeL, formed_link, hm]
  simp [Program.keyLits, Tryz.underlying94, Tryz.underlying3, edgeV, Value.cells, cellsL, cellsI13, w1, w2]

/-- A map that is a set of edges. -/
def LinkSet (w : World) (b : Nat) (E : List (Int × Int)) : Prop :=
  ∃ (n : Nat) (D : DataW Unit), w.ownsMap Tryz.prog 94 (Go.unitElem (H := Unit)) b n D ∧ n ≤ E.length ∧ ∀ (e : Int × Int) (kl : Lit), keyOf Tryz.prog 94 (edgeV e) = some kl → Go.Maps.has D kl = decide (e ∈ E)
theorem LinkSet.made (w : World) : LinkSet (w.alloc (.map #[] 0)) w.heap.size [] :=
  ⟨0, .map [], World.ownsMap_made w _ _ _, Nat.le_refl _, fun e kl _ => by simp [Go.Maps.has]⟩
theorem LinkSet.lt {w : World} {b : Nat} {E : List (Int × Int)} (h : LinkSet w b E) : b < w.heap.size := by
  obtain ⟨n, D, h, _⟩ := h
  exact h.lt
theorem LinkSet.kept {w w' : World} {b : Nat} {E : List (Int × Int)} {r : Option Nat} (h : LinkSet w b E) (hg : w.grownBy w' r) (hne : some b ≠ r) : LinkSet w' b E := by
  obtain ⟨n, D, h, h1, h2⟩ := h
  exact ⟨n, D, h.kept hg hne, h1, h2⟩
theorem LinkSet.below {w w' : World} {b : Nat} {E : List (Int × Int)} {B : Nat} (h : LinkSet w b E) (hb : Below B w w') (hB : w.heap.size ≤ B) : LinkSet w' b E :=
  h.kept (r := none) ⟨hb.os, hb.tape, hb.output, hb.size, fun i hi _ => hb.block i (by omega)⟩ (by simp)
theorem edgeV_inj {a b : Int × Int} (h : edgeV a = edgeV b) : a = b := by
  simp [edgeV] at h
  exact Prod.ext h.1 h.2
/-- What a store makes of the set. -/
theorem LinkSet.put {w' : World} {b n : Nat} {E : List (Int × Int)} {D : DataW Unit} {e : Int × Int} {kl : Lit} {d : DataW Unit} (hk : keyOf Tryz.prog 94 (edgeV e) = some kl) (hn : n ≤ E.length) (hi : Go.Maps.IsMap D)
    (hD : ∀ (e : Int × Int) (kl : Lit), keyOf Tryz.prog 94 (edgeV e) = some kl → Go.Maps.has D kl = decide (e ∈ E)) (h' : w'.ownsMap Tryz.prog 94 (Go.unitElem (H := Unit)) b (n + 1) (D.put kl d)) : LinkSet w' b (E ++ [e]) := by
  refine ⟨n + 1, _, h', by simp; omega, fun x kx hx => ?_⟩
  by_cases hxe : x = e
  · subst hxe
    have hkk : kx = kl := by
      rw [hk] at hx
      exact (Option.some.inj hx).symm
    rw [hkk]
    rw [Go.Maps.has_put_same hi (link_keyed.key hk)]
    simp
  · have hne : kx ≠ kl := by
      intro h
      rw [h] at hx
      exact hxe (edgeV_inj (link_keyed.inj hx hk))
    rw [Go.Maps.has_put_other hne, hD x kx hx]
    simp [hxe]

theorem run_makeLinks (w : World) : (Instr.makeMap 92 none).run Tryz.prog w = .ok (.map (some w.heap.size)) (w.alloc (.map #[] 0)) := by
  simp [Instr.makeMap]
/-- What has come of the keys. -/
def CollectedL (E : List (Int × Int)) (left : Lit → Bool) (ss : List (Int × Int)) : Prop :=
  (ss.Nodup ∧ ∀ e ∈ ss, e ∈ E) ∧ ∀ e kl, keyOf Tryz.prog 94 (edgeV e) = some kl → (e ∈ ss ↔ (e ∈ E ∧ left kl = false))
end Go.Proofs.YtcmocigckcjdjaaGreatDoor
