/- Maps, told as functions of their keys. -/
import Derived.Test.YtbecgfeoacncdaaDoorMem
import Derived.Maps.OwnSet
import Derived.Maps.Keyed
import Derived.Maps.Views
import Derived.DeepKeys4
namespace Go.Proofs.YtbecgfeoacncdaaDoor
open Go.RowKit Go.Maps

/-- An element that is told as it stands. -/
def heldElem (v : Value) : Option (DataW Value × List MemPlace) := some (.held v, [])
/-- A map that holds what a function tells of its keys. -/
def MapF (w : World) (kt : TypeId) (b N : Nat) (F : Value → Option Value) : Prop :=
  ∃ (n : Nat) (D : DataW Value), w.ownsMap Tryd.prog kt heldElem b n D ∧ n ≤ N ∧ ∀ (key : Value) (kl : Lit), keyOf Tryd.prog kt key = some kl → (has D kl = (F key).isSome ∧ ∀ v, F key = some v → ∀ z, D.atKey kl z = .held v)
theorem MapF.made (w : World) (kt : TypeId) : MapF (w.alloc (.map #[] 0)) kt w.heap.size 0 fun _ => none :=
  ⟨0, .map [], World.ownsMap_made w _ _ _, Nat.le_refl _, fun key kl _ => ⟨by simp [Go.Maps.has], fun v h => by cases h⟩⟩
theorem MapF.lt {w : World} {kt : TypeId} {b N : Nat} {F : Value → Option Value} (h : MapF w kt b N F) : b < w.heap.size := by
  obtain ⟨n, D, h, _⟩ := h
  exact h.lt
theorem MapF.mono {w : World} {kt : TypeId} {b N M : Nat} {F : Value → Option Value} (h : MapF w kt b N F) (hm : N ≤ M) : MapF w kt b M F := by
  obtain ⟨n, D, h, h1, h2⟩ := h
  exact ⟨n, D, h, by omega, h2⟩
theorem MapF.kept {w w' : World} {kt : TypeId} {b N : Nat} {F : Value → Option Value} {r : Option Nat} (h : MapF w kt b N F) (hg : w.grownBy w' r) (hne : some b ≠ r) : MapF w' kt b N F := by
  obtain ⟨n, D, h, h1, h2⟩ := h
  exact ⟨n, D, h.kept hg hne, h1, h2⟩
theorem MapF.below {w w' : World} {kt : TypeId} {b N B : Nat} {F : Value → Option Value} (h : MapF w kt b N F) (hb : Below B w w') (hB : w.heap.size ≤ B) : MapF w' kt b N F :=
  h.kept (r := none) ⟨hb.os, hb.tape, hb.output, hb.size, fun i hi _ => hb.block i (by omega)⟩ (by simp)
theorem MapF.setCell {w : World} {kt : TypeId} {b N : Nat} {F : Value → Option Value} (h : MapF w kt b N F) {a : Addr} (ha : b ≠ a.block) (u : Value) : MapF (w.setCell a u) kt b N F := by
  obtain ⟨n, D, h, h1, h2⟩ := h
  exact ⟨n, D, h.setCell ha u, h1, h2⟩
theorem MapF.alloc {w : World} {kt : TypeId} {b N : Nat} {F : Value → Option Value} (h : MapF w kt b N F) (o : Obj) : MapF (w.alloc o) kt b N F := by
  obtain ⟨n, D, h, h1, h2⟩ := h
  exact ⟨n, D, h.alloc o, h1, h2⟩
theorem MapF.drewN {w : World} {kt : TypeId} {b N : Nat} {F : Value → Option Value} (h : MapF w kt b N F) (d : Nat) : MapF (w.drewN d) kt b N F := h.below (below_drewN' (Below.refl _ _) d) (Nat.le_refl _)
set_option maxRecDepth 100000 in
/-- m[k]. -/
theorem MapF.look {w : World} {t kt e : TypeId} {b N : Nat} {F : Value → Option Value} (h : MapF w kt b N F) (K : Keyed Tryd.prog kt) (ht : Tryd.prog.underlying t = some (.map kt e)) {z : Value} (hz : ∀ w, (zeroValue e).run Tryd.prog w = .ok z w) {key : Value} {kl : Lit} (hkey : keyOf Tryd.prog kt key = some kl) :
    (Instr.lookup t (.map (some b)) key false).run Tryd.prog w = .ok ((F key).getD z) w := by
  obtain ⟨n, D, h, h1, h2⟩ := h
  obtain ⟨v, ps, hrun, hv⟩ := h.lookup K ht (hz w) (show heldElem z = some (.held z, []) from rfl) hkey
  rw [hrun]
  obtain ⟨k1, k2⟩ := h2 key kl hkey
  simp only [heldElem, Option.some.injEq, Prod.mk.injEq] at hv
  obtain ⟨hv, _⟩ := hv
  cases hF : F key with
  | none =>
    rw [hF] at k1
    rw [atKey_of_not_has k1] at hv
    rw [DataW.held.inj hv]
    rfl
  | some u =>
    rw [k2 u hF] at hv
    rw [DataW.held.inj hv]
    rfl
set_option maxRecDepth 100000 in
/-- v, ok := m[k]. -/
theorem MapF.look_ok {w : World} {t kt e : TypeId} {b N : Nat} {F : Value → Option Value} (h : MapF w kt b N F) (K : Keyed Tryd.prog kt) (ht : Tryd.prog.underlying t = some (.map kt e)) {z : Value} (hz : ∀ w, (zeroValue e).run Tryd.prog w = .ok z w) {key : Value} {kl : Lit} (hkey : keyOf Tryd.prog kt key = some kl) :
    (Instr.lookup t (.map (some b)) key true).run Tryd.prog w = .ok (.tuple #[(F key).getD z, .bool (F key).isSome]) w := by
  obtain ⟨n, D, h, h1, h2⟩ := h
  obtain ⟨v, ps, hrun, hv⟩ := h.look_ok K ht (hz w) (show heldElem z = some (.held z, []) from rfl) hkey
  rw [hrun]
  obtain ⟨k1, k2⟩ := h2 key kl hkey
  simp only [heldElem, Option.some.injEq, Prod.mk.injEq] at hv
  obtain ⟨hv, _⟩ := hv
  rw [k1]
  cases hF : F key with
  | none =>
    rw [hF] at k1
    rw [atKey_of_not_has k1] at hv
    rw [DataW.held.inj hv]
    rfl
  | some u =>
    rw [k2 u hF] at hv
    rw [DataW.held.inj hv]
    rfl
set_option maxRecDepth 100000 in
/-- m[k] = v. -/
theorem MapF.store {w : World} {t kt e : TypeId} {b N : Nat} {F : Value → Option Value} (h : MapF w kt b N F) (K : Keyed Tryd.prog kt) (ht : Tryd.prog.underlying t = some (.map kt e)) (hN : N ≤ 1000000) {key : Value} {kl : Lit} (hkey : keyOf Tryd.prog kt key = some kl) (val : Value) :
    ∃ w' F', (Instr.mapUpdate t (.map (some b)) key val).run Tryd.prog w = .ok () w' ∧ MapF w' kt b (N + 1) F' ∧ F' key = some val ∧ (∀ k, k ≠ key → F' k = F k) ∧ w.grownBy w' (some b) ∧ w.mapTurned w' b := by
  obtain ⟨n, D, h, h1, h2⟩ := h
  have hm := h.isMap
  obtain ⟨w', hrun, h3, h4⟩ := h.store K ht (by unfold maxLen; omega) hkey (show heldElem val = some (.held val, []) from rfl)
  refine ⟨w', fun k => @ite _ (k = key) (Classical.propDecidable _) (some val) (F k), hrun, ⟨n + 1, _, h3, by omega, fun k kx hx => ?_⟩, if_pos rfl, fun k hk => if_neg hk, h4.grown, h4⟩
  by_cases hk : k = key
  · subst hk
    obtain rfl : kx = kl := by rw [hkey] at hx; exact (Option.some.inj hx).symm
    dsimp only
    rw [if_pos rfl]
    refine ⟨has_put_same hm (K.key hkey) _, fun v hv z => ?_⟩
    injection hv with hv
    subst hv
    exact atKey_put_same hm (K.key hkey) _ _
  · have hne : kx ≠ kl := fun e => hk (by rw [e] at hx; exact K.inj hx hkey)
    dsimp only
    rw [if_neg hk]
    obtain ⟨k1, k2⟩ := h2 k kx hx
    exact ⟨by rw [has_put_other hne, k1], fun v hv z => by rw [atKey_put_other hne]; exact k2 v hv z⟩
end Go.Proofs.YtbecgfeoacncdaaDoor
