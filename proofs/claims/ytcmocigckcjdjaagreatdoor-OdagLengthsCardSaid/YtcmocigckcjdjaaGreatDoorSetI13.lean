/- Sets of ints as maps; their keys, sorted. -/
import Derived.Test.YtcmocigckcjdjaaGreatDoorOdP13
import Derived.Test.YtcmocigckcjdjaaGreatDoorSeq
import Derived.Test.YtcmocigckcjdjaaGreatDoorShelf
import Derived.Test.YtcmocigckcjdjaaGreatDoorShelfKeys
import Derived.Shelf.SlIterI.Sorted
import Derived.Maps.OwnSet
import Derived.Maps.Keyed
namespace Go.Proofs.YtcmocigckcjdjaaGreatDoor
open Go.RowKit

/-- In the range of int. -/
def In64 (x : Int) : Prop := -9223372036854775808 ≤ x ∧ x ≤ 9223372036854775807
theorem wf_in64 {x : Int} (h : In64 x) : (Lit.int .i64 x).wf = true := Go.WalkArith.wf_i64 h
theorem int_key : Go.Maps.Keyed Tryz.prog 3 := Go.Maps.int_keyed Tryz.underlying3
theorem keyOf_int {x : Int} (h : In64 x) : keyOf Tryz.prog 3 (.int .i64 x) = some (.int .i64 x) := Go.Maps.keyOf_int_mk Tryz.underlying3 (wf_in64 h)
/-- A map that is a set of ints. -/
def IntSet (w : World) (b : Nat) (E : List Int) : Prop :=
  ∃ (n : Nat) (D : DataW Unit), w.ownsMap Tryz.prog 3 (Go.unitElem (H := Unit)) b n D ∧ n ≤ E.length ∧ ∀ (x : Int) (kl : Lit), keyOf Tryz.prog 3 (.int .i64 x) = some kl → Go.Maps.has D kl = decide (x ∈ E)
theorem IntSet.made (w : World) : IntSet (w.alloc (.map #[] 0)) w.heap.size [] :=
  ⟨0, .map [], World.ownsMap_made w _ _ _, Nat.le_refl _, fun e kl _ => by simp [Go.Maps.has]⟩
theorem IntSet.lt {w : World} {b : Nat} {E : List Int} (h : IntSet w b E) : b < w.heap.size := by
  obtain ⟨n, D, h, _⟩ := h
  exact h.lt
theorem IntSet.kept {w w' : World} {b : Nat} {E : List Int} {r : Option Nat} (h : IntSet w b E) (hg : w.grownBy w' r) (hne : some b ≠ r) : IntSet w' b E := by
  obtain ⟨n, D, h, h1, h2⟩ := h
  exact ⟨n, D, h.kept hg hne, h1, h2⟩
theorem IntSet.below {w w' : World} {b : Nat} {E : List Int} {B : Nat} (h : IntSet w b E) (hb : Below B w w') (hB : w.heap.size ≤ B) : IntSet w' b E :=
  h.kept (r := none) ⟨hb.os, hb.tape, hb.output, hb.size, fun i hi _ => hb.block i (by omega)⟩ (by simp)
theorem ints_below {w w' : World} {b n : Nat} {D : DataW Unit} {B : Nat} (h : w.ownsMap Tryz.prog 3 (Go.unitElem (H := Unit)) b n D) (hb : Below B w w') (hB : w.heap.size ≤ B) : w'.ownsMap Tryz.prog 3 (Go.unitElem (H := Unit)) b n D :=
  h.kept (show w.grownBy w' none from ⟨hb.os, hb.tape, hb.output, hb.size, fun i hi _ => hb.block i (by omega)⟩) (by simp)
theorem IntSet.put {w' : World} {b n : Nat} {E : List Int} {D : DataW Unit} {e : Int} {kl : Lit} {d : DataW Unit} (hk : keyOf Tryz.prog 3 (.int .i64 e) = some kl) (hn : n ≤ E.length) (hi : Go.Maps.IsMap D)
    (hD : ∀ (e : Int) (kl : Lit), keyOf Tryz.prog 3 (.int .i64 e) = some kl → Go.Maps.has D kl = decide (e ∈ E)) (h' : w'.ownsMap Tryz.prog 3 (Go.unitElem (H := Unit)) b (n + 1) (D.put kl d)) : IntSet w' b (E ++ [e]) := by
  refine ⟨n + 1, _, h', by simp; omega, fun x kx hx => ?_⟩
  by_cases hxe : x = e
  · subst hxe
    have hkk : kx = kl := by
      rw [hk] at hx
      exact (Option.some.inj hx).symm
    rw [hkk]
    rw [Go.Maps.has_put_same hi (int_key.key hk)]
    simp
  · have hne : kx ≠ kl := by
      intro h
      rw [h] at hx
      have := int_key.inj hx hk
      injection this with _ this
      exact hxe this
    rw [Go.Maps.has_put_other hne, hD x kx hx]
    simp [hxe]
theorem run_makeInts0 (w : World) : (Instr.makeMap 86 none).run Tryz.prog w = .ok (.map (some w.heap.size)) (w.alloc (.map #[] 0)) := by
  simp [Instr.makeMap]
theorem intKeys_are {w : World} {b n : Nat} {D : DataW Unit} (h : w.ownsMap Tryz.prog 3 (Go.unitElem (H := Unit)) b n D) : (intKeys D).Nodup ∧ ∀ x, x ∈ intKeys D ↔ Go.Maps.has D (.int .i64 x) = true := by
  obtain ⟨es, hD, hpw, _⟩ := h.entries int_key
  obtain ⟨es', hD', hko⟩ := h.keysOf
  obtain rfl : es = es' := by rw [hD] at hD'; simpa using hD'
  subst hD
  have hk : ∀ p ∈ es, ∃ x, p.1 = .int .i64 x := fun p hp => by
    obtain ⟨v, hv⟩ := hko p hp
    obtain ⟨x, _, hx, _⟩ := Go.Maps.keyOf_i64 Tryz.underlying3 hv
    exact ⟨x, hx⟩
  refine ⟨?_, fun x => ?_⟩
  · show (es.map fun p => _root_.Go.intOf p.1).Nodup
    refine List.pairwise_map.2 (hpw.imp_of_mem fun {p q} hp hq hne e => hne ?_)
    obtain ⟨a, ha⟩ := hk p hp
    obtain ⟨c, hc⟩ := hk q hq
    rw [ha, hc] at e ⊢
    exact congrArg _ e
  · rw [Go.Maps.has_eq, List.any_eq_true]
    show x ∈ es.map (fun p => _root_.Go.intOf p.1) ↔ _
    rw [List.mem_map]
    constructor
    · rintro ⟨p, hp, rfl⟩
      obtain ⟨a, ha⟩ := hk p hp
      exact ⟨p, hp, by rw [ha]; simp [Lit.sameKey, _root_.Go.intOf]⟩
    · rintro ⟨p, hp, hs⟩
      obtain ⟨a, ha⟩ := hk p hp
      rw [ha] at hs
      exact ⟨p, hp, by rw [ha]; simpa [Lit.sameKey, _root_.Go.intOf] using hs⟩
theorem sorts_in (m : Nat) : AnyZI.SortsIn Tryz.prog Tryz.sortedA_ren Fence.wide m :=
  ⟨fun blk off cap ss W hH hblk hsz => callsIn_wide.2 (Tryz.slices_Sort_int blk off cap ss W hH hblk hsz), fun p cap W => callsIn_wide.2 (Tryz.slices_Sort_int_none p cap W)⟩
theorem keys_call (mb : Option Nat) (w : World) : Calls Tryz.prog 57 #[.map mb] w fun e w' => e = .returned (.func (.func 84) #[] #[.pointer (some ⟨w.heap.size, 0, none⟩)]) ∧ w' = w.alloc (.cells #[.map mb] 86) :=
  (callsIn_wide (n := 5)).1 (AnyZI.keys_in Tryz.keysA Fence.wide 5 trivial rfl mb w)
set_option maxRecDepth 100000 in
theorem sorted_call {w : World} {b : Nat} {E : List Int} (h : IntSet w b E) (hin : ∀ x ∈ E, In64 x) (hE : E.length ≤ 1000000) :
    Calls Tryz.prog 56 #[.func (.func 84) #[] #[.pointer (some ⟨w.heap.size, 0, none⟩)]] (w.alloc (.cells #[.map (some b)] 86)) fun e w' =>
      ∃ v, e = .returned v ∧ w'.ownsRow w.heap.size 3 1 v (ofR E).length (intCells (ofR E)) ∧ Below w.heap.size w w' := by
  obtain ⟨n, D, hown, hn, hD⟩ := h
  have hsz := hown.size_le
  obtain ⟨k1, k2⟩ := intKeys_are hown
  have hmem : ∀ x, x ∈ intKeys D ↔ x ∈ E := fun x => by
    rw [k2]
    constructor
    · intro hx
      obtain ⟨es', hD', hko⟩ := hown.keysOf
      by_cases hi : In64 x
      · rw [hD x _ (keyOf_int hi)] at hx
        exact of_decide_eq_true hx
      · exfalso
        subst hD'
        rw [Go.Maps.has_eq, List.any_eq_true] at hx
        obtain ⟨p, hp, hs⟩ := hx
        obtain ⟨v, hv⟩ := hko p hp
        obtain ⟨y, _, hy, hw⟩ := Go.Maps.keyOf_i64 Tryz.underlying3 hv
        rw [hy] at hs
        have hyx : y = x := by simpa [Lit.sameKey] using hs
        subst hyx
        exact hi (by simpa [In64, Lit.wf, IntKind.min, IntKind.max, IntKind.signed, IntKind.bits] using hw)
    · intro hx
      rw [hD x _ (keyOf_int (hin x hx))]
      exact decide_eq_true hx
  have hseq : SeqGives Fence.wide 3 Tryz.prog 84 #[.pointer (some ⟨w.heap.size, 0, none⟩)] encZ (fun ss => ss.Perm (intKeys D)) (Go.Maps.size D) (w.alloc (.cells #[.map (some b)] 86)) :=
    AnyZI.keys_gives (ρ := Tryz.keysA_ren) { Tryz.keysA with } Fence.wide 3 trivial rfl (by omega) w.heap.size b n D _ (by simp) (by simp) (hown.alloc _)
  have cS := AnyZI.sorted_in Tryz.sortedA Fence.wide 6 trivial trivial trivial trivial rfl (by omega) (sorts_in _) (enters_of Tryz.func83 (by kernel_rfl) rfl) 84 #[.pointer (some ⟨w.heap.size, 0, none⟩)] trivial (enters_of Tryz.func84 (by kernel_rfl) rfl) _ _ (show Go.Maps.size D ≤ maxLen by unfold maxLen; omega) (by omega) _ hseq
  refine ((callsIn_wide (n := 6)).1 (show CallsIn Fence.wide 6 Tryz.prog 56 _ _ _ from cS)).mono ?_
  rintro e w' ⟨v, ss, rfl, hp, hrow, _, hb⟩
  have hs : (ss.mergeSort fun x y => decide (x ≤ y)) = ofR E := sort_ofR (hp.nodup_iff.2 k1) (fun x => by rw [hp.mem_iff, hmem])
  have hl : ss.length = (ofR E).length := by rw [← hs, List.length_mergeSort]
  have hrow' : w'.ownsRow (w.heap.size + 1) 3 1 v ss.length ((ss.mergeSort fun x y => decide (x ≤ y)).map encZ) := by
    have := hrow
    rw [World.size_alloc] at this
    exact this
  rw [hs, hl] at hrow'
  refine ⟨v, rfl, ?_, ((Below.refl _ w).alloc (Nat.le_refl _) _).trans (hb.mono (by simp))⟩
  exact ⟨hrow'.1, hrow'.2.imp id (fun ⟨g, cap, cur, e1, e2, e3⟩ => ⟨g, cap, cur, e1, by omega, e3⟩)⟩
end Go.Proofs.YtcmocigckcjdjaaGreatDoor
