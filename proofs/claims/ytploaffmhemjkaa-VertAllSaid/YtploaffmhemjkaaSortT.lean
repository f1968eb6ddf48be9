/- graph.build's edges are put in order. -/
import Derived.Test.YtploaffmhemjkaaSort4
import Derived.Test.YtploaffmhemjkaaShelfSort
import Derived.Shelf.SlSortCmp.WholeK
namespace Go.Proofs.Ytploaffmhemjkaa
open Go.RowKit
open Go.Sort (putRow putCells Holds HoldsK flatK putRowK grow SWO PermIn SortedIn)

/-- The edges put in order. -/
theorem sort_edges (S : List (Int × Int)) (g n : Nat) (w : World) (hn : S.length = n) (hn0 : n ≤ 1000000) (hw : Whole w g 75 (ecells S))
    (hcmp : ∀ (x y : Int × Int) (W : World), Calls Try.prog 63 #[edgeV x, edgeV y] W fun e w' => e = .returned (.int .i64 (cfE x y)) ∧ ∃ q os', w' = grow (W.drewN q) os') :
    Calls Try.prog 62 #[.slice (some ⟨g, 0, none⟩) n n, .func (.func 63) #[] #[]] w fun e w' =>
      e = .returned (.tuple #[]) ∧ ∃ D, D.Perm S ∧ D.Pairwise (fun a b => ¬ ltE b a) ∧ Whole w' g 75 (ecells D) ∧ w.grownBy w' (some g) := by
  have eg : ∀ args w, (callFunc 63 args).run Try.prog w = .ok (.enter 63 args) w := enters_of Try.func63 (by kernel_rfl) rfl
  have hs : S.toArray.size = n := by simpa using hn
  have hcon := AnyQ.slices_SortFunc Try.sortEdge 2 Try.isAggE Try.sizeE encE (fun _ => rfl) (fun x v hv => by simp [encE] at hv; rcases hv with rfl | rfl <;> rfl) cfE swoE 63 #[] g 0 n S.toArray w eg (fun m os dk _ x y => hcmp x y _) (whole_holdsK hw) hw.lt (by omega)
  rw [hs] at hcon
  refine (show Calls Try.prog 62 _ _ _ from hcon).mono ?_
  rintro e w' ⟨he, d', q, os, hp, hso, rfl⟩
  obtain ⟨p1, _, p3⟩ := hp
  have hsz : d'.size = n := by rw [p1, hs]
  have hperm : d'.toList.Perm S := by
    have e1 : d'.extract 0 n = d' := by rw [← hsz]; exact Array.extract_size
    have e2 : S.toArray.extract 0 n = S.toArray := by rw [← hs]; exact Array.extract_size
    rw [e1, e2] at p3
    simpa using p3
  have hw' := whole_sorted (D := d'.toList) hw (by rw [Array.length_toList, hsz, hn]) q os
  rw [Array.toArray_toList] at hw'
  refine ⟨he, d'.toList, hperm, ?_, hw'.1, hw'.2⟩
  rw [List.pairwise_iff_getElem]
  intro i j hi hj hij
  have := hso i j (Nat.zero_le _) hij (by rw [← hsz]; simpa using hj)
  rw [lt_cfE] at this
  have := of_decide_eq_false this
  rw [getElem!_pos d' j (by simpa using hj), getElem!_pos d' i (by simpa using hi)] at this
  simpa using this
end Go.Proofs.Ytploaffmhemjkaa
