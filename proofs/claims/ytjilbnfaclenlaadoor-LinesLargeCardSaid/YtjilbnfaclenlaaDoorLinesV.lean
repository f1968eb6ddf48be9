/- lines: Verts. -/
import Derived.Test.YtjilbnfaclenlaaDoorLinesM
namespace Go.Proofs.YtjilbnfaclenlaaDoor
open Go.RowKit

/-- A vertex is put behind, if it does not stand there. -/
def addV (Q : List Int) (v : Int) : List Int := if v ∈ Q then Q else Q ++ [v]
/-- The vertices of some edges, as they first stand. -/
def vertsE (E : List (Int × Int)) : List Int := E.foldl (fun Q e => addV (addV Q e.1) e.2) []
theorem addV_le (Q : List Int) (v : Int) : (addV Q v).length ≤ Q.length + 1 := by
  unfold addV
  split <;> simp
theorem vertsE_snoc (E : List (Int × Int)) (e : Int × Int) : vertsE (E ++ [e]) = addV (addV (vertsE E) e.1) e.2 := by
  unfold vertsE
  rw [List.foldl_append]
  rfl
theorem vertsE_le : ∀ (k : Nat) (E : List (Int × Int)), E.length = k → (vertsE E).length ≤ 2 * k
  | 0, E, h => by rw [List.eq_nil_of_length_eq_zero h]; exact Nat.le_refl _
  | k + 1, E, h => by
    have hne : E ≠ [] := by intro e; rw [e] at h; simp at h
    have e1 := List.dropLast_concat_getLast hne
    rw [← e1, vertsE_snoc]
    have h1 := vertsE_le k E.dropLast (by simp [h])
    have h2 := addV_le (vertsE E.dropLast) (E.getLast hne).1
    have h3 := addV_le (addV (vertsE E.dropLast) (E.getLast hne).1) (E.getLast hne).2
    omega

end Go.Proofs.YtjilbnfaclenlaaDoor
