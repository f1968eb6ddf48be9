/- Machines that send nothing. -/
import Derived.Test.YtlopoddllfkkfaaDoorBspG
namespace Go.Proofs.YtlopoddllfkkfaaDoor
open Go.RowKit

/-- A state with so many letters behind it. -/
def pwB (s : ByteArray) (i : Nat) : Nat → ByteArray
  | 0 => s
  | j + 1 => pwB s i j ++ letterB i
theorem pwB_size (s : ByteArray) (i : Nat) : ∀ j, (pwB s i j).size = s.size + j
  | 0 => rfl
  | j + 1 => by
    show (pwB s i j ++ letterB i).size = _
    rw [ByteArray.size_append, pwB_size s i j]
    show _ + 1 = _
    omega
theorem mail_none (k : Nat) (st : Nat → ByteArray) (c : Nat) : mailBox [] k st c = [] := by
  unfold mailBox
  rw [List.flatMap_eq_nil_iff]
  intro a _
  rfl
theorem next_none (i : Nat) (s : ByteArray) (h : s.size ≤ 59) : nextB i s [] = s ++ letterB i := by
  have h1 : (s ++ letterB i).size = s.size + 1 := by rw [ByteArray.size_append]; rfl
  unfold nextB
  rw [if_neg (show ¬ 60 < (foldB s [] ++ letterB i).size by show ¬ 60 < (s ++ letterB i).size; omega)]
  rfl
theorem solo_iter (X : List ByteArray) (hX : ∀ i, (X.getD i ⟨#[]⟩).size ≤ 40) : ∀ j, j ≤ 5 →
    ∃ st bx, iterR [] j (startP X.length 0 X (List.replicate X.length [])) = startP X.length j st bx ∧ st.length = X.length ∧ (∀ i, i < X.length → st.getD i ⟨#[]⟩ = pwB (X.getD i ⟨#[]⟩) i j) ∧ ∀ i, bx.getD i [] = []
  | 0, _ => ⟨X, _, rfl, rfl, fun _ _ => rfl, fun i => by
    by_cases hi : i < X.length <;> simp [List.getD, hi]⟩
  | j + 1, hj => by
    obtain ⟨st, bx, h1, h2, h3, h4⟩ := solo_iter X hX j (by omega)
    refine ⟨_, _, by show roundP [] (iterR [] j _) = _; rw [h1]; rfl, ?_, fun i hi => ?_, fun i => ?_⟩
    · simp [nextSt, startP]
    · have e : (nextSt (startP X.length j st bx)).getD i ⟨#[]⟩ = nextB i (st.getD i ⟨#[]⟩) (bx.getD i []) := by
        simp [nextSt, startP, List.getD, hi, stOf, bxOf]
      rw [e, h3 i hi, h4 i, next_none]
      · rfl
      · rw [pwB_size]
        have := hX i
        omega
    · by_cases hi : i < X.length <;> simp [List.getD, hi, mail_none, startP]
end Go.Proofs.YtlopoddllfkkfaaDoor
