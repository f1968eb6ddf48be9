/- All orders of up to six things, in order: pure. -/
import Derived.Test.YtlkmbhbjhiobiaaDoorUnr
namespace Go.Proofs.YtlkmbhbjhiobiaaDoor
open Go.RowKit

/-- The last place below m at which the list rises. -/
def scanL (L : List Int) : Nat → Option Nat
  | 0 => none
  | i + 1 => if L.getD (i + 1) 0 < L.getD i 0 then scanL L i else some i
/-- The last place below m that holds no lesser one. -/
def findL (L : List Int) (x : Int) : Nat → Nat
  | 0 => 0
  | j + 1 => if L.getD j 0 < x then findL L x j else j
def swpL (L : List Int) (i j : Nat) : List Int := (L.set i (L.getD j 0)).set j (L.getD i 0)
def turnL (L : List Int) (i : Nat) : List Int := L.take (i + 1) ++ (L.drop (i + 1)).reverse
/-- The next order, as advance makes it. -/
def advL (L : List Int) : Option (List Int) :=
  match scanL L (L.length - 1) with
  | none => none
  | some i => some (turnL (swpL L i (findL L (L.getD i 0) L.length)) i)
/-- The order of a rank. -/
def ord (n r : Nat) : List Int := unr n (upto n) r
def advOk (n : Nat) : Bool := (List.range (fct n)).all fun r => decide (advL (ord n r) = if r + 1 < fct n then some (ord n (r + 1)) else none)
/-- Each list, by one number more. -/
def extL (n : Nat) (L : List Int) : List (List Int) := ((upto n).filter fun x => !L.contains x).map fun x => L ++ [x]
def allR (n : Nat) : Nat → List (List Int)
  | 0 => [[]]
  | i + 1 => (allR n i).flatMap (extL n)
def ords (n : Nat) : List (List Int) := (List.range (fct n)).map (ord n)

theorem advOk_all : (List.range 7).all advOk = true := by kernel_rfl
theorem allR_all : ((List.range 7).all fun n => decide (allR n n = ords n)) = true := by kernel_rfl
theorem adv_ord {n r : Nat} (hn : n ≤ 6) (hr : r < fct n) : advL (ord n r) = if r + 1 < fct n then some (ord n (r + 1)) else none := by
  have h := List.all_eq_true.1 advOk_all n (List.mem_range.2 (by omega))
  exact of_decide_eq_true (List.all_eq_true.1 h r (List.mem_range.2 hr))
theorem allR_ords {n : Nat} (hn : n ≤ 6) : allR n n = ords n :=
  of_decide_eq_true (List.all_eq_true.1 allR_all n (List.mem_range.2 (by omega)))
theorem ords_len (n : Nat) : (ords n).length = fct n := by simp [ords]
theorem ords_at {n r : Nat} (hr : r < fct n) : (ords n)[r]? = some (ord n r) := by simp [ords, hr]
end Go.Proofs.YtlkmbhbjhiobiaaDoor
