/- Lines of a job's text; pure. -/
import Derived.Test.YtbbdammdiplagaaGreatDoorTextP
namespace Go.Proofs.YtbbdammdiplagaaGreatDoor

def wJob : List UInt8 := [106, 111, 98]
def wKeep : List UInt8 := [107, 101, 101, 112]
def wSup : List UInt8 := [115, 117, 112, 112, 111, 114, 116]
def wSize : List UInt8 := [115, 105, 122, 101]
def wWork : List UInt8 := [119, 111, 114, 107, 101, 114, 115]
def wCap : List UInt8 := [99, 97, 112]
/-- What is asked so far. -/
structure CP where
  kind : Int
  size : Int
  sup : Int
  work : Int
  cap : Int
/-- The name of a kind. -/
def kname : Int → List UInt8
  | 1 => [109, 111, 116, 105, 102, 115]
  | 2 => [99, 108, 105, 113, 117, 101, 115]
  | 3 => [102, 115, 109]
  | _ => []
def kindOf (v : List UInt8) : Option Int := if v = kname 1 then some 1 else if v = kname 2 then some 2 else if v = kname 3 then some 3 else none
/-- The number of decimal digits, at most seven, without noughts ahead. -/
def numB (v : List UInt8) : Option Int :=
  match Lib.atoiAll v with
  | .ok x => if 0 ≤ x ∧ x ≤ 9999999 ∧ Lib.decDigits x.toNat = v then some x else none
  | _ => none
def mostOf (wd : List UInt8) : Int := if wd = wSize then 8 else if wd = wSup then 1000000 else if wd = wWork then 64 else 1000000
def setN (c : CP) (wd : List UInt8) (x : Int) : CP := if wd = wSize then { c with size := x } else if wd = wSup then { c with sup := x } else if wd = wWork then { c with work := x } else { c with cap := x }
/-- A word set. -/
def setP (c : CP) (wd v : List UInt8) : Option CP :=
  if wd = wJob then (if (kindOf v).getD c.kind = 0 then none else some { c with kind := (kindOf v).getD c.kind })
  else if wd = wSup ∧ c.kind ≠ 3 then none
  else if wd = wSup ∨ wd = wSize ∨ wd = wWork ∨ wd = wCap then
    (match numB v with
     | some x => if 1 ≤ x ∧ x ≤ mostOf wd then some (setN c wd x) else none
     | none => none)
  else none
theorem numB_dec {m : Nat} (h : m ≤ 9999999) : numB (Lib.decDigits m) = some (m : Int) := by
  unfold numB
  rw [atoi_dec m (by omega)]
  simp only
  rw [if_pos ⟨by omega, by omega, by rw [Int.toNat_natCast]⟩]
theorem numB_some {v : List UInt8} {x : Int} (h : numB v = some x) : 0 ≤ x ∧ x ≤ 9999999 ∧ Lib.decDigits x.toNat = v := by
  unfold numB at h
  split at h
  · rename_i y _
    by_cases hy : 0 ≤ y ∧ y ≤ 9999999 ∧ Lib.decDigits y.toNat = v
    · rw [if_pos hy] at h
      rw [← Option.some.inj h]
      exact hy
    · rw [if_neg hy] at h; cases h
  · cases h
/-- Lines one behind the other. -/
def linesB (L : List (List UInt8 × List UInt8)) : List UInt8 := L.flatMap fun p => p.1 ++ 32 :: p.2 ++ [10]
theorem linesB_cons (p : List UInt8 × List UInt8) (t : List (List UInt8 × List UInt8)) : linesB (p :: t) = p.1 ++ 32 :: (p.2 ++ 10 :: linesB t) := by
  unfold linesB
  rw [List.flatMap_cons]
  simp
theorem linesB_len (L : List (List UInt8 × List UInt8)) : L.length ≤ (linesB L).length := by
  induction L with
  | nil => exact Nat.le_refl _
  | cons p t ih =>
    rw [linesB_cons]
    simp only [List.length_append, List.length_cons]
    omega
/-- A line as it should be: a word, a blank, a value. -/
def FineL (p : List UInt8 × List UInt8) : Prop := (32 : UInt8) ∉ p.1 ∧ (10 : UInt8) ∉ p.1 ∧ (10 : UInt8) ∉ p.2
/-- What lines make of what was asked so far; or the place of the first that can't be. -/
def runP (c : CP) (st : List (List UInt8)) : List (List UInt8 × List UInt8) → Nat ⊕ CP
  | [] => .inr c
  | p :: t => if (decide (st = []) != decide (p.1 = wJob)) = true ∨ p.1 ∈ st then .inl st.length else
    match setP c p.1 p.2 with
    | none => .inl st.length
    | some c' => runP c' (st ++ [p.1]) t
/-- What a text of lines tells: what is asked, or the place of a fault. -/
def tellP (L : List (List UInt8 × List UInt8)) : Nat ⊕ CP :=
  match runP ⟨0, 0, 0, 1, 1000000⟩ [] L with
  | .inl i => .inl i
  | .inr c => if c.size = 0 ∨ (c.kind = 3 ∧ c.sup = 0) then .inl L.length else .inr c
end Go.Proofs.YtbbdammdiplagaaGreatDoor
