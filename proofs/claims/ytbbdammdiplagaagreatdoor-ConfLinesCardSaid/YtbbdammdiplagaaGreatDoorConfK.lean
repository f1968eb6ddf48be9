/- Lines of a job's text, keep among them; pure. -/
import Derived.Test.YtbbdammdiplagaaGreatDoorConfP
import Derived.Test.YtbbdammdiplagaaGreatDoorParse17
namespace Go.Proofs.YtbbdammdiplagaaGreatDoor
open Classical in
/-- The program of a text, where it has one. -/
noncomputable def keepV (v : List UInt8) : Option (List (Int × Int)) := if h : ∃ O, progF O = none ∧ progT O = v then some h.choose else none
theorem progT_inj {A B : List (Int × Int)} (ha : progF A = none) (hb : progF B = none) (h : progT A = progT B) : A = B := by
  have r0 := (progF_none.1 ha).2
  have r1 := (progF_none.1 hb).2
  by_cases h0 : A = []
  · subst h0
    exact (progT_nil r1 h.symm).symm
  · have h0' : B ≠ [] := fun e => by subst e; exact h0 (progT_nil r0 h)
    have a := parts_of r0 (P := A.map opT) (by simpa using h0) h0 (opT_parts A) rfl
    have b := parts_of r1 (P := A.map opT) (by simpa using h0) h0' (opT_parts A) h.symm
    rw [a] at b
    injection b
theorem keepV_some {O : List (Int × Int)} (h : progF O = none) : keepV (progT O) = some O := by
  have hx : ∃ P, progF P = none ∧ progT P = progT O := ⟨O, h, rfl⟩
  unfold keepV
  rw [dif_pos hx]
  exact congrArg some (progT_inj hx.choose_spec.1 h hx.choose_spec.2)
theorem keepV_of {O : List (Int × Int)} {v : List UInt8} (h : keepV v = some O) : progF O = none ∧ progT O = v := by
  unfold keepV at h
  by_cases hx : ∃ P, progF P = none ∧ progT P = v
  · rw [dif_pos hx] at h
    injection h with h
    rw [← h]
    exact hx.choose_spec
  · rw [dif_neg hx] at h; cases h
theorem keepV_no {v : List UInt8} (h : ∀ O, progF O = none → progT O ≠ v) : keepV v = none := by
  unfold keepV
  rw [dif_neg]
  rintro ⟨O, h1, h2⟩
  exact h O h1 h2
/-- What Parse tells, by keepV. -/
theorem ParseTo.none {s : List UInt8} {P : List (List UInt8)} {c p : Int} (hs : s ≠ []) (hP : P ≠ []) (hj : joinB 59 P = s) (hx : ∀ x ∈ P, (59 : UInt8) ∉ x) (hor : (c = 2 ∧ ∃ k, parseL P = .inl k) ∨ ∃ O, parseL P = .inr O ∧ progF O = some (c, p)) : keepV s = none := by
  refine keepV_no (fun O h1 h2 => ?_)
  have r0 := (progF_none.1 h1).2
  have h0 : O ≠ [] := fun e => by subst e; exact hs h2.symm
  have a := parts_of r0 hP h0 hx (h2.trans hj.symm)
  rcases hor with ⟨_, k, hk⟩ | ⟨O', h3, h4⟩
  · rw [a] at hk; cases hk
  · rw [a] at h3
    injection h3 with h3
    rw [← h3, h1] at h4
    cases h4
/-- What is asked, the tests too. -/
structure CK where
  c : CP
  o : List (Int × Int)
def keepC (c : CP) : Option (List (Int × Int)) → Option CK
  | some O => if O ≠ [] ∧ O.length ≤ 15 then some ⟨c, O⟩ else none
  | none => none
noncomputable def setK (x : CK) (wd v : List UInt8) : Option CK :=
  if wd = wKeep then keepC x.c (keepV v)
  else (setP x.c wd v).map fun c => ⟨c, x.o⟩
/-- A text's first line, its word, its value, the rest; and whether it ends, and is parted. -/
def lineOf (s : List UInt8) : List UInt8 := (Lib.cut s [10]).1
def restOf (s : List UInt8) : List UInt8 := (Lib.cut s [10]).2.1
def endsB (s : List UInt8) : Bool := (Lib.cut s [10]).2.2
def wordOf (s : List UInt8) : List UInt8 := (Lib.cut (lineOf s) [32]).1
def valOf (s : List UInt8) : List UInt8 := (Lib.cut (lineOf s) [32]).2.1
def partB (s : List UInt8) : Bool := (Lib.cut (lineOf s) [32]).2.2
/-- What a text makes of what was asked so far, in so many lines at most. -/
noncomputable def runK : Nat → CK → List (List UInt8) → List UInt8 → Nat ⊕ CK × Nat
  | 0, x, st, _ => .inr (x, st.length)
  | n + 1, x, st, s => if s = [] then .inr (x, st.length) else
    if endsB s = false ∨ partB s = false ∨ (decide (st = []) != decide (wordOf s = wJob)) = true ∨ wordOf s ∈ st then .inl st.length else
    match setK x (wordOf s) (valOf s) with
    | none => .inl st.length
    | some x' => runK n x' (st ++ [wordOf s]) (restOf s)
def ck0 : CK := ⟨⟨0, 0, 0, 1, 1000000⟩, []⟩
/-- What a text tells. -/
noncomputable def tellK (s : List UInt8) : Nat ⊕ CK :=
  match runK s.length ck0 [] s with
  | .inl i => .inl i
  | .inr (x, k) => if x.c.size = 0 ∨ (x.c.kind = 3 ∧ x.c.sup = 0) then .inl k else .inr x
theorem rest_len {s : List UInt8} (h : s ≠ []) : (restOf s).length < s.length := by
  unfold restOf
  rcases cut_cases s 10 with hn | ⟨p, q, rfl, hp⟩
  · rw [cut_no hn]
    exact List.length_pos_iff.2 h
  · rw [cut_yes hp]
    simp
    omega
theorem runK_nil (n : Nat) (x : CK) (st : List (List UInt8)) : runK n x st [] = .inr (x, st.length) := by cases n <;> simp [runK]
theorem runK_bad {n : Nat} {x : CK} {st : List (List UInt8)} {s : List UInt8} (hs : s ≠ []) (h : endsB s = false ∨ partB s = false ∨ (decide (st = []) != decide (wordOf s = wJob)) = true ∨ wordOf s ∈ st) : runK (n + 1) x st s = .inl st.length := by
  rw [runK, if_neg hs, if_pos h]
theorem runK_none {n : Nat} {x : CK} {st : List (List UInt8)} {s : List UInt8} (hs : s ≠ []) (h : setK x (wordOf s) (valOf s) = none) : runK (n + 1) x st s = .inl st.length := by
  rw [runK, if_neg hs]
  split
  · rfl
  · rw [h]
theorem runK_step {n : Nat} {x x' : CK} {st : List (List UInt8)} {s : List UInt8} (hs : s ≠ []) (h1 : endsB s = true) (h2 : partB s = true) (h3 : (decide (st = []) != decide (wordOf s = wJob)) = false) (h4 : wordOf s ∉ st) (h : setK x (wordOf s) (valOf s) = some x') : runK (n + 1) x st s = runK n x' (st ++ [wordOf s]) (restOf s) := by
  rw [runK, if_neg hs, if_neg, h]
  rintro (g | g | g | g)
  · rw [h1] at g; cases g
  · rw [h2] at g; cases g
  · rw [h3] at g; cases g
  · exact h4 g
end Go.Proofs.YtbbdammdiplagaaGreatDoor
