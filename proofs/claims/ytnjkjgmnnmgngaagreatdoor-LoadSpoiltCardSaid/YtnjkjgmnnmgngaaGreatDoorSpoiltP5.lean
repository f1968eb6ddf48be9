/- Lines that can't be; pure. -/
import Derived.Test.YtnjkjgmnnmgngaaGreatDoorJ14
namespace Go.Proofs.YtnjkjgmnnmgngaaGreatDoor
open Go.RowKit

/-- A bad line, without its end. -/
def badP : Nat → List UInt8
  | 0 => [120, 32, 48, 32, 48]
  | 1 => [101, 32, 48]
  | 2 => [101, 32, 48, 32, 32, 49]
  | 3 => [101, 32, 48, 49, 32, 49]
  | 4 => []
  | 5 => [101, 32, 48, 32, 49, 32]
  | 6 => [101, 32, 48, 32, 57, 57, 57, 57, 57, 57, 57]
  | _ => [118, 32, 57, 57, 32, 48]
def badS (i : Nat) : List UInt8 := badP i ++ [10]
theorem badP_no (i : Nat) : (10 : UInt8) ∉ badP i := by unfold badP; split <;> decide
theorem badS_len (i : Nat) : (badS i).length ≤ 12 := by unfold badS badP; split <;> decide
theorem num_zero : numB6 [48] = some 0 := by
  have e : Lib.decDigits 0 = [48] := by kernel_rfl
  rw [← e]; exact numB6_dec (m := 0) (by decide)
theorem num_one : numB6 [49] = some 1 := by
  have e : Lib.decDigits 1 = [49] := by kernel_rfl
  rw [← e]; exact numB6_dec (m := 1) (by decide)
theorem num_99 : numB6 [57, 57] = some 99 := by
  have e : Lib.decDigits 99 = [57, 57] := by kernel_rfl
  rw [← e]; exact numB6_dec (m := 99) (by decide)
theorem num_01 : numB6 [48, 49] = none := by
  cases h : numB6 [48, 49] with
  | none => rfl
  | some x =>
    obtain ⟨a, b, c⟩ := numB6_some h
    have hl := (dec_len_iff x.toNat 1 (by decide)).1
    have h10 : ¬ x.toNat < 10 := fun hx => by
      have := (dec_len_iff x.toNat 1 (by decide)).2 (by omega)
      rw [c] at this
      exact absurd this (by decide)
    have h1 : (Lib.atoiAll [48, 49]) = .ok x := by rw [← c, atoi_dec x.toNat (by omega), Int.toNat_of_nonneg a]
    have h2 : (Lib.atoiAll [48, 49]) = .ok 1 := by kernel_rfl
    rw [h1] at h2
    injection h2 with h2
    omega
theorem num_long : numB6 [57, 57, 57, 57, 57, 57, 57] = none := by
  cases h : numB6 [57, 57, 57, 57, 57, 57, 57] with
  | none => rfl
  | some x =>
    obtain ⟨a, b, c⟩ := numB6_some h
    have := (dec_len_iff x.toNat 6 (by decide)).2 (by omega)
    rw [c] at this
    exact absurd this (by decide)
theorem bad_take {L : List Int} {S : List (Int × Int)} (hL : L.length ≤ 10) (i : Nat) : takeL ⟨L, S⟩ (badP i) = none := by
  unfold takeL badP
  split
  · rw [words_eq (s := [120, 32, 48, 32, 48]) (P := [[120], [48], [48]]) (by simp) rfl (by decide), take_three, num_zero]
    simp
  · rw [words_eq (s := [101, 32, 48]) (P := [[101], [48]]) (by simp) rfl (by decide)]; rfl
  · rw [words_eq (s := [101, 32, 48, 32, 32, 49]) (P := [[101], [48], [], [49]]) (by simp) rfl (by decide)]; rfl
  · rw [words_eq (s := [101, 32, 48, 49, 32, 49]) (P := [[101], [48, 49], [49]]) (by simp) rfl (by decide)]; exact takeW_no1 num_01
  · rw [words_eq (s := []) (P := [[]]) (by simp) rfl (by decide)]; rfl
  · rw [words_eq (s := [101, 32, 48, 32, 49, 32]) (P := [[101], [48], [49], []]) (by simp) rfl (by decide)]; rfl
  · rw [words_eq (s := [101, 32, 48, 32, 57, 57, 57, 57, 57, 57, 57]) (P := [[101], [48], [57, 57, 57, 57, 57, 57, 57]]) (by simp) rfl (by decide)]; exact takeW_no2 num_long
  · rw [words_eq (s := [118, 32, 57, 57, 32, 48]) (P := [[118], [57, 57], [48]]) (by simp) rfl (by decide), take_three, num_99, num_zero]
    simp
    omega
theorem load_bad {L : List Int} {S : List (Int × Int)} (h : newFault L S = none) (hL : L.length ≤ 10) (i : Nat) : loadT ((graphT L S ++ badS i) ++ [101, 32, 48, 32, 49, 10]) = .inl ((L.length + S.length : Nat) : Int) := by
  have hs := small_of h
  unfold loadT
  rw [show (graphT L S ++ badS i) ++ [101, 32, 48, 32, 49, 10] = graphT L S ++ (badP i ++ 10 :: [101, 32, 48, 32, 49, 10]) by unfold badS; simp, text_bad (by have := hs.n; omega) hs.l hs.s (badP_no i) (bad_take hL i)]
theorem none_empty {L : List Int} {E : List (Int × Int)} (h : newFault L E = none) : newFault L [] = none := by
  obtain ⟨h1, h2, h3, h4⟩ := newFault_none.1 h
  exact newFault_none.2 ⟨h1, by decide, h3, by simp, fun e he => by cases he⟩
theorem spoilt_odd {L : List Int} {E : List (Int × Int)} (h : newFault L E = none) : bytesG (parcel 1 (listB L ++ listB [0])) = none := by
  have hs := small_of h
  rw [bytes_parcel 1 _ (by rw [List.length_append, listB_len, listB_len]; have := hs.n; simp; omega), if_pos rfl, body_lists (newFault_none.1 h).1 (by decide) (fun x hx => by have := hs.l x hx; omega) (by decide)]
  rfl
theorem spoilt_kind {L : List Int} {E : List (Int × Int)} (h : newFault L E = none) : bytesG (parcel 2 (listB L ++ listB [])) = none := by
  have hs := small_of h
  rw [bytes_parcel 2 _ (by rw [List.length_append, listB_len, listB_len]; have := hs.n; simp; omega), if_neg (by decide)]
theorem spoilt_good {L : List Int} {E : List (Int × Int)} (h : newFault L E = none) : bytesG (parcel 1 (listB L ++ listB [])) = some ⟨L, []⟩ := by
  have hs := small_of h
  rw [bytes_parcel 1 _ (by rw [List.length_append, listB_len, listB_len]; have := hs.n; simp; omega), if_pos rfl, body_lists (newFault_none.1 h).1 (by decide) (fun x hx => by have := hs.l x hx; omega) (by decide)]
  rw [if_pos ⟨rfl, none_empty h⟩]
  rfl
end Go.Proofs.YtnjkjgmnnmgngaaGreatDoor
