/- Lines that no act makes; pure. -/
import Derived.Test.YtilhjhmlkbeokaaDoorAlive25
namespace Go.Proofs.YtilhjhmlkbeokaaDoor
open Go.RowKit

def badW : Nat → List UInt8
  | 0 => []
  | 1 => [119, 111, 114, 107]
  | 2 => [112, 97, 115, 115, 32, 48]
  | 3 => [100, 101, 108, 105, 118, 101, 114, 32, 48, 48]
  | 4 => [99, 114, 97, 115, 104, 32, 49, 50, 51, 52, 53, 54, 55]
  | _ => [32, 112, 97, 115, 115]
def badL (i : Nat) : List UInt8 := badW i ++ [10]
theorem badW_len (i : Nat) : (badW i).length ≤ 13 := by
  match i with
  | 0 => decide
  | 1 => decide
  | 2 => decide
  | 3 => decide
  | 4 => decide
  | (n + 5) => show ([32, 112, 97, 115, 115] : List UInt8).length ≤ 13; decide
theorem parted {a : Int × Int} (ha : goodA a = true) {p q : List UInt8} (hp : (32 : UInt8) ∉ p) (h : lineB a = p ++ 32 :: q) : a.1 ≤ 3 ∧ wordB a.1 = p ∧ Lib.decDigits a.2.toNat = q := by
  obtain ⟨a0, a5, _⟩ := good_iff.1 ha
  unfold lineB at h
  by_cases h3 : a.1 ≤ 3
  · rw [if_pos h3] at h
    exact ⟨h3, split_inj (word_no a0 a5).1 hp h⟩
  · rw [if_neg h3, List.append_nil] at h
    exact absurd (by rw [h]; simp) (word_no a0 a5).1
theorem badW_no (i : Nat) (a : Int × Int) (ha : goodA a = true) : lineB a ≠ badW i := by
  intro h
  obtain ⟨a0, a5, a2, a6, _⟩ := good_iff.1 ha
  match i with
  | 0 => exact line_ne ha h
  | 1 =>
    exact noLine_word (k := 0) (by decide) (by decide) [] a [] ha (by rw [h]; rfl)
  | 2 =>
    obtain ⟨h3, hw, _⟩ := parted ha (p := wordB 4) (q := [48]) (by decide) h
    have := word_inj a0 a5 (by decide) (by decide) hw
    omega
  | 3 =>
    obtain ⟨_, _, hd⟩ := parted ha (p := wordB 1) (q := [48, 48]) (by decide) h
    have h1 := atoi_dec a.2.toNat (by omega)
    rw [hd, show Lib.atoiAll [48, 48] = .ok 0 by decide] at h1
    injection h1 with h1
    rw [show a.2.toNat = 0 by omega, Lib.decDigits_one (by decide)] at hd
    exact absurd hd (by decide)
  | 4 =>
    obtain ⟨_, _, hd⟩ := parted ha (p := wordB 3) (q := [49, 50, 51, 52, 53, 54, 55]) (by decide) h
    have h1 := (dec_len_iff a.2.toNat 6 (by decide)).2 (by omega)
    rw [hd] at h1
    exact absurd h1 (by decide)
  | (n + 5) =>
    obtain ⟨_, hw, _⟩ := parted ha (p := []) (q := [112, 97, 115, 115]) (by decide) h
    exact word_ne a0 a5 hw
theorem badW_end (i : Nat) : (10 : UInt8) ∉ badW i := by
  match i with
  | 0 => decide
  | 1 => decide
  | 2 => decide
  | 3 => decide
  | 4 => decide
  | (n + 5) => show (10 : UInt8) ∉ ([32, 112, 97, 115, 115] : List UInt8); decide
theorem bad_parses {L : List (Int × Int)} (h : ∀ a ∈ L, goodA a = true) (i : Nat) (q : List UInt8) : Parses (textB L ++ (badL i ++ q)) L (badL i ++ q) := by
  refine ⟨rfl, h, ?_⟩
  unfold badL
  rw [List.append_assoc]
  exact noLine_cut (badW_end i) (badW_no i)
end Go.Proofs.YtilhjhmlkbeokaaDoor
