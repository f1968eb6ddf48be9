/- perm.Right, check, may, Id: contracts. -/
import Derived.Test.YtgolcogigpnbeaaGreatDoorSameInts
import Derived.Laws.Rows
namespace Go.Proofs.YtgolcogigpnbeaaGreatDoor
open Go.RowKit

theorem Tryz.infoInt : (Tryz.prog.info? 3).map (fun i => (i.zero, i.size, i.bytes)) = some (some (.int .i64 0), 1, 8) := by kernel_rfl

/-- Does a number stand among the first k? -/
def seen (Z : Nat → Int) (x : Int) : Nat → Bool
  | 0 => false
  | k + 1 => seen Z x k || (Z k == x)
theorem seen_iff {Z : Nat → Int} {x : Int} : ∀ {k : Nat}, seen Z x k = true ↔ ∃ j, j < k ∧ Z j = x
  | 0 => by simp [seen]
  | k + 1 => by
    rw [seen, Bool.or_eq_true, seen_iff, beq_iff_eq]
    constructor
    · rintro (⟨j, h1, h2⟩ | h)
      · exact ⟨j, by omega, h2⟩
      · exact ⟨k, by omega, h⟩
    · rintro ⟨j, h1, h2⟩
      rcases (by omega : j < k ∨ j = k) with h | rfl
      · exact Or.inl ⟨j, h, h2⟩
      · exact Or.inr h2
/-- Are the first k of n numbers below n, each once? -/
def fineB (n : Nat) (Z : Nat → Int) : Nat → Bool
  | 0 => true
  | k + 1 => fineB n Z k && (decide (0 ≤ Z k) && decide (Z k < n) && !(seen Z (Z k) k))
def rightB (n : Nat) (Z : Nat → Int) : Bool := decide (n ≤ 8) && fineB n Z n
theorem fineB_no {n : Nat} {Z : Nat → Int} {k : Nat} : ∀ {m : Nat}, k < m → (decide (0 ≤ Z k) && decide (Z k < n) && !(seen Z (Z k) k)) = false → fineB n Z m = false
  | 0, h, _ => by omega
  | m + 1, h, hk => by
    rcases (by omega : k < m ∨ k = m) with h1 | rfl
    · rw [fineB, fineB_no h1 hk, Bool.false_and]
    · rw [fineB, hk, Bool.and_false]
theorem fineB_iff {n : Nat} {Z : Nat → Int} : ∀ {k : Nat}, fineB n Z k = true ↔ ∀ i, i < k → (0 ≤ Z i ∧ Z i < n) ∧ ∀ j, j < i → Z j ≠ Z i
  | 0 => by simp [fineB]
  | k + 1 => by
    rw [fineB, Bool.and_eq_true, fineB_iff]
    constructor
    · rintro ⟨h1, h2⟩ i hi
      rcases (by omega : i < k ∨ i = k) with h | rfl
      · exact h1 i h
      · simp at h2
        refine ⟨h2.1, fun j hj he => ?_⟩
        have := seen_iff.2 ⟨j, hj, he⟩
        rw [h2.2] at this
        cases this
    · intro h
      refine ⟨fun i hi => h i (by omega), ?_⟩
      obtain ⟨⟨h1, h2⟩, h3⟩ := h k (by omega)
      have h4 : seen Z (Z k) k = false := by
        cases hs : seen Z (Z k) k with
        | false => rfl
        | true =>
          obtain ⟨j, hj, he⟩ := seen_iff.1 hs
          exact absurd he (h3 j hj)
      simp [h1, h2, h4]
/-- An order of n things. -/
structure Order (n : Nat) (Z : Nat → Int) : Prop where
  le8 : n ≤ 8
  rng : ∀ i, i < n → 0 ≤ Z i ∧ Z i < n
  inj : ∀ i j, i < n → j < n → Z i = Z j → i = j
theorem rightB_iff {n : Nat} {Z : Nat → Int} : rightB n Z = true ↔ Order n Z := by
  rw [rightB, Bool.and_eq_true, fineB_iff, decide_eq_true_eq]
  constructor
  · rintro ⟨h1, h2⟩
    refine ⟨h1, fun i hi => (h2 i hi).1, fun i j hi hj he => ?_⟩
    rcases (by omega : i < j ∨ i = j ∨ j < i) with h | h | h
    · exact absurd he ((h2 j hj).2 i h)
    · exact h
    · exact absurd he.symm ((h2 i hi).2 j h)
  · intro h
    exact ⟨h.le8, fun i hi => ⟨h.rng i hi, fun j hj he => by have := h.inj j i (by omega) hi he; omega⟩⟩

/-- Which numbers up to 7 stood among the first k. -/
def stood (Z : Nat → Int) (k : Nat) : Array Value := #[.bool (seen Z 0 k), .bool (seen Z 1 k), .bool (seen Z 2 k), .bool (seen Z 3 k), .bool (seen Z 4 k), .bool (seen Z 5 k), .bool (seen Z 6 k), .bool (seen Z 7 k)]
theorem stood_at (Z : Nat → Int) (k m : Nat) (hm : m < 8) : (stood Z k)[m]? = some (.bool (seen Z m k)) := by
  match m, hm with
  | 0, _ => rfl
  | 1, _ => rfl
  | 2, _ => rfl
  | 3, _ => rfl
  | 4, _ => rfl
  | 5, _ => rfl
  | 6, _ => rfl
  | 7, _ => rfl
theorem stood_set (Z : Nat → Int) (k m : Nat) (hm : m < 8) (hz : Z k = m) : (stood Z k).setIfInBounds m (.bool true) = stood Z (k + 1) := by
  unfold stood
  simp only [seen, hz]
  match m, hm with
  | 0, _ => simp
  | 1, _ => simp
  | 2, _ => simp
  | 3, _ => simp
  | 4, _ => simp
  | 5, _ => simp
  | 6, _ => simp
  | 7, _ => simp

set_option maxRecDepth 100000 in
set_option maxHeartbeats 2000000 in
theorem permRight_any (n : Nat) (Z : Nat → Int) (v : Value) (w : World) (h : IntsV w v n Z) :
    Calls Tryz.prog 83 #[v] w fun e w' => e = .returned (.bool (rightB n Z)) ∧ Below w.heap.size w w' := by
  obtain ⟨A, c, rfl⟩ := h.form
  by_cases hn : 8 < n
  · have t1 : decide ((8 : Int) < n) = true := decide_eq_true (by omega)
    have hF : Hid (rightB n Z = false) := Lib.hid (by simp [rightB]; omega)
    clear h hn
    go_enter Tryz.func83, Tryz.ntmps83
    go_wp2_with fail
    go_ret
    exact ⟨by rw [hF.out]; rfl, Below.refl _ _⟩
  · have t1 : decide ((8 : Int) < n) = false := decide_eq_false (by omega)
    have hn8 : n ≤ 8 := by omega
    have hF : Hid (rightB n Z = fineB n Z n) := Lib.hid (by simp [rightB, hn8])
    have H := Lib.hid h
    have HW := Lib.hid (Whole.new w 154 #[.bool false, .bool false, .bool false, .bool false, .bool false, .bool false, .bool false, .bool false])
    have HB := Lib.hid ((Below.refl w.heap.size w).alloc (Nat.le_refl _) (.cells #[.bool false, .bool false, .bool false, .bool false, .bool false, .bool false, .bool false, .bool false] 154))
    clear h hn
    go_enter Tryz.func83, Tryz.ntmps83
    go_wp2_with fail
    go_loopg [11] n (fun g i wr => ∃ k, k ≤ n ∧ g = n - k ∧ i = .int .i64 (k : Nat) ∧ fineB n Z k = true ∧ Whole wr w.heap.size 154 (stood Z k) ∧ Below w.heap.size w wr)
    case atStart => exact ⟨0, by omega, rfl, rfl, rfl, HW.out, HB.out⟩
    case round =>
      obtain ⟨k, hk, rfl, rfl, hfine, hw, hb⟩ := hrel
      have HFI := Lib.hid hfine; have HWR := Lib.hid hw; have HBR := Lib.hid hb
      clear hfine
      by_cases hlt : k < n
      · obtain ⟨b, off, rfl, hcell⟩ := (H.out.below hb (Nat.le_refl _)).pos hlt
        have hc := hcell k hlt
        obtain ⟨z, hz⟩ : ∃ z : Int, Z k = z := ⟨_, rfl⟩
        rw [hz] at hc
        have HZ := Lib.hid hz
        have HLT := Lib.hid hlt
        have i1 : (k : Int) < n := by omega
        have i2 : (0 : Int) ≤ k := by omega
        have t7 : decide (k < n) = true := decide_eq_true hlt
        clear hz hcell hlt
        by_cases hr : 0 ≤ z ∧ z < n
        · obtain ⟨hr1, hr2⟩ := hr
          obtain ⟨m, rfl⟩ : ∃ m : Nat, z = m := ⟨z.toNat, by omega⟩
          have hm8 : m < 8 := by omega
          have t2 : decide ((m : Int) < 0) = false := decide_eq_false (by omega)
          have t3 : decide ((n : Int) ≤ m) = false := decide_eq_false (by omega)
          have t3' : decide (n ≤ m) = false := decide_eq_false (by omega)
          have i3 : (m : Int) < 8 := by omega
          have ca := hw.cell m
          rw [stood_at Z k m hm8] at ca
          have cf := hw.free m
          cases hs : seen Z m k with
          | false =>
            rw [hs] at ca
            have HW2 := Lib.hid (hw.put m (.bool true))
            have HK : Hid (fineB n Z (k + 1) = true) := Lib.hid (by rw [fineB, HFI.out, HZ.out, hs]; simp; omega)
            have HST : Hid ((stood Z k).setIfInBounds m (.bool true) = stood Z (k + 1)) := Lib.hid (stood_set Z k m hm8 HZ.out)
            have HB2 := Lib.hid (hb.setCell (p := ⟨w.heap.size, m, none⟩) (Nat.le_refl _) (.bool true))
            clear hw hb hs
            go_wp2_with fail
            go_roundg (n - (k + 1))
            case rel => exact ⟨k + 1, HLT.out, rfl, by go_num, HK.out, by rw [← HST.out]; exact HW2.out, HB2.out⟩
            case measure => have := HLT.out; omega
          | true =>
            rw [hs] at ca
            have HK : Hid (fineB n Z n = false) := Lib.hid (fineB_no HLT.out (by rw [HZ.out, hs]; simp))
            clear hw hb hs
            go_wp2_with fail
            go_ret
            exact ⟨by rw [hF.out, HK.out]; rfl, HBR.out⟩
        · have HK : Hid (fineB n Z n = false) := Lib.hid (fineB_no HLT.out (by rw [HZ.out]; simp; intro h1 h2; omega))
          have hcase : (decide (z < 0) = true) ∨ (decide (z < 0) = false ∧ decide ((n : Int) ≤ z) = true) := by
            simp only [decide_eq_true_eq, decide_eq_false_iff_not]; omega
          clear hw hb hr
          rcases hcase with t2 | ⟨t2, t3⟩
          all_goals
            go_wp2_with fail
            go_ret
            exact ⟨by rw [hF.out, HK.out]; rfl, HBR.out⟩
      · obtain rfl : k = n := by omega
        have t7 : decide (k < k) = false := by simp
        clear hw hb hlt
        go_wp2_with fail
        go_ret
        exact ⟨by rw [hF.out, HFI.out]; rfl, HBR.out⟩
end Go.Proofs.YtgolcogigpnbeaaGreatDoor
