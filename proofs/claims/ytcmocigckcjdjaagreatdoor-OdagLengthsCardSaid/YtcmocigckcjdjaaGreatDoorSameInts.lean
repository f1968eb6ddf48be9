/- The document's SameInts. -/
import Derived.Test.YtcmocigckcjdjaaGreatDoorInts
import Derived.Test.YtcmocigckcjdjaaGreatDoorFault
import Derived.Lib.Hide
import Derived.Deep.LoopGhost
import Derived.Deep.DeepCutAuto
import Derived.Deep.QuietTactic
import Derived.BigQuiet
import Derived.WalkSmall
namespace Go.Proofs.YtcmocigckcjdjaaGreatDoor
open Go.RowKit

/-- Are the first k numbers the same? -/
def eqUpto (Z Y : Nat → Int) : Nat → Bool
  | 0 => true
  | k + 1 => eqUpto Z Y k && (Z k == Y k)
theorem eqUpto_iff {Z Y : Nat → Int} : ∀ {n : Nat}, eqUpto Z Y n = true ↔ ∀ i, i < n → Z i = Y i
  | 0 => by simp [eqUpto]
  | n + 1 => by
    rw [eqUpto, Bool.and_eq_true, eqUpto_iff, beq_iff_eq]
    constructor
    · rintro ⟨h1, h2⟩ i hi
      rcases (by omega : i < n ∨ i = n) with h | rfl
      · exact h1 i h
      · exact h2
    · intro h
      exact ⟨fun i hi => h i (by omega), h n (by omega)⟩
theorem eqUpto_no {Z Y : Nat → Int} {n k : Nat} (hk : k < n) (h : Z k ≠ Y k) : eqUpto Z Y n = false := by
  cases he : eqUpto Z Y n with
  | false => rfl
  | true => exact absurd (eqUpto_iff.1 he k hk) h
def sameI (Z : Nat → Int) (n : Nat) (Y : Nat → Int) (m : Nat) : Bool := decide (n = m) && eqUpto Z Y n

set_option maxRecDepth 100000 in
set_option maxHeartbeats 1000000 in
theorem sameInts_any (n m : Nat) (Z Y : Nat → Int) (v u : Value) (w : World) (h : IntsV w v n Z) (k : IntsV w u m Y) (hl : n ≤ 1000000000) :
    Calls Tryz.prog 24 #[v, u] w fun e w' => e = .returned (.bool (sameI Z n Y m)) ∧ ∃ d, w' = w.drewN d := by
  obtain ⟨A, c, rfl⟩ := h.form
  obtain ⟨B, c', rfl⟩ := k.form
  have H := Lib.hid h
  have K := Lib.hid k
  clear h k
  by_cases hnm : n = m
  · subst hnm
    have t0 : ((n : Int) != n) = false := by simp
    have hS : Hid (sameI Z n Y n = eqUpto Z Y n) := Lib.hid (by simp [sameI])
    go_enter Tryz.func24, Tryz.ntmps24
    go_wp2
    go_loopg [5] n (fun g z wr => ∃ k, k ≤ n ∧ g = n - k ∧ z = .int .i64 (k : Nat) ∧ eqUpto Z Y k = true ∧ ∃ d, wr = w.drewN d)
    case atStart => exact ⟨0, by omega, rfl, rfl, rfl, 0, rfl⟩
    case round =>
      obtain ⟨k, hk, rfl, rfl, he, d, rfl⟩ := hrel
      have HE := Lib.hid he
      clear he
      by_cases hlt : k < n
      · obtain ⟨b, off, rfl, hcell⟩ := H.out.pos hlt
        obtain ⟨b', off', rfl, hcell'⟩ := K.out.pos hlt
        have hc := hcell k hlt
        have hc' := hcell' k hlt
        obtain ⟨z, hz⟩ : ∃ z : Int, Z k = z := ⟨_, rfl⟩
        obtain ⟨y, hy⟩ : ∃ z : Int, Y k = z := ⟨_, rfl⟩
        have HZ := Lib.hid hz; have HY := Lib.hid hy
        rw [hz] at hc
        rw [hy] at hc'
        have t1 : decide (k < n) = true := decide_eq_true hlt
        have i0' : (0 : Int) ≤ k := by omega
        have i1' : (k : Int) < n := by omega
        have HLT := Lib.hid hlt
        clear hz hy hcell hcell'
        by_cases hzy : z = y
        · have t2 : (z != y) = false := by simp [hzy]
          have HK : Hid (eqUpto Z Y (k + 1) = true) := Lib.hid (by rw [eqUpto, HE.out, HZ.out, HY.out]; simp [hzy])
          clear hzy
          go_wp2
          go_quiet (fail)
          go_wp2
          go_roundg (n - (k + 1))
          case rel => exact ⟨k + 1, HLT.out, rfl, by go_num, HK.out, _, rfl⟩
          case measure => have := HLT.out; omega
        · have t2 : (z != y) = true := by simp [hzy]
          have HK : Hid (eqUpto Z Y n = false) := Lib.hid (eqUpto_no HLT.out (by rw [HZ.out, HY.out]; exact hzy))
          clear hzy
          go_wp2
          go_quiet (fail)
          go_wp2
          go_ret
          exact ⟨by rw [hS.out, HK.out]; rfl, _, by rw [World.drewN_drewN]⟩
      · obtain rfl : k = n := by omega
        have t1 : decide (k < k) = false := by simp
        clear hlt
        go_wp2
        go_ret
        exact ⟨by rw [hS.out, HE.out]; rfl, _, rfl⟩
  · have t0 : ((n : Int) != m) = true := by simp; omega
    have hS : Hid (sameI Z n Y m = false) := Lib.hid (by simp [sameI, hnm])
    clear hnm
    go_enter Tryz.func24, Tryz.ntmps24
    go_wp2
    go_ret
    exact ⟨by rw [hS.out]; rfl, 0, rfl⟩
end Go.Proofs.YtcmocigckcjdjaaGreatDoor
