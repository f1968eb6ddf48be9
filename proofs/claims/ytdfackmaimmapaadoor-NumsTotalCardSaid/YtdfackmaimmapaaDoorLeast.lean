/- nums.Least; a row that the call owns as numbers. -/
import Derived.Test.YtdfackmaimmapaaDoorTold
namespace Go.Proofs.YtdfackmaimmapaaDoor
open Go.RowKit

theorem own_intsV {w : World} {base e : Nat} {v : Value} {n : Nat} {Z : Nat → Int} (h : w.ownsRow base e 1 v n ((List.range n).map fun i => Value.int .i64 (Z i))) : IntsV w v n Z := by
  have h0 := h
  obtain ⟨hl, hc⟩ := h
  rcases Nat.eq_zero_or_pos n with rfl | hp
  · rcases hc with ⟨rfl, _⟩ | ⟨g, cap, cur, rfl, _⟩
    · exact Or.inl ⟨rfl, _, _, rfl⟩
    · exact Or.inl ⟨rfl, _, _, rfl⟩
  · rcases hc with ⟨_, hn⟩ | ⟨g, cap, cur, rfl, _⟩
    · omega
    · exact Or.inr ⟨hp, g, 0, cap, rfl, fun i hi => by rw [Nat.zero_add, h0.cellAt i (by omega)]; simp [hi]⟩

/-- The least of some numbers. -/
def LeastIs (Z : Nat → Int) (n : Nat) (L : Int) : Prop := (∃ i, i < n ∧ L = Z i) ∧ ∀ i, i < n → L ≤ Z i
def LeastTells (Z : Nat → Int) (n : Nat) (w : World) (e : Ending) (w' : World) : Prop := ∃ L : Int, e = .returned (.tuple #[.int .i64 L, .bool true]) ∧ LeastIs Z n L ∧ w = w'

set_option maxHeartbeats 400000 in
theorem least_any (b off len cap : Nat) (Z : Nat → Int) (w : World) (l0 : 0 < len) (hlen : len ≤ 100000)
    (hc : ∀ i, i < len → w.cell? ⟨b, off + i, none⟩ = some (.int .i64 (Z i))) :
    Calls Tryd.prog 22 #[.slice (some ⟨b, off, none⟩) len cap] w (LeastTells Z len w) := by
  have HC := Lib.hid hc; clear hc
  have hd : ((len : Int) == 0) = false := beq_eq_false_iff_ne.2 (by omega)
  have hc0 := HC.out 0 l0
  rw [Nat.add_zero] at hc0
  go_enter Tryd.func22, Tryd.ntmps22
  go_wp2
  go_loop [4, 15] (fun v i => ∃ (k : Nat) (L : Int), k ≤ len ∧ i = .int .i64 k ∧ v = .int .i64 L ∧ (∃ i, i < len ∧ L = Z i) ∧ ∀ i, i < k → L ≤ Z i) (fun _ i => len - (intOf i).toNat)
  case atStart => exact ⟨0, Z 0, Nat.zero_le _, rfl, rfl, ⟨0, l0, rfl⟩, fun i hi => by omega⟩
  case round =>
    obtain ⟨k, L, hk, rfl, rfl, hex, hle⟩ := hrel
    have HEX := Lib.hid hex; have HLE := Lib.hid hle
    clear hex hle
    by_cases hlt : k < len
    · have hcell := HC.out k hlt
      have hz : ∃ z, z = Z k := ⟨_, rfl⟩
      obtain ⟨z, hz⟩ := hz
      rw [← hz] at hcell
      have HZ := Lib.hid hz; clear hz
      rcases Int.lt_or_le z L with hm | hm
      · go_wp2
        go_round
        case rel => exact ⟨k + 1, z, by omega, by go_num, rfl, ⟨k, hlt, HZ.out⟩, fun i hi => by
          rcases (by omega : i < k ∨ i = k) with h | rfl
          · have := HLE.out i h; omega
          · rw [HZ.out]; omega⟩
        case measure => simp [intOf]; omega
      · go_wp2
        go_round
        case rel => exact ⟨k + 1, L, by omega, by go_num, rfl, HEX.out, fun i hi => by
          rcases (by omega : i < k ∨ i = k) with h | rfl
          · exact HLE.out i h
          · rw [← HZ.out]; exact hm⟩
        case measure => simp [intOf]; omega
    · obtain rfl : k = len := by omega
      go_wp2
      go_ret2
      exact ⟨L, rfl, ⟨HEX.out, HLE.out⟩, rfl⟩

theorem choose_neg (a b : Int) (w : World) (hb : b < 0) (ha : 0 ≤ a) :
    Calls Tryd.prog 19 #[.int .i64 a, .int .i64 b] w fun e w' => e = .returned (.tuple #[.int .i64 0, .iface 59 (.pointer (some ⟨w.heap.size, 0, none⟩))]) ∧ w.alloc (.cells #[.int .i64 1, .int .i64 0, .string ⟨#[99, 104, 111, 105, 99, 101]⟩] 62) = w' := by
  have d0 : decide (a < 0) = false := decide_eq_false (by omega)
  have d1 : decide (b < 0) = true := decide_eq_true hb
  go_enter Tryd.func19, Tryd.ntmps19
  go_wp2_with (go_at_call 31; refine (new_any _ _ _ _).mono ?_; rintro e w' ⟨rfl, rfl⟩)
  go_ret2
  exact ⟨rfl, rfl⟩
end Go.Proofs.YtdfackmaimmapaaDoor
