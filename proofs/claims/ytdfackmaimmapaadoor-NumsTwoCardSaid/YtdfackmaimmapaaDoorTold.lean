/- What nums tells of a number: it and nothing, or 0 and Overflow. -/
import Derived.Test.YtdfackmaimmapaaDoorTotal
import Derived.Test.YtdfackmaimmapaaDoorRules
namespace Go.Proofs.YtdfackmaimmapaaDoor
open Go.RowKit

/-- An error of a code: nothing for 0, else a fault of that code. -/
def ErrIs (c : Int) (w : World) (v : Value) : Prop :=
  (c = 0 ∧ v = .nilIface) ∨ (c ≠ 0 ∧ ∃ b : Nat, v = .iface 59 (.pointer (some ⟨b, 0, none⟩)) ∧ w.cell? ⟨b, 0, none⟩ = some (.int .i64 c))
theorem ErrIs.below {c : Int} {w w' : World} {v : Value} (h : ErrIs c w v) {B : Nat} (hb : Below B w w') (hB : w.heap.size ≤ B) : ErrIs c w' v := by
  rcases h with h | ⟨h, b, rfl, hc⟩
  · exact Or.inl h
  · have hl : b < w.heap.size := World.block_lt_of_cell? _ _ hc
    exact Or.inr ⟨h, b, rfl, (hb.cell (p := ⟨b, 0, none⟩) (Nat.lt_of_lt_of_le hl hB)).trans hc⟩
theorem ErrIs.nil {w : World} {v : Value} (h : ErrIs 0 w v) : v = .nilIface := by
  rcases h with h | ⟨h, _⟩
  · exact h.2
  · exact absurd rfl h
theorem code_is (c : Int) (v : Value) (w : World) (hg : ErrT w) (h : ErrIs c w v) :
    Calls Tryd.prog 17 #[v] w fun e w' => e = .returned (.int .i64 c) ∧ Below w.heap.size w w' := by
  rcases h with ⟨rfl, rfl⟩ | ⟨h, b, rfl, hc⟩
  · exact (code_nil w).mono fun e w' ⟨he, hw⟩ => ⟨he, hw ▸ Below.refl _ _⟩
  · exact code_hit b c w hg hc

/-- What is told of a number n: V and an error of code c. -/
def fitV (n : Int) : Int := if -9223372036854775808 ≤ n ∧ n ≤ 9223372036854775807 then n else 0
def fitC (n : Int) : Int := if -9223372036854775808 ≤ n ∧ n ≤ 9223372036854775807 then 0 else 7
def Tells (V c : Int) (w : World) (e : Ending) (w' : World) : Prop :=
  ∃ v : Value, e = .returned (.tuple #[.int .i64 V, v]) ∧ ErrIs c w' v ∧ Below w.heap.size w w'
theorem tells_ok {n : Int} {w : World} {e : Ending} {w' : World} (h : -9223372036854775808 ≤ n ∧ n ≤ 9223372036854775807) (he : e = .returned (.tuple #[.int .i64 n, .nilIface])) (hw : w = w') : Tells (fitV n) (fitC n) w e w' := by
  subst hw
  exact ⟨_, by rw [he, fitV, if_pos h], Or.inl ⟨by rw [fitC, if_pos h], rfl⟩, Below.refl _ _⟩
theorem tells_over {n : Int} {s : ByteArray} {w : World} {e : Ending} {w' : World} (h : ¬ (-9223372036854775808 ≤ n ∧ n ≤ 9223372036854775807)) (ho : Over s w e w') : Tells (fitV n) (fitC n) w e w' := by
  obtain ⟨he, hw⟩ := ho
  subst hw
  exact ⟨_, by rw [he, fitV, if_neg h], Or.inr ⟨by rw [fitC, if_neg h]; decide, _, rfl, by rw [fitC, if_neg h]; simp⟩, (Below.refl _ _).alloc (Nat.le_refl _) _⟩

theorem add_told (a b n : Int) (w : World) (hn : a + b = n) (h0 : -9223372036854775808 ≤ a) (h1 : a ≤ 9223372036854775807) (k0 : -9223372036854775808 ≤ b) (k1 : b ≤ 9223372036854775807) :
    Calls Tryd.prog 10 #[.int .i64 a, .int .i64 b] w (Tells (fitV n) (fitC n) w) := by
  subst hn
  by_cases h : -9223372036854775808 ≤ a + b ∧ a + b ≤ 9223372036854775807
  · exact (add_ok a b w h0 h1 k0 k1 h.1 h.2).mono fun e w' ⟨he, hw⟩ => tells_ok h he hw
  · exact (add_over a b w h0 h1 k0 k1 h).mono fun e w' ho => tells_over h ho

theorem mul_big (a b : Int) (w : World) (h0 : -9223372036854775808 ≤ a) (h1 : a ≤ 9223372036854775807) (k0 : -9223372036854775808 ≤ b) (k1 : b ≤ 9223372036854775807)
    (l : Int) (hl : ((a.natAbs * b.natAbs : Nat) : Int) = l) (l1 : ¬ l < 18446744073709551616) :
    Calls Tryd.prog 11 #[.int .i64 a, .int .i64 b] w (Over ⟨#[112, 114, 111, 100, 117, 99, 116]⟩ w) := by
  have hm := mul64_big a.natAbs b.natAbs l (by omega) (by omega) hl l1 w
  have ea := size_any a w h0 h1
  have eb := size_any b w k0 k1
  clear hl
  generalize a.natAbs = x at *
  generalize b.natAbs = y at *
  go_enter Tryd.func11, Tryd.ntmps11
  go_wp2_with (first | (go_at_call 25; ((with_reducible refine ea.mono ?_); rintro e w' ⟨rfl, rfl⟩)) | (go_at_call 25; ((with_reducible refine eb.mono ?_); rintro e w' ⟨rfl, rfl⟩)) | (go_at_call 24; ((with_reducible refine hm.mono ?_); rintro e w' ⟨⟨u, v, hu, rfl⟩, rfl⟩)) | (go_at_call 26; refine (signed_high u v _ _ hu).mono ?_; rintro e w' ⟨rfl, rfl⟩) | (go_at_call 23; refine (overflow_any _ _).mono ?_; rintro e w' ⟨rfl, rfl⟩))
  go_ret2
  exact ⟨rfl, rfl⟩
theorem mul_neg_over (a b : Int) (w : World) (h0 : -9223372036854775808 ≤ a) (h1 : a ≤ 9223372036854775807) (k0 : -9223372036854775808 ≤ b) (k1 : b ≤ 9223372036854775807)
    (l : Int) (hl : ((a.natAbs * b.natAbs : Nat) : Int) = l) (l0 : ¬ l ≤ 9223372036854775808) (l1 : l < 18446744073709551616) (hs : (a < 0 ∧ 0 ≤ b) ∨ (0 ≤ a ∧ b < 0)) :
    Calls Tryd.prog 11 #[.int .i64 a, .int .i64 b] w (Over ⟨#[112, 114, 111, 100, 117, 99, 116]⟩ w) := by
  have hm := mul64_small a.natAbs b.natAbs l (by omega) (by omega) hl (by omega) w
  have ea := size_any a w h0 h1
  have eb := size_any b w k0 k1
  clear hl
  generalize a.natAbs = x at *
  generalize b.natAbs = y at *
  rcases hs with ⟨ha, hb⟩ | ⟨ha, hb⟩ <;>
  · first | (have da : decide (a < 0) = true := decide_eq_true (by omega)) | (have da : decide (a < 0) = false := decide_eq_false (by omega))
    first | (have db : decide (b < 0) = true := decide_eq_true (by omega)) | (have db : decide (b < 0) = false := decide_eq_false (by omega))
    go_enter Tryd.func11, Tryd.ntmps11
    go_wp2_with (first | (go_at_call 25; ((with_reducible refine ea.mono ?_); rintro e w' ⟨rfl, rfl⟩)) | (go_at_call 25; ((with_reducible refine eb.mono ?_); rintro e w' ⟨rfl, rfl⟩)) | (go_at_call 24; ((with_reducible refine hm.mono ?_); rintro e w' ⟨rfl, rfl⟩)) | (go_at_call 26; refine (signed_negover l _ (by omega)).mono ?_; rintro e w' ⟨rfl, rfl⟩) | (go_at_call 23; refine (overflow_any _ _).mono ?_; rintro e w' ⟨rfl, rfl⟩))
    go_ret2
    exact ⟨rfl, rfl⟩
theorem mul_pos_over (a b : Int) (w : World) (h0 : -9223372036854775808 ≤ a) (h1 : a ≤ 9223372036854775807) (k0 : -9223372036854775808 ≤ b) (k1 : b ≤ 9223372036854775807)
    (l : Int) (hl : ((a.natAbs * b.natAbs : Nat) : Int) = l) (l0 : ¬ l < 9223372036854775808) (l1 : l < 18446744073709551616) (hs : (a < 0 ∧ b < 0) ∨ (0 ≤ a ∧ 0 ≤ b)) :
    Calls Tryd.prog 11 #[.int .i64 a, .int .i64 b] w (Over ⟨#[112, 114, 111, 100, 117, 99, 116]⟩ w) := by
  have hm := mul64_small a.natAbs b.natAbs l (by omega) (by omega) hl (by omega) w
  have ea := size_any a w h0 h1
  have eb := size_any b w k0 k1
  clear hl
  generalize a.natAbs = x at *
  generalize b.natAbs = y at *
  rcases hs with ⟨ha, hb⟩ | ⟨ha, hb⟩ <;>
  · first | (have da : decide (a < 0) = true := decide_eq_true (by omega)) | (have da : decide (a < 0) = false := decide_eq_false (by omega))
    first | (have db : decide (b < 0) = true := decide_eq_true (by omega)) | (have db : decide (b < 0) = false := decide_eq_false (by omega))
    go_enter Tryd.func11, Tryd.ntmps11
    go_wp2_with (first | (go_at_call 25; ((with_reducible refine ea.mono ?_); rintro e w' ⟨rfl, rfl⟩)) | (go_at_call 25; ((with_reducible refine eb.mono ?_); rintro e w' ⟨rfl, rfl⟩)) | (go_at_call 24; ((with_reducible refine hm.mono ?_); rintro e w' ⟨rfl, rfl⟩)) | (go_at_call 26; refine (signed_posover l _ (by omega)).mono ?_; rintro e w' ⟨rfl, rfl⟩) | (go_at_call 23; refine (overflow_any _ _).mono ?_; rintro e w' ⟨rfl, rfl⟩))
    go_ret2
    exact ⟨rfl, rfl⟩

theorem mul_told (a b n : Int) (w : World) (hn : a * b = n) (h0 : -9223372036854775808 ≤ a) (h1 : a ≤ 9223372036854775807) (k0 : -9223372036854775808 ≤ b) (k1 : b ≤ 9223372036854775807) :
    Calls Tryd.prog 11 #[.int .i64 a, .int .i64 b] w (Tells (fitV n) (fitC n) w) := by
  subst hn
  by_cases h : -9223372036854775808 ≤ a * b ∧ a * b ≤ 9223372036854775807
  · exact (mul_ok a b w h0 h1 k0 k1 h.1 h.2).mono fun e w' ⟨he, hw⟩ => tells_ok h he hw
  · refine Calls.mono ?_ fun e w' ho => tells_over (s := ⟨#[112, 114, 111, 100, 117, 99, 116]⟩) h ho
    by_cases hbig : ((a.natAbs * b.natAbs : Nat) : Int) < 18446744073709551616
    · by_cases ha : a < 0 <;> by_cases hb : b < 0
      · have e := abs_nn ha hb
        exact mul_pos_over a b w h0 h1 k0 k1 _ rfl (by omega) hbig (Or.inl ⟨ha, hb⟩)
      · have e := abs_np ha (by omega : 0 ≤ b)
        exact mul_neg_over a b w h0 h1 k0 k1 _ rfl (by omega) hbig (Or.inl ⟨ha, by omega⟩)
      · have e := abs_pn (by omega : 0 ≤ a) hb
        exact mul_neg_over a b w h0 h1 k0 k1 _ rfl (by omega) hbig (Or.inr ⟨by omega, hb⟩)
      · have e := abs_pp (by omega : 0 ≤ a) (by omega : 0 ≤ b)
        exact mul_pos_over a b w h0 h1 k0 k1 _ rfl (by omega) hbig (Or.inr ⟨by omega, by omega⟩)
    · exact mul_big a b w h0 h1 k0 k1 _ rfl hbig

/-- A slice of n numbers Z 0 .. in a world. -/
def IntsV (w : World) (v : Value) (n : Nat) (Z : Nat → Int) : Prop :=
  (n = 0 ∧ ∃ (ao : Option Addr) (cap : Nat), v = .slice ao 0 cap) ∨ (0 < n ∧ ∃ b off cap : Nat, v = .slice (some ⟨b, off, none⟩) n cap ∧ ∀ i, i < n → w.cell? ⟨b, off + i, none⟩ = some (.int .i64 (Z i)))
theorem IntsV.below {w w' : World} {v : Value} {n : Nat} {Z : Nat → Int} (h : IntsV w v n Z) {B : Nat} (hb : Below B w w') (hB : w.heap.size ≤ B) : IntsV w' v n Z := by
  rcases h with h | ⟨h0, b, off, cap, rfl, hc⟩
  · exact Or.inl h
  · refine Or.inr ⟨h0, b, off, cap, rfl, fun i hi => ?_⟩
    have hl : b < w.heap.size := World.block_lt_of_cell? _ _ (hc i hi)
    exact (hb.cell (p := ⟨b, off + i, none⟩) (Nat.lt_of_lt_of_le hl hB)).trans (hc i hi)
theorem total_told (v : Value) (n : Nat) (Z : Nat → Int) (S : Int) (w : World) (hS : sumTo Z n = S) (hn : n ≤ 100000) (hv : IntsV w v n Z) (hz : ∀ i, -9223372036854775808 ≤ Z i ∧ Z i ≤ 9223372036854775807) :
    Calls Tryd.prog 21 #[v] w (Tells (fitV S) (fitC S) w) := by
  subst hS
  rcases hv with ⟨rfl, ao, cap, rfl⟩ | ⟨h0, b, off, cap, rfl, hc⟩
  · exact (total_none ao cap w).mono fun e w' ⟨he, hw⟩ => tells_ok (n := 0) (by decide) he hw
  · refine (total_any b off n cap Z w hn hc hz).mono fun e w' ⟨h1, h2⟩ => ?_
    by_cases h : -9223372036854775808 ≤ sumTo Z n ∧ sumTo Z n ≤ 9223372036854775807
    · exact tells_ok h (h1 h).1 (h1 h).2
    · exact tells_over h (h2 h)
end Go.Proofs.YtdfackmaimmapaaDoor
