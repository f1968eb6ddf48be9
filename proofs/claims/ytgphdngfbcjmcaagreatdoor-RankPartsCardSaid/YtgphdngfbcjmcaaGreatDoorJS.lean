/- rank.Split: contract. Layer 14's alive. -/
import Derived.Test.YtgphdngfbcjmcaaGreatDoorFault
import Derived.Lib.Hide
import Derived.Deep.DeepCutAuto
import Derived.Deep.QuietTactic
import Derived.BigQuiet
import Derived.WalkSmall
namespace Go.Proofs.YtgphdngfbcjmcaaGreatDoor
section
open Go.RowKit

theorem Tryz.infoPart : (Tryz.prog.info? 46).map (fun i => (i.zero, i.size, i.bytes)) = some (some (.agg #[.int .i64 0, .int .i64 0]), 2, 16) := by kernel_rfl

/-- A slice of n parts F 0 to T 0 .. in a world. -/
def PartsV (w : World) (v : Value) (n : Nat) (F T : Nat → Int) : Prop :=
  (n = 0 ∧ ∃ (ao : Option Addr) (cap : Nat), v = .slice ao 0 cap) ∨ (0 < n ∧ ∃ b off cap : Nat, v = .slice (some ⟨b, off, none⟩) n cap ∧ ∀ i, i < n → w.cell? ⟨b, off + i * 2, none⟩ = some (.int .i64 (F i)) ∧ w.cell? ⟨b, off + i * 2 + 1, none⟩ = some (.int .i64 (T i)))
theorem PartsV.below {w w' : World} {v : Value} {n : Nat} {F T : Nat → Int} (h : PartsV w v n F T) {B : Nat} (hb : Below B w w') (hB : w.heap.size ≤ B) : PartsV w' v n F T := by
  rcases h with h | ⟨h0, b, off, cap, rfl, hc⟩
  · exact Or.inl h
  · refine Or.inr ⟨h0, b, off, cap, rfl, fun i hi => ?_⟩
    have hl : b < w.heap.size := World.block_lt_of_cell? _ _ (hc i hi).1
    exact ⟨(hb.cell (p := ⟨b, off + i * 2, none⟩) (Nat.lt_of_lt_of_le hl hB)).trans (hc i hi).1, (hb.cell (p := ⟨b, off + i * 2 + 1, none⟩) (Nat.lt_of_lt_of_le hl hB)).trans (hc i hi).2⟩

theorem split_bad (t n : Int) (w : World) (h : t < 0 ∨ n < 1 ∨ 64 < n) :
    Calls Tryz.prog 18 #[.int .i64 t, .int .i64 n] w fun e w' => e = .returned (.tuple #[.slice none 0 0, .iface 80 (.pointer (some ⟨w.heap.size, 0, none⟩))]) ∧ w.alloc (.cells #[.int .i64 1, .int .i64 0, .string ⟨#[115, 112, 108, 105, 116]⟩] 83) = w' := by
  by_cases h1 : t < 0
  · have d1 : decide (t < 0) = true := decide_eq_true h1
    clear h
    go_enter Tryz.func18, Tryz.ntmps18
    go_wp2_with (go_at_call 23; refine (new_any _ _ _ _).mono ?_; rintro e w' ⟨rfl, rfl⟩)
    go_ret2
    exact ⟨rfl, rfl⟩
  · have d1 : decide (t < 0) = false := decide_eq_false h1
    by_cases h2 : n < 1
    · have d2 : decide (n < 1) = true := decide_eq_true h2
      clear h
      go_enter Tryz.func18, Tryz.ntmps18
      go_wp2_with (go_at_call 23; refine (new_any _ _ _ _).mono ?_; rintro e w' ⟨rfl, rfl⟩)
      go_ret2
      exact ⟨rfl, rfl⟩
    · have d2 : decide (n < 1) = false := decide_eq_false h2
      have h3 : 64 < n := by omega
      have d3 : decide (64 < n) = true := decide_eq_true h3
      clear h
      go_enter Tryz.func18, Tryz.ntmps18
      go_wp2_with (go_at_call 23; refine (new_any _ _ _ _).mono ?_; rintro e w' ⟨rfl, rfl⟩)
      go_ret2
      exact ⟨rfl, rfl⟩

/-- The ends of a split's parts. -/
structure Ends (t : Int) (n : Nat) (A : Nat → Int) : Prop where
  zero : A 0 = 0
  long : ∀ k : Nat, (k : Int) < t % n → A k + (t / n + 1) = A (k + 1)
  short : ∀ k : Nat, ¬ (k : Int) < t % n → k < n → A k + t / n = A (k + 1)
  lo : ∀ k, k ≤ n → 0 ≤ A k
  hi : ∀ k, k ≤ n → A k ≤ t
  all : A n = t

def SplitTells (n : Nat) (A : Nat → Int) (w : World) (e : Ending) (w' : World) : Prop :=
  ∃ v, e = .returned (.tuple #[v, .nilIface]) ∧ (∃ b off cap : Nat, v = .slice (some ⟨b, off, none⟩) n cap) ∧ PartsV w' v n A (fun i => A (i + 1)) ∧ Below w.heap.size w w'

theorem set_pair {xs : List Value} {k : Nat} {A : Nat → Int} (h : ∀ j, j < k → xs[j * 2]? = some (.int .i64 (A j)) ∧ xs[j * 2 + 1]? = some (.int .i64 (A (j + 1)))) (hl : k * 2 + 1 < xs.length) :
    ∀ j, j < k + 1 → ((xs.set (k * 2) (.int .i64 (A k))).set (k * 2 + 1) (.int .i64 (A (k + 1))))[j * 2]? = some (.int .i64 (A j)) ∧ ((xs.set (k * 2) (.int .i64 (A k))).set (k * 2 + 1) (.int .i64 (A (k + 1))))[j * 2 + 1]? = some (.int .i64 (A (j + 1))) := by
  intro j hj
  rcases (by omega : j < k ∨ j = k) with h1 | rfl
  · rw [List.getElem?_set_ne (by omega), List.getElem?_set_ne (by omega), List.getElem?_set_ne (by omega), List.getElem?_set_ne (by omega)]
    exact h j h1
  · rw [List.getElem?_set_ne (by omega), List.getElem?_set_self (by omega), List.getElem?_set_self (by simpa using hl)]
    exact ⟨rfl, rfl⟩

set_option maxHeartbeats 1000000 in
theorem split_ok (t : Int) (n : Nat) (A : Nat → Int) (w : World) (t0 : 0 ≤ t) (t1 : t ≤ 9223372036854775807) (n0 : 1 ≤ n) (n1 : n ≤ 64) (hA : Ends t n A) :
    Calls Tryz.prog 18 #[.int .i64 t, .int .i64 n] w (SplitTells n A w) := by
  have HA := Lib.hid hA; clear hA
  have d1 : decide (t < 0) = false := decide_eq_false (by omega)
  have d2 : decide ((n : Int) < 1) = false := decide_eq_false (by omega)
  have d3 : decide (64 < (n : Int)) = false := decide_eq_false (by omega)
  obtain ⟨i0, hi, hz0, hz1, hz2⟩ := info_parts Tryz.infoPart
  obtain ⟨q, hq⟩ : ∃ q : Int, t / (n : Int) = q := ⟨_, rfl⟩
  obtain ⟨r, hr⟩ : ∃ r : Int, t % (n : Int) = r := ⟨_, rfl⟩
  have q0 : 0 ≤ q := by rw [← hq]; exact Int.ediv_nonneg t0 (by omega)
  go_enter Tryz.func18, Tryz.ntmps18
  go_wp2_with (at_make; refine wpList_make_full _ rfl _ _ 47 rfl w.heap.size 46 i0 (.agg #[.int .i64 0, .int .i64 0]) 2 Tryz.underlying47 hi hz0 hz1 _ _ _ _ n rfl rfl rfl rfl ?b2 ?b3 (Nat.le_refl _) ?_)
  case b2 => rw [hz2]; omega
  case b3 => unfold maxLen; omega
  intro w1 hown hgr
  have hb1 : Below w.heap.size w w1 := (Below.refl _ _).grown hgr (Nat.le_refl _) (fun k hk => by cases hk)
  clear hgr
  go_wp2
  go_loopw [7, 25] (fun f i wr => ∃ (k : Nat) (xs : List Value), k ≤ n ∧ i = .int .i64 k ∧ f = .int .i64 (A k) ∧ wr.ownsRow w.heap.size 46 2 (.slice (some ⟨w.heap.size, 0, none⟩) n n) n xs ∧ (∀ j, j < k → xs[j * 2]? = some (.int .i64 (A j)) ∧ xs[j * 2 + 1]? = some (.int .i64 (A (j + 1)))) ∧ Below w.heap.size w wr) (fun _ i _ => n - (intOf i).toNat)
  case atStart => exact ⟨0, _, Nat.zero_le _, rfl, by rw [HA.out.zero], hown, fun j hj => by omega, hb1⟩
  case round =>
    obtain ⟨k, xs, hk, rfl, rfl, ho, hxs, hb⟩ := hrel
    have HX := Lib.hid hxs; clear hxs
    clear hown hb1
    by_cases hlt : k < n
    · have hlen : xs.length = n * 2 := ho.1
      have c0 := ho.cellAt (k * 2) (by omega)
      have c1 := ho.cellAt (k * 2 + 1) (by omega)
      rw [List.getElem?_eq_getElem (by omega)] at c0 c1
      have f0 := ho.frozenAt (k * 2)
      have f1 := ho.frozenAt (k * 2 + 1)
      have lo := HA.out.lo k hk
      have hi1 := HA.out.hi (k + 1) hlt
      have hst := (((ho.stored (k * 2) (.int .i64 (A k))).1).stored (k * 2 + 1) (.int .i64 (A (k + 1)))).1
      have hsb := (hb.setCell (p := ⟨w.heap.size, k * 2, none⟩) (Nat.le_refl _) (.int .i64 (A k))).setCell (p := ⟨w.heap.size, k * 2 + 1, none⟩) (Nat.le_refl _) (.int .i64 (A (k + 1)))
      by_cases hkr : (k : Int) < r
      · have e1 := HA.out.long k (by rw [hr]; exact hkr)
        rw [hq] at e1
        have hi2 : A k + (q + 1) ≤ 9223372036854775807 := by omega
        go_wp2
        go_roundw
        case rel => exact ⟨k + 1, _, by omega, by go_num, rfl, hst, set_pair HX.out (by omega), hsb⟩
        case measure => simp [intOf]; omega
      · have e1 := HA.out.short k (by rw [hr]; exact hkr) hlt
        rw [hq] at e1
        have hi2 : A k + q ≤ 9223372036854775807 := by omega
        go_wp2
        go_roundw
        case rel => exact ⟨k + 1, _, by omega, by go_num, rfl, hst, set_pair HX.out (by omega), hsb⟩
        case measure => simp [intOf]; omega
    · obtain rfl : k = n := by omega
      go_wp2
      go_ret2
      refine ⟨_, rfl, ⟨_, _, _, rfl⟩, Or.inr ⟨by omega, _, _, _, rfl, fun i hi => ?_⟩, hb⟩
      rw [Nat.zero_add, ho.cellAt (i * 2) (by omega), ho.cellAt (i * 2 + 1) (by omega)]
      exact HX.out i hi
end

section
open Go.RowKit

/-- Where the k-th part begins. -/
def sp (t : Int) (n k : Nat) : Int := k * (t / n) + (if (k : Int) < t % n then (k : Int) else t % n)
theorem sp_ends (t : Int) (n : Nat) (t0 : 0 ≤ t) (n0 : 1 ≤ n) : Ends t n (sp t n) := by
  have r0 := Int.emod_nonneg t (show (n : Int) ≠ 0 by omega)
  have r1 := Int.emod_lt_of_pos t (show (0 : Int) < n by omega)
  have q0 : 0 ≤ t / (n : Int) := Int.ediv_nonneg t0 (by omega)
  have hall : (n : Int) * (t / n) + t % n = t := Int.mul_ediv_add_emod t n
  have mono : ∀ k : Nat, k ≤ n → (k : Int) * (t / n) ≤ (n : Int) * (t / n) := fun k hk => Int.mul_le_mul_of_nonneg_right (by omega) q0
  have nn : ∀ k : Nat, 0 ≤ (k : Int) * (t / n) := fun k => Int.mul_nonneg (by omega) q0
  have step : ∀ k : Nat, ((k + 1 : Nat) : Int) * (t / n) = k * (t / n) + t / n := fun k => by rw [Int.natCast_add, Int.add_mul]; simp
  unfold sp
  constructor
  · simp; omega
  · intro k hk
    rw [step, if_pos hk]
    split <;> omega
  · intro k hk _
    rw [step, if_neg hk, if_neg (by omega)]
    omega
  · intro k hk
    have := nn k
    split <;> omega
  · intro k hk
    have := mono k hk
    split <;> omega
  · rw [if_neg (by omega)]; exact hall
set_option maxHeartbeats 1000000 in
theorem alive_ok (w : World) (hg : ErrT w) : Calls Tryz.prog 8 #[] w fun e w' => e = .returned (.bool true) ∧ Below w.heap.size w w' := by
  have hs := split_ok 7 3 (sp 7 3) w (by omega) (by omega) (by omega) (by omega) (sp_ends 7 3 (by omega) (by omega))
  have HS := Lib.hid hs
  clear hs
  go_enter Tryz.func8, Tryz.ntmps8
  go_wp2_with fail
  refine HS.out.mono ?_; rintro e w1 ⟨v, rfl, _, hv, hb1⟩
  rcases hv with ⟨h, _⟩ | ⟨_, b, off, cap, rfl, hc⟩
  · exact absurd h (by decide)
  have c00 := (hc 0 (by decide)).1
  have c01 := (hc 0 (by decide)).2
  have c10 := (hc 1 (by decide)).1
  have c11 := (hc 1 (by decide)).2
  simp only [show sp 7 3 0 = 0 by decide, show sp 7 3 (0 + 1) = 3 by decide, show sp 7 3 (1 + 1) = 5 by decide, Nat.zero_mul, Nat.add_zero, Nat.one_mul] at c00 c01 c10 c11
  have hbl : b < w1.heap.size := World.block_lt_of_cell? _ _ c00
  clear hc HS
  go_wp2_with fail
  refine (split_bad 1 65 _ (by omega)).mono ?_; rintro e w2 ⟨rfl, rfl⟩
  have hg1 := hg.below hb1 (Nat.le_refl _)
  have d00 := (World.cell?_alloc_lt w1 (.cells #[.int .i64 1, .int .i64 0, .string ⟨#[115, 112, 108, 105, 116]⟩] 83) ⟨b, off, none⟩ hbl).trans c00
  have d01 := (World.cell?_alloc_lt w1 (.cells #[.int .i64 1, .int .i64 0, .string ⟨#[115, 112, 108, 105, 116]⟩] 83) ⟨b, off + 1, none⟩ hbl).trans c01
  have d10 := (World.cell?_alloc_lt w1 (.cells #[.int .i64 1, .int .i64 0, .string ⟨#[115, 112, 108, 105, 116]⟩] 83) ⟨b, off + 2, none⟩ hbl).trans c10
  have d11 := (World.cell?_alloc_lt w1 (.cells #[.int .i64 1, .int .i64 0, .string ⟨#[115, 112, 108, 105, 116]⟩] 83) ⟨b, off + 2 + 1, none⟩ hbl).trans c11
  go_wp2_with fail
  refine (code_hit w1.heap.size 1 _ (hg1.alloc _) (by simp)).mono ?_; rintro e w4 ⟨rfl, hb4⟩
  go_wp2_with fail
  go_ret
  have s1 := hb1.size
  exact ⟨rfl, hb1.trans ((Below.alloc (Below.refl _ _) (by omega) _).trans (hb4.mono (by simp; omega)))⟩
end
end Go.Proofs.YtgphdngfbcjmcaaGreatDoor
