/- perm.lesser, perm.Even: contracts; the document's Even. -/
import Derived.Test.YtlkmbhbjhiobiaaDoorPermThen
import Derived.WalkSpells
namespace Go.Proofs.YtlkmbhbjhiobiaaDoor
open Go.RowKit

/-- How many of the first k hold? -/
def cnt (f : Nat → Bool) : Nat → Nat
  | 0 => 0
  | k + 1 => cnt f k + (if f k then 1 else 0)
theorem cnt_le (f : Nat → Bool) : ∀ k, cnt f k ≤ k
  | 0 => Nat.le_refl _
  | k + 1 => by have := cnt_le f k; unfold cnt; split <;> omega
/-- A sum of the first k. -/
def sumTo (f : Nat → Nat) : Nat → Nat
  | 0 => 0
  | k + 1 => sumTo f k + f k
theorem sumTo_le {f : Nat → Nat} {m : Nat} : ∀ k, (∀ i, i < k → f i ≤ m) → sumTo f k ≤ m * k
  | 0, _ => by simp [sumTo]
  | k + 1, h => by
    have h1 := sumTo_le k (fun i hi => h i (by omega))
    have h2 := h k (by omega)
    unfold sumTo
    rw [Nat.mul_succ]
    omega
/-- How many lesser ones stand behind the i-th of n. -/
def les (P : Nat → Int) (n i : Nat) : Nat := cnt (fun t => decide (P (i + 1 + t) < P i)) (n - i - 1)
/-- How many pairs stand the wrong way round. -/
def inv (P : Nat → Int) (n : Nat) : Nat := sumTo (les P n) n

set_option maxRecDepth 100000 in
set_option maxHeartbeats 1000000 in
theorem lesser_any (n i : Nat) (P : Nat → Int) (v : Value) (w : World) (h : IntsV w v n P) (hcap : ∀ A c, v = .slice A n c → n ≤ c) (hi : i < n) (hn : n ≤ 1000) :
    Calls Tryd.prog 31 #[v, .int .i64 (i : Nat)] w fun e w' => e = .returned (.int .i64 (les P n i : Nat)) ∧ w' = w := by
  obtain ⟨A, c, rfl⟩ := h.form
  have hnc := hcap _ _ rfl
  obtain ⟨b, off, rfl, hcell⟩ := h.pos hi
  have HC := Lib.hid hcell
  obtain ⟨z, hz⟩ : ∃ z : Int, P i = z := ⟨_, rfl⟩
  have ci := hcell i hi
  rw [hz] at ci
  obtain ⟨m, hm⟩ : ∃ m, i + 1 + m = n := ⟨n - i - 1, by omega⟩
  have hL : Hid (les P n i = cnt (fun t => decide (P (i + 1 + t) < z)) m) := Lib.hid (by unfold les; rw [show n - i - 1 = m by omega, hz])
  have HM := Lib.hid hm
  have i1 : (i : Int) < n := by omega
  have i2 : (0 : Int) ≤ i := by omega
  have i3 : (i : Int) + 1 ≤ n := by omega
  have hm' : n - (i + 1) = m := by omega
  clear h hcell hz hi hcap
  by_cases hm0 : m = 0
  · subst hm0
    by_cases hcc : c = i + 1
    · subst hcc
      go_enter Tryd.func31, Tryd.ntmps31
      go_wp2_with fail
      refine wp_loop_rounds 1 ?_
      rw [rounds_succ]
      go_wp2
      go_ret
      exact ⟨by rw [hL.out]; rfl, rfl⟩
    · go_enter Tryd.func31, Tryd.ntmps31
      go_wp2_with fail
      all_goals
        refine wp_loop_rounds 1 ?_
        rw [rounds_succ]
        go_wp2
        go_ret
        exact ⟨by rw [hL.out]; rfl, rfl⟩
  · have hcc : ¬ c = i + 1 := by omega
    clear hm hm0
    go_enter Tryd.func31, Tryd.ntmps31
    go_wp2_with fail
    go_loopg [5, 13] m (fun g x y wr => ∃ k, k ≤ m ∧ g = m - k ∧ y = .int .i64 (k : Nat) ∧ x = .int .i64 (cnt (fun t => decide (P (i + 1 + t) < z)) k : Nat) ∧ wr = w)
    case atStart => exact ⟨0, by omega, rfl, rfl, rfl, rfl⟩
    case round =>
      obtain ⟨k, hk, rfl, rfl, rfl, rfl⟩ := hrel
      have hcl := cnt_le (fun t => decide (P (i + 1 + t) < z)) k
      obtain ⟨q, hq⟩ : ∃ q, cnt (fun t => decide (P (i + 1 + t) < z)) k = q := ⟨_, rfl⟩
      rw [hq] at hcl ⊢
      have HQ := Lib.hid hq
      have hm1 := HM.out
      have hq1 : q ≤ 1000 := by omega
      have hk1 : k ≤ 1000 := by omega
      by_cases hlt : k < m
      · have ck := HC.out (i + 1 + k) (by omega)
        obtain ⟨y, hy⟩ : ∃ y : Int, P (i + 1 + k) = y := ⟨_, rfl⟩
        rw [hy, ← Nat.add_assoc, ← Nat.add_assoc] at ck
        have ck' : wr.cell? ⟨b, off + (i + 1) + k, none⟩ = some (.int .i64 y) := by rw [← ck, Nat.add_assoc off i 1]
        have HY := Lib.hid hy
        have HLT := Lib.hid hlt
        have t7 : decide (k < m) = true := decide_eq_true hlt
        have i4 : (k : Int) < m := by omega
        have i5 : (0 : Int) ≤ k := by omega
        clear hq hy hm1 ck hlt
        by_cases hyz : y < z
        · have t8 : decide (y < z) = true := decide_eq_true hyz
          have HK : Hid (cnt (fun t => decide (P (i + 1 + t) < z)) (k + 1) = q + 1) := Lib.hid (by rw [cnt, HQ.out, HY.out, t8]; rfl)
          clear hyz
          go_wp2_with fail
          go_roundg (m - (k + 1))
          case rel => exact ⟨k + 1, HLT.out, rfl, by go_num, by rw [HK.out]; go_num, rfl⟩
          case measure => have := HLT.out; omega
        · have t8 : decide (y < z) = false := decide_eq_false hyz
          have HK : Hid (cnt (fun t => decide (P (i + 1 + t) < z)) (k + 1) = q) := Lib.hid (by rw [cnt, HQ.out, HY.out, t8]; rfl)
          clear hyz
          go_wp2_with fail
          go_roundg (m - (k + 1))
          case rel => exact ⟨k + 1, HLT.out, rfl, by go_num, by rw [HK.out], rfl⟩
          case measure => have := HLT.out; omega
      · obtain rfl : k = m := by omega
        have t7 : decide (k < k) = false := by simp
        clear hq hm1 hlt
        go_wp2
        go_ret
        exact ⟨by rw [hL.out, HQ.out]; rfl, rfl⟩

theorem inv_le {P : Nat → Int} {n k : Nat} (hk : k ≤ n) : sumTo (les P n) k ≤ n * k :=
  sumTo_le k fun i _ => by unfold les; have := cnt_le (fun t => decide (P (i + 1 + t) < P i)) (n - i - 1); omega
set_option maxRecDepth 100000 in
set_option maxHeartbeats 1000000 in
theorem even_ok (n : Nat) (P : Nat → Int) (v : Value) (w : World) (h : IntsV w v n P) (hcap : ∀ A c, v = .slice A n c → n ≤ c) (hO : Order n P) :
    Calls Tryd.prog 13 #[v] w fun e w' => e = .returned (.tuple #[.bool (decide (inv P n % 2 = 0)), .nilIface]) ∧ Below w.heap.size w w' := by
  obtain ⟨A, c, rfl⟩ := h.form
  have C1 := Lib.hid (check_ok n P _ w h (rightB_iff.2 hO))
  have H := Lib.hid h; have HCAP := Lib.hid hcap
  have hn8 := hO.le8
  clear h hcap hO
  go_enter Tryd.func13, Tryd.ntmps13
  go_wp2_with fail
  refine C1.out.mono ?_; rintro e w1 ⟨rfl, hb1⟩
  have HB1 := Lib.hid hb1
  have HV1 := Lib.hid (H.out.below hb1 (Nat.le_refl _))
  clear hb1
  go_wp2_with fail
  go_loopg [5, 14] n (fun g x y wr => ∃ k, k ≤ n ∧ g = n - k ∧ y = .int .i64 (k : Nat) ∧ x = .int .i64 (sumTo (les P n) k : Nat) ∧ wr = w1)
  case atStart => exact ⟨0, by omega, rfl, rfl, rfl, rfl⟩
  case round =>
    obtain ⟨k, hk, rfl, rfl, rfl, rfl⟩ := hrel
    have hsl := inv_le (P := P) (n := n) (k := k) hk
    have hs2 : n * k ≤ 8 * 8 := Nat.mul_le_mul hn8 (by omega)
    obtain ⟨q, hq⟩ : ∃ q, sumTo (les P n) k = q := ⟨_, rfl⟩
    rw [hq] at hsl ⊢
    have hq1 : q ≤ 64 := by omega
    have HQ := Lib.hid hq
    by_cases hlt : k < n
    · have L1 := lesser_any n k P _ wr HV1.out HCAP.out hlt (by omega)
      have hll : les P n k ≤ 8 := by unfold les; have := cnt_le (fun t => decide (P (k + 1 + t) < P k)) (n - k - 1); omega
      obtain ⟨y, hy⟩ : ∃ y, les P n k = y := ⟨_, rfl⟩
      rw [hy] at L1 hll
      have HL1 := Lib.hid L1
      have HK : Hid (sumTo (les P n) (k + 1) = q + y) := Lib.hid (by rw [sumTo, hq, hy])
      have HLT := Lib.hid hlt
      have t7 : decide (k < n) = true := decide_eq_true hlt
      clear hq hy L1 hlt hsl hs2
      go_wp2_with fail
      refine HL1.out.mono ?_; rintro e w2 ⟨rfl, rfl⟩
      go_wp2_with fail
      go_roundg (n - (k + 1))
      case rel => exact ⟨k + 1, HLT.out, rfl, by go_num, by rw [HK.out]; go_num, rfl⟩
      case measure => have := HLT.out; omega
    · obtain rfl : k = n := by omega
      have t7 : decide (k < k) = false := by simp
      have HI : Hid (inv P k = q) := Lib.hid hq
      have ht : ((q : Int) % 2 == 0) = decide (q % 2 = 0) := by
        rw [Bool.eq_iff_iff]; simp; omega
      clear hq hlt hsl hs2
      cases hd : decide (q % 2 = 0) with
      | true =>
        rw [hd] at ht
        have HD := Lib.hid hd
        clear hd
        go_wp2
        go_ret2
        exact ⟨by rw [HI.out, HD.out]; rfl, HB1.out⟩
      | false =>
        rw [hd] at ht
        have HD := Lib.hid hd
        clear hd
        go_wp2
        go_ret2
        exact ⟨by rw [HI.out, HD.out]; rfl, HB1.out⟩
end Go.Proofs.YtlkmbhbjhiobiaaDoor
