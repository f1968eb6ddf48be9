/- The reference's Even. -/
import Derived.Test.YtlkmbhbjhiobiaaDoorTells07
namespace Go.Proofs.YtlkmbhbjhiobiaaDoor
open Go.RowKit

set_option maxRecDepth 100000 in
set_option maxHeartbeats 2000000 in
theorem refEven_any (n : Nat) (P : Nat → Int) (v : Value) (w : World) (h : IntsV w v n P) (hn : n ≤ 8) :
    Calls Tryd.prog 20 #[v] w fun e w' => e = .returned (.bool (decide (inv P n % 2 = 0))) ∧ ∃ d, w' = w.drewN d := by
  obtain ⟨A, c, rfl⟩ := h.form
  have H := Lib.hid h
  clear h
  go_enter Tryd.func20, Tryd.ntmps20
  go_wp2_with fail
  go_loopg [3, 4] n (fun g x y wr => ∃ k, k ≤ n ∧ g = n - k ∧ y = .int .i64 (k : Nat) ∧ x = .int .i64 (sumTo (les P n) k : Nat) ∧ ∃ d, wr = w.drewN d)
  case atStart => exact ⟨0, by omega, rfl, rfl, rfl, 0, rfl⟩
  case round =>
    obtain ⟨k, hk, rfl, rfl, rfl, d, rfl⟩ := hrel
    have hsl := inv_le (P := P) (n := n) (k := k) hk
    have hs2 : n * k ≤ 8 * 8 := Nat.mul_le_mul hn (by omega)
    obtain ⟨q, hq⟩ : ∃ q, sumTo (les P n) k = q := ⟨_, rfl⟩
    rw [hq] at hsl ⊢
    have hq1 : q ≤ 64 := by omega
    have HQ := Lib.hid hq
    by_cases hlt : k < n
    · obtain ⟨b, off, rfl, hcell⟩ := H.out.pos hlt
      have HC := Lib.hid hcell
      obtain ⟨z, hz⟩ : ∃ z : Int, P k = z := ⟨_, rfl⟩
      have ci := hcell k hlt
      rw [hz] at ci
      obtain ⟨m, hm⟩ : ∃ m, k + 1 + m = n := ⟨n - k - 1, by omega⟩
      have hL : Hid (les P n k = cnt (fun t => decide (P (k + 1 + t) < z)) m) := Lib.hid (by unfold les; rw [show n - k - 1 = m by omega, hz])
      have HM := Lib.hid hm
      have HLT := Lib.hid hlt
      have t7 : decide (k < n) = true := decide_eq_true hlt
      have i1 : (k : Int) < n := by omega
      have i2 : (0 : Int) ≤ k := by omega
      have hk8 : k ≤ 8 := by omega
      clear hq hz hm hlt hsl hs2 hcell
      go_wp2_with fail
      go_loopg [3, 5] m (fun g x y wr => ∃ t, t ≤ m ∧ g = m - t ∧ y = .int .i64 (k + 1 + t : Nat) ∧ x = .int .i64 (q + cnt (fun t => decide (P (k + 1 + t) < z)) t : Nat) ∧ ∃ d, wr = w.drewN d)
      case atStart => exact ⟨0, by omega, rfl, by go_num, rfl, d, rfl⟩
      case round =>
        obtain ⟨t, ht, rfl, rfl, rfl, d, rfl⟩ := hrel
        have hcl := cnt_le (fun t => decide (P (k + 1 + t) < z)) t
        obtain ⟨r, hr⟩ : ∃ r, cnt (fun t => decide (P (k + 1 + t) < z)) t = r := ⟨_, rfl⟩
        rw [hr] at hcl ⊢
        have HR := Lib.hid hr
        have hm1 := HM.out
        have hr1 : q + r ≤ 80 := by omega
        have ht1 : k + 1 + t ≤ 1000 := by omega
        obtain ⟨j, hj⟩ : ∃ j, k + 1 + t = j := ⟨_, rfl⟩
        obtain ⟨s, hs⟩ : ∃ s, q + r = s := ⟨_, rfl⟩
        have HJ := Lib.hid hj; have HS := Lib.hid hs
        rw [hj] at ht1
        rw [hs] at hr1
        rw [hj, hs]
        by_cases hlt : t < m
        · have cj := HC.out j (by omega)
          obtain ⟨y, hy⟩ : ∃ y : Int, P j = y := ⟨_, rfl⟩
          rw [hy] at cj
          have HY : Hid (P (k + 1 + t) = y) := Lib.hid (by rw [hj, hy])
          have HLT2 := Lib.hid hlt
          have t8 : decide (j < n) = true := decide_eq_true (by omega)
          have i4 : (j : Int) < n := by omega
          have i5 : (0 : Int) ≤ j := by omega
          clear hr hy hm1 hlt hj hs hcl ht
          by_cases hyz : y < z
          · have t9 : decide (y < z) = true := decide_eq_true hyz
            have HK : Hid (cnt (fun t => decide (P (k + 1 + t) < z)) (t + 1) = r + 1) := Lib.hid (by rw [cnt, HR.out, HY.out, t9]; rfl)
            clear hyz
            go_wp2_with fail
            go_quiet (fail)
            go_wp2_with fail
            go_roundg (m - (t + 1))
            case rel => exact ⟨t + 1, HLT2.out, rfl, by rw [← Nat.add_assoc, HJ.out]; go_num, by rw [HK.out, ← Nat.add_assoc, HS.out]; go_num, _, rfl⟩
            case measure => have := HLT2.out; omega
          · have t9 : decide (y < z) = false := decide_eq_false hyz
            have HK : Hid (cnt (fun t => decide (P (k + 1 + t) < z)) (t + 1) = r) := Lib.hid (by rw [cnt, HR.out, HY.out, t9]; rfl)
            clear hyz
            go_wp2_with fail
            go_quiet (fail)
            go_wp2_with fail
            go_roundg (m - (t + 1))
            case rel => exact ⟨t + 1, HLT2.out, rfl, by rw [← Nat.add_assoc, HJ.out]; go_num, by rw [HK.out, HS.out], _, rfl⟩
            case measure => have := HLT2.out; omega
        · obtain rfl : t = m := by omega
          have hjn : j = n := by omega
          subst hjn
          have t8 : decide (j < j) = false := by simp
          have HK : Hid (sumTo (les P j) (k + 1) = s) := Lib.hid (by rw [sumTo, HQ.out, hL.out, HR.out, HS.out])
          clear hr hm1 hlt hj hs hcl ht
          go_wp2_with fail
          go_roundg (j - (k + 1))
          case rel => exact ⟨k + 1, HLT.out, rfl, by go_num, by rw [HK.out], _, rfl⟩
          case measure => have := HLT.out; omega
    · obtain rfl : k = n := by omega
      have t7 : decide (k < k) = false := by simp
      have HI : Hid (inv P k = q) := Lib.hid hq
      have ht : ((q : Int) % 2 == 0) = decide (q % 2 = 0) := by
        rw [Bool.eq_iff_iff]; simp; omega
      clear hq hlt hsl hs2
      cases hd : decide (q % 2 = 0) with
      | true =>
        rw [hd] at ht
        have HD := Lib.hid hd
        clear hd
        go_wp2
        go_ret
        exact ⟨by rw [HI.out, HD.out]; rfl, _, rfl⟩
      | false =>
        rw [hd] at ht
        have HD := Lib.hid hd
        clear hd
        go_wp2
        go_ret
        exact ⟨by rw [HI.out, HD.out]; rfl, _, rfl⟩
end Go.Proofs.YtlkmbhbjhiobiaaDoor
