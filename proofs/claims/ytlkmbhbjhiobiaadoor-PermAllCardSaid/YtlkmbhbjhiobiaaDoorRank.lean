/- perm.Rank: contract; Rank and Of. -/
import Derived.Test.YtlkmbhbjhiobiaaDoorEven
namespace Go.Proofs.YtlkmbhbjhiobiaaDoor
open Go.RowKit

/-- The rank, as far as k numbers tell. -/
def rk (P : Nat → Int) (n : Nat) : Nat → Nat
  | 0 => 0
  | k + 1 => rk P n k * (n - k) + les P n k
/-- The rank of a list. -/
def rankL : List Int → Nat
  | [] => 0
  | x :: t => t.countP (fun y => decide (y < x)) * fct t.length + rankL t
theorem cnt_countP (f : Nat → Bool) : ∀ m, cnt f m = (List.range m).countP f
  | 0 => rfl
  | m + 1 => by rw [cnt, cnt_countP f m, List.range_succ, List.countP_append]; simp [List.countP_cons]
theorem drop_map (P : Nat → Int) (n k : Nat) : ((List.range n).map P).drop k = (List.range (n - k)).map (fun t => P (k + t)) := by
  apply List.ext_getElem
  · simp
  · intro i h1 h2
    simp
theorem les_countP (P : Nat → Int) (n k : Nat) : les P n k = (((List.range n).map P).drop (k + 1)).countP (fun y => decide (y < P k)) := by
  rw [drop_map, List.countP_map]
  unfold les
  rw [cnt_countP, show n - k - 1 = n - (k + 1) by omega]
  rfl
theorem rank_step (P : Nat → Int) (n : Nat) : ∀ k, k ≤ n → rankL ((List.range n).map P) = fct (n - k) * rk P n k + rankL (((List.range n).map P).drop k)
  | 0, _ => by simp [rk]
  | k + 1, h => by
    rw [rank_step P n k (by omega)]
    have hk : k < ((List.range n).map P).length := by simp; omega
    rw [List.drop_eq_getElem_cons hk, rankL, rk, les_countP]
    have e1 : ((List.range n).map P)[k] = P k := by simp
    rw [e1]
    obtain ⟨m, hm⟩ : ∃ m, n - k = m + 1 := ⟨n - k - 1, by omega⟩
    have e2 : (((List.range n).map P).drop (k + 1)).length = m := by simp; omega
    rw [e2, hm, show n - (k + 1) = m by omega, fct, Nat.mul_add]
    have e3 : (m + 1) * fct m * rk P n k = fct m * (rk P n k * (m + 1)) := by
      rw [Nat.mul_comm (m + 1), Nat.mul_assoc, Nat.mul_comm (m + 1)]
    rw [e3, Nat.mul_comm (List.countP _ _) (fct m), Nat.add_assoc]
theorem rk_rankL (P : Nat → Int) (n : Nat) : rk P n n = rankL ((List.range n).map P) := by
  have h := rank_step P n n (Nat.le_refl _)
  rw [Nat.sub_self, List.drop_of_length_le (by simp)] at h
  simp [rankL, fct] at h
  exact h.symm
theorem count_sorted {L : List Int} (h : L.Pairwise (· < ·)) {q : Nat} (hq : q < L.length) : (L.eraseIdx q).countP (fun y => decide (y < L[q])) = q := by
  have hs := List.pairwise_iff_getElem.1 h
  rw [List.eraseIdx_eq_take_drop_succ, List.countP_append]
  have h1 : (L.take q).countP (fun y => decide (y < L[q])) = q := by
    rw [List.countP_eq_length.2, List.length_take]
    · omega
    · intro y hy
      obtain ⟨i, hi, rfl⟩ := List.mem_iff_getElem.1 hy
      rw [List.length_take] at hi
      rw [List.getElem_take]
      exact decide_eq_true (hs i q (by omega) hq (by omega))
  have h2 : (L.drop (q + 1)).countP (fun y => decide (y < L[q])) = 0 := by
    rw [List.countP_eq_zero]
    intro y hy
    obtain ⟨i, hi, rfl⟩ := List.mem_iff_getElem.1 hy
    rw [List.length_drop] at hi
    rw [List.getElem_drop]
    have := hs q (q + 1 + i) hq (by omega) (by omega)
    simp; omega
  omega
theorem rank_unr : ∀ (m : Nat) (L : List Int) (r : Nat), L.length = m → L.Pairwise (· < ·) → r < fct m → rankL (unr m L r) = r
  | 0, L, r, _, _, hr => by
    have : r = 0 := by simp [fct] at hr; exact hr
    subst this
    simp [unr, rankL]
  | m + 1, L, r, hl, hs, hr => by
    have hf := fct_pos m
    have hq : r / fct m < L.length := by
      rw [hl, Nat.div_lt_iff_lt_mul hf]
      rw [fct] at hr
      exact hr
    have hlen : (L.eraseIdx (r / fct m)).length = m := by rw [List.length_eraseIdx_of_lt hq]; omega
    have hrm : r % fct m < fct m := Nat.mod_lt _ hf
    have hp := unr_perm m (L.eraseIdx (r / fct m)) (r % fct m) hlen hrm
    have hg : L.getD (r / fct m) 0 = L[r / fct m] := by simp [List.getD, hq]
    rw [unr, rankL, rank_unr m _ _ hlen (hs.sublist (List.eraseIdx_sublist _ _)) hrm, hp.length_eq, hlen, hg, hp.countP_eq, count_sorted hs hq]
    have := Nat.div_add_mod r (fct m)
    rw [Nat.mul_comm] at this
    exact this
theorem upto_sorted (n : Nat) : (upto n).Pairwise (· < ·) := by
  unfold upto
  rw [List.pairwise_map]
  exact List.pairwise_lt_range.imp (fun {a b} h => by omega)
theorem rk_of {n r : Nat} {Y : Nat → Int} (hr : r < fct n) (h : (List.range n).map Y = unr n (upto n) r) : rk Y n n = r := by
  rw [rk_rankL, h, rank_unr n (upto n) r (upto_len n) (upto_sorted n) hr]
theorem rk_le {P : Nat → Int} {n : Nat} (hn : n ≤ 8) : ∀ k, k ≤ n → rk P n k ≤ 10 ^ (k + 1)
  | 0, _ => by simp [rk]
  | k + 1, hk => by
    have h1 := rk_le hn (P := P) k (by omega)
    have h2 : les P n k ≤ 8 := by unfold les; have := cnt_le (fun t => decide (P (k + 1 + t) < P k)) (n - k - 1); omega
    have h3 : rk P n k * (n - k) ≤ 10 ^ (k + 1) * 8 := Nat.mul_le_mul h1 (by omega)
    have h4 : 10 ≤ 10 ^ (k + 1) := by rw [Nat.pow_succ]; have := Nat.pow_pos (n := k) (show 0 < 10 by omega); omega
    rw [rk, Nat.pow_succ _ (k + 1)]
    omega

set_option maxRecDepth 100000 in
set_option maxHeartbeats 1000000 in
theorem rank_ok (n : Nat) (P : Nat → Int) (v : Value) (w : World) (h : IntsV w v n P) (hcap : ∀ A c, v = .slice A n c → n ≤ c) (hO : Order n P) :
    Calls Tryd.prog 25 #[v] w fun e w' => e = .returned (.tuple #[.int .i64 (rk P n n : Nat), .nilIface]) ∧ Below w.heap.size w w' := by
  obtain ⟨A, c, rfl⟩ := h.form
  have C1 := Lib.hid (check_ok n P _ w h (rightB_iff.2 hO))
  have H := Lib.hid h; have HCAP := Lib.hid hcap
  have hn8 := hO.le8
  clear h hcap hO
  go_enter Tryd.func25, Tryd.ntmps25
  go_wp2_with fail
  refine C1.out.mono ?_; rintro e w1 ⟨rfl, hb1⟩
  have HB1 := Lib.hid hb1
  have HV1 := Lib.hid (H.out.below hb1 (Nat.le_refl _))
  clear hb1
  go_wp2_with fail
  go_loopg [5, 14] n (fun g x y wr => ∃ k, k ≤ n ∧ g = n - k ∧ y = .int .i64 (k : Nat) ∧ x = .int .i64 (rk P n k : Nat) ∧ wr = w1)
  case atStart => exact ⟨0, by omega, rfl, rfl, rfl, rfl⟩
  case round =>
    obtain ⟨k, hk, rfl, rfl, rfl, rfl⟩ := hrel
    have hsl := rk_le (P := P) hn8 k hk
    have hs2 : 10 ^ (k + 1) ≤ 10 ^ 9 := Nat.pow_le_pow_right (by omega) (by omega)
    obtain ⟨q, hq⟩ : ∃ q, rk P n k = q := ⟨_, rfl⟩
    rw [hq] at hsl ⊢
    have hq1 : q ≤ 1000000000 := by omega
    have HQ := Lib.hid hq
    by_cases hlt : k < n
    · have L1 := lesser_any n k P _ wr HV1.out HCAP.out hlt (by omega)
      have hll : les P n k ≤ 8 := by unfold les; have := cnt_le (fun t => decide (P (k + 1 + t) < P k)) (n - k - 1); omega
      obtain ⟨y, hy⟩ : ∃ y, les P n k = y := ⟨_, rfl⟩
      rw [hy] at L1 hll
      obtain ⟨m, hm⟩ : ∃ m, n - k = m := ⟨_, rfl⟩
      have hmI : (n : Int) - (k : Int) = (m : Int) := by omega
      have hm8 : m ≤ 8 := by omega
      obtain ⟨t, ht⟩ : ∃ t, q * m = t := ⟨_, rfl⟩
      have htI : (q : Int) * (m : Int) = (t : Int) := by rw [← ht]; simp
      have ht1 : t ≤ 8000000000 := by
        rw [← ht]
        have : q * m ≤ 1000000000 * 8 := Nat.mul_le_mul hq1 hm8
        omega
      have HL1 := Lib.hid L1
      have HK : Hid (rk P n (k + 1) = t + y) := Lib.hid (by rw [rk, hq, hy, hm, ht])
      have HLT := Lib.hid hlt
      have t7 : decide (k < n) = true := decide_eq_true hlt
      clear hq hy L1 hlt hsl hs2 hm ht
      go_wp2_with fail
      refine HL1.out.mono ?_; rintro e w2 ⟨rfl, rfl⟩
      go_wp2_with fail
      go_roundg (n - (k + 1))
      case rel => exact ⟨k + 1, HLT.out, rfl, by go_num, by rw [HK.out]; go_num, rfl⟩
      case measure => have := HLT.out; omega
    · obtain rfl : k = n := by omega
      have t7 : decide (k < k) = false := by simp
      have HI : Hid (rk P k k = q) := Lib.hid hq
      clear hq hlt hsl hs2
      go_wp2
      go_ret2
      exact ⟨by rw [HI.out]; rfl, HB1.out⟩
end Go.Proofs.YtlkmbhbjhiobiaaDoor
