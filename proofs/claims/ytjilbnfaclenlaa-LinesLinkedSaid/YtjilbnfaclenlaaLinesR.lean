/- lines: Pairs. -/
import Derived.Test.YtjilbnfaclenlaaLaw0
namespace Go.Proofs.Ytjilbnfaclenlaa
open Go.RowKit

theorem prs_two (l : List Int) : ((l.length : Nat) : Int) * ((l.length : Nat) - 1) = 2 * ((prs l).length : Nat) := by
  have h := prs_len l
  rcases Nat.eq_zero_or_pos l.length with h0 | h0
  · have hp : (prs l).length = 0 := by rw [h0] at h; omega
    rw [h0, hp]; rfl
  · have e : ((l.length : Nat) : Int) - 1 = ((l.length - 1 : Nat) : Int) := by omega
    rw [e, ← Int.natCast_mul, ← h]; omega

set_option maxRecDepth 100000 in
set_option maxHeartbeats 2000000 in
theorem pairs_any {w : World} {base g : Nat} {L : List Int} {S : List (Int × Int)} (hG : GraphOwn w base g L S) (hS : S.length ≤ 100000) (hL : L.length ≤ 100000) :
    Calls Try.prog 14 #[.pointer (some ⟨g, 0, none⟩)] w fun e w' => e = .returned (.int .i64 (pairsE L.length S).length) ∧ w' = w := by
  have LN := len_any hG
  obtain ⟨n, hn⟩ : ∃ n, L.length = n := ⟨_, rfl⟩
  rw [hn] at LN hL ⊢
  have HG := Lib.hid hG; have HN := Lib.hid hn; have HLN := Lib.hid LN; have HS := Lib.hid hS
  clear hG hn LN hS
  have hb : ∀ u : Nat, u ≤ n → (pairsE u S).length ≤ u * 10000000000 := by
    intro u
    induction u with
    | zero => intro _; exact Nat.zero_le _
    | succ u ih =>
      intro hu
      rw [pairsE_succ, List.length_append]
      have h1 := prs_len (atL S (u : Int))
      have h2 : (atL S (u : Int)).length ≤ 100000 := by rw [← near_at_len S (u : Int) _ rfl]; exact Nat.le_trans (nearL_len S _) HS.out
      have h3 : (atL S (u : Int)).length * ((atL S (u : Int)).length - 1) ≤ 100000 * 100000 := Nat.mul_le_mul h2 (by omega)
      have := ih (by omega)
      omega
  have HB := Lib.hid hb
  clear hb
  go_enter Try.func14, Try.ntmps14
  go_wp2_with fail
  refine HLN.out.mono ?_; rintro e w1 ⟨rfl, hw⟩; obtain rfl := hw.symm
  go_wp2_with fail
  go_loopg [3, 8] n (fun gh rv yv wr => ∃ u : Nat, u ≤ n ∧ gh = n - u ∧ yv = .int .i64 (u : Nat) ∧ rv = .int .i64 ((pairsE u S).length : Nat) ∧ wr = w)
  case atStart => exact ⟨0, Nat.zero_le _, rfl, rfl, rfl, rfl⟩
  case round =>
    obtain ⟨u, hu, rfl, rfl, rfl, rfl⟩ := hrel
    by_cases hut : u < n
    · have D := degree_ok HG.out (v := u) (by rw [HN.out]; exact hut)
      rw [near_at_len S (u : Int) _ rfl] at D
      have hsucc := congrArg List.length (pairsE_succ u S)
      rw [List.length_append] at hsucc
      have h2 := prs_two (atL S (u : Int))
      have hd : (atL S (u : Int)).length ≤ 100000 := by rw [← near_at_len S (u : Int) _ rfl]; exact Nat.le_trans (nearL_len S _) HS.out
      have hp := HB.out (u + 1) hut
      obtain ⟨p, hpe⟩ : ∃ p, (pairsE u S).length = p := ⟨_, rfl⟩
      obtain ⟨q, hq⟩ : ∃ q, (prs (atL S (u : Int))).length = q := ⟨_, rfl⟩
      obtain ⟨d, hde⟩ : ∃ d, (atL S (u : Int)).length = d := ⟨_, rfl⟩
      rw [hpe, hq] at hsucc
      rw [hq, hde] at h2
      rw [hde] at D hd
      rw [hsucc] at hp
      rw [hpe]
      have hpq : p + q ≤ 1000000000000000 := by
        have : (u + 1) * 10000000000 ≤ 100000 * 10000000000 := Nat.mul_le_mul_right _ (by omega)
        omega
      have t3 : decide (u < n) = true := decide_eq_true hut
      have i1 : (u : Int) < n := by omega
      have i2 : (0 : Int) ≤ u := by omega
      have HD := Lib.hid D; have HSU := Lib.hid hsucc; have HUT := Lib.hid hut; have H2 := Lib.hid h2
      have m1 : (2 * (q : Nat) : Int).tdiv 2 = q := Int.mul_tdiv_cancel_left _ (by decide)
      clear D hsucc hut hp hpe hq hde
      go_wp2_with fail
      refine HD.out.mono ?_; rintro e w2 ⟨rfl, hw⟩; obtain rfl := hw.symm
      go_wp2_with fail
      go_roundg (n - (u + 1))
      case rel => exact ⟨u + 1, HUT.out, rfl, by go_num, by rw [HSU.out]; go_num, rfl⟩
      case measure => have := HUT.out; omega
    · obtain rfl : u = n := by omega
      have t3 : decide (u < u) = false := by simp
      go_wp2_with fail
      go_ret
      exact ⟨rfl, rfl⟩
end Go.Proofs.Ytjilbnfaclenlaa
