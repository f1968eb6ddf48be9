/- NumsChoose: the walk. -/
import Derived.Test.YtdfackmaimmapaaDoorLeast
import Derived.Test.YtdfackmaimmapaaDoorRulesLaw
namespace Go.Proofs.YtdfackmaimmapaaDoor
open Go.RowKit

theorem bin_pos : ∀ n k, k ≤ n → 1 ≤ bin n k
  | n, 0, _ => by rw [bin_zero]; exact Nat.le_refl 1
  | n + 1, k + 1, h => by rw [bin]; have := bin_pos n k (by omega); omega
def Zb (n : Nat) (i : Nat) : Int := (bin n i : Nat)
theorem sum_bin_step (n : Nat) : ∀ m, sumTo (Zb (n + 1)) (m + 1) = sumTo (Zb n) (m + 1) + sumTo (Zb n) m
  | 0 => by simp [sumTo, Zb, bin_zero]
  | m + 1 => by
    have ih := sum_bin_step n m
    rw [sumTo, ih, sumTo, sumTo, sumTo]
    have : Zb (n + 1) (m + 1) = Zb n m + Zb n (m + 1) := by unfold Zb; rw [bin]; omega
    omega
theorem sum_bin : ∀ n, sumTo (Zb n) (n + 1) = 2 ^ n
  | 0 => by simp [sumTo, Zb, bin_zero]
  | n + 1 => by
    have ih := sum_bin n
    rw [sum_bin_step, ih, sumTo, ih, Int.pow_succ]
    have : Zb n (n + 1) = 0 := by unfold Zb; rw [bin_lt n (n + 1) (by omega)]; rfl
    omega
theorem two_bd (k : Nat) (hk : k ≤ 61) : -9223372036854775808 ≤ (2 : Int) ^ k ∧ (2 : Int) ^ k ≤ 9223372036854775807 := by
  have h : (2 : Int) ^ k = ((2 ^ k : Nat) : Int) := by simp
  have h2 : (2 : Nat) ^ k ≤ 2 ^ 61 := Nat.pow_le_pow_right (by omega) hk
  have h3 : (2 : Nat) ^ 61 = 2305843009213693952 := by decide
  rw [h]
  rw [h3] at h2
  clear h h3
  generalize (2 : Nat) ^ k = N at *
  omega
theorem pow_two (i : Int) (n : Nat) (w : World) (hi : i = n) (hn : n ≤ 61) (v : Int) (hv : (2 : Int) ^ n = v) :
    Calls Tryd.prog 16 #[.int .i64 2, .int .i64 i] w fun e w' => e = .returned (.tuple #[.int .i64 v, .nilIface]) ∧ w = w' := by
  subst hi hv
  exact pow_ok 2 n w (by omega) (by omega) (by omega) (fun k hk => two_bd k (by omega))
theorem least_bin (n : Nat) (L : Int) (h : LeastIs (Zb n) (n + 1) L) : L = 1 := by
  obtain ⟨⟨i, hi, he⟩, hle⟩ := h
  have h0 := hle 0 (by omega)
  have h1 : Zb n 0 = 1 := by unfold Zb; rw [bin_zero]; rfl
  have h2 := bin_pos n i (by omega)
  unfold Zb at *
  omega
theorem least_told (v : Value) (n : Nat) (Z : Nat → Int) (w : World) (n0 : 0 < n) (hn : n ≤ 100000) (hv : IntsV w v n Z) :
    Calls Tryd.prog 22 #[v] w (LeastTells Z n w) := by
  rcases hv with ⟨rfl, ao, cap, rfl⟩ | ⟨h0, b, off, cap, rfl, hc⟩
  · omega
  · exact least_any b off n cap Z w h0 hn hc
theorem Tryd.infoI64 : (Tryd.prog.info? 2).map (fun i => (i.zero, i.size, i.bytes)) = some (some (.int .i64 0), 1, 8) := by kernel_rfl

theorem own_below {w w' : World} {base e size n B : Nat} {v : Value} {xs : List Value} (h : w.ownsRow base e size v n xs) (hb : Below B w w') (hB : w.heap.size ≤ B) : w'.ownsRow base e size v n xs := by
  refine ⟨h.1, ?_⟩
  rcases h.2 with hn | ⟨g, cap, cur, rfl, hg, hh, r⟩
  · exact Or.inl hn
  · have hlt : g < w.heap.size := (Array.getElem?_eq_some_iff.1 hh).1
    exact Or.inr ⟨g, cap, cur, rfl, hg, by rw [hb.block g (by omega)]; exact hh, r⟩

set_option maxRecDepth 100000 in
set_option maxHeartbeats 4000000 in
theorem choose_law_gt (n k : Int) (w : World) (hg : ErrT w) (n0 : 0 ≤ n) (_n1 : n ≤ 255) (k0 : 0 ≤ k) (_k1 : k ≤ 255) (nn jj : Nat) (hnn : n % 62 = nn) (hjj : k % 62 = jj) (hgt : nn < jj) :
    Calls Tryd.prog 8 #[.int .u8 n, .int .u8 k] w fun e w' => e = .returned (.bool true) ∧ Below w.heap.size w w' := by
  have bn : nn < 62 := by omega
  have bk : jj < 62 := by omega
  have dd : decide (nn < jj) = true := decide_eq_true hgt
  go_enter Tryd.func8, Tryd.ntmps8
  go_wp2_with fail
  refine (alive_ok _ hg).mono ?_; rintro e w1 ⟨rfl, hb1⟩
  go_wp2_with fail
  refine (choose_nat _ _ nn jj _ (by omega) (by omega) (by omega) (by omega) 0 (by rw [bin_lt _ _ hgt]; rfl)).mono ?_; rintro e w2 ⟨rfl, hb2⟩
  go_wp2_with fail
  refine (choose_neg _ _ _ (by omega) (by omega)).mono ?_; rintro e w3 ⟨rfl, rfl⟩
  have hg2 := (hg.below hb1 (Nat.le_refl _)).below hb2 (Nat.le_refl _)
  go_wp2_with fail
  refine (code_hit w2.heap.size 1 _ (hg2.alloc _) (by simp)).mono ?_; rintro e w4 ⟨rfl, hb4⟩
  go_wp2_with fail
  go_ret
  have s1 := hb1.size; have s2 := hb2.size
  exact ⟨rfl, hb1.trans ((hb2.mono s1).trans ((Below.alloc (Below.refl _ _) (by omega) _).trans (hb4.mono (by simp; omega))))⟩

set_option maxRecDepth 100000 in
set_option maxHeartbeats 4000000 in
theorem choose_law_le (n k : Int) (w : World) (hg : ErrT w) (n0 : 0 ≤ n) (_n1 : n ≤ 255) (k0 : 0 ≤ k) (_k1 : k ≤ 255) (nn jj : Nat) (hnn : n % 62 = nn) (hjj : k % 62 = jj) (hle : jj ≤ nn) :
    Calls Tryd.prog 8 #[.int .u8 n, .int .u8 k] w fun e w' => e = .returned (.bool true) ∧ Below w.heap.size w w' := by
  have bn : nn < 62 := by omega
  have bk : jj < 62 := by omega
  have dd : decide (nn < jj) = false := decide_eq_false (by omega)
  obtain ⟨i0, hi, hz0, hz1, hz2⟩ := info_parts Tryd.infoI64
  obtain ⟨x, hx⟩ : ∃ x : Int, ((bin nn jj : Nat) : Int) = x := ⟨_, rfl⟩
  have hx2 : ((bin nn (nn - jj) : Nat) : Int) = x := by rw [bin_symm nn jj hle]; exact hx
  obtain ⟨p, hp⟩ : ∃ p : Int, (2 : Int) ^ nn = p := ⟨_, rfl⟩
  have hS : sumTo (Zb nn) (nn + 1) = p := by rw [sum_bin]; exact hp
  have hpb := two_bd nn (by omega)
  rw [hp] at hpb
  have HX := Lib.hid hx; have HX2 := Lib.hid hx2; have HP := Lib.hid hp; have HS := Lib.hid hS; have HPB := Lib.hid hpb
  clear hx hx2 hp hS hpb
  go_enter Tryd.func8, Tryd.ntmps8
  go_wp2_with fail
  refine (alive_ok _ hg).mono ?_; rintro e w1 ⟨rfl, hb1⟩
  go_wp2_with fail
  refine (choose_nat _ _ nn jj _ (by omega) (by omega) (by omega) (by omega) x HX.out).mono ?_; rintro e w2 ⟨rfl, hb2⟩
  go_wp2_with fail
  refine (choose_nat _ _ nn (nn - jj) _ (by omega) (by omega) (by omega) (by omega) x HX2.out).mono ?_; rintro e w3 ⟨rfl, hb3⟩
  have B3 := hb1.trans ((hb2.mono hb1.size).trans (hb3.mono (Nat.le_trans hb1.size hb2.size)))
  have hg3 := hg.below B3 (Nat.le_refl _)
  clear hb1 hb2 hb3 hg
  go_wp2_with fail
  go_loopw [11, 12] (fun v i wr => ∃ q : Nat, q ≤ nn + 1 ∧ i = .int .i64 q ∧ wr.ownsRow w.heap.size 2 1 v q ((List.range q).map fun t => Value.int .i64 (Zb nn t)) ∧ Below w.heap.size w wr) (fun _ i _ => nn + 1 - (intOf i).toNat)
  case atStart => exact ⟨0, Nat.zero_le _, rfl, World.ownsRow_nil _ _ _ _, B3⟩
  case round =>
    obtain ⟨q, hq, rfl, hown, hbw⟩ := hrel
    by_cases hlt : q < nn + 1
    · obtain ⟨z, hz⟩ : ∃ z : Int, Zb nn q = z := ⟨_, rfl⟩
      have HZ := Lib.hid hz
      clear hz
      go_wp2_with fail
      refine (choose_nat _ _ nn q _ (by omega) (by omega) (by omega) (by omega) z HZ.out).mono ?_; rintro e w4 ⟨rfl, hb4⟩
      have hown4 := own_below hown hb4 (Nat.le_refl _)
      have hs := hbw.size
      have hs4 := hb4.size
      have hbw4 := hbw.trans (hb4.mono hs)
      clear hb4
      go_wp2_with (at_builtin; refine wpList_append_own _ rfl _ _ 39 rfl w.heap.size 2 i0 (.int .i64 0) 1 8 Tryd.underlying39 hi hz0 hz1 hz2 rfl (by decide) _ _ _ rfl (hown4.alloc _) ⟨w4.heap.size, 0, none⟩ 1 1 [.int .i64 z] rfl rfl ?c1 ?c2 ?c3 ?c4 ?c5 ?_)
      case c1 =>
        intro j u hj
        match j, hj with
        | 0, hj => simp at hj; subst hj; simp [Addr.add]
      case c2 => intro u hu; simp at hu; subst hu; rfl
      case c3 => unfold maxLen; omega
      case c4 => omega
      case c5 => simp; omega
      intro v' w5 hown' hgrow _
      have e1 : ((List.range q).map fun t => Value.int .i64 (Zb nn t)) ++ [Value.int .i64 z] = (List.range (q + 1)).map fun t => Value.int .i64 (Zb nn t) := by rw [List.range_succ, List.map_append, ← HZ.out]; rfl
      rw [e1] at hown'
      have hbw5 := (hbw4.alloc (by omega) (.cells #[.int .i64 z] 2)).grown hgrow (by simp; omega) (fun k hk => (hown4.lt k hk).1)
      clear hown hown4 hbw hbw4 hgrow e1
      go_wp2
      go_roundw
      case rel => exact ⟨q + 1, by omega, by go_num, hown', hbw5⟩
      case measure => simp [intOf]; omega
    · obtain rfl : q = nn + 1 := by omega
      have hiv := own_intsV hown
      have ht := total_told _ (nn + 1) (Zb nn) p wr HS.out (by omega) hiv (fun i => by
        unfold Zb
        rcases Nat.lt_or_ge nn i with h | h
        · rw [bin_lt _ _ h]; decide
        · have := (bin_bd nn i (by omega) h).1; omega)
      rw [fitV, fitC, if_pos HPB.out, if_pos HPB.out] at ht
      have HT := Lib.hid ht
      have HIV := Lib.hid hiv
      clear ht hown hiv
      go_wp2_with fail
      refine HT.out.mono ?_; rintro e w4 ⟨v4, rfl, e4, hb4⟩
      obtain rfl := e4.nil
      go_wp2_with fail
      refine (pow_two _ nn _ (by omega) (by omega) p HP.out).mono ?_; rintro e w5 ⟨rfl, rfl⟩
      go_wp2_with fail
      refine (least_told _ (nn + 1) (Zb nn) _ (by omega) (by omega) (HIV.out.below hb4 (Nat.le_refl _))).mono ?_; rintro e w5 ⟨L, rfl, hL, rfl⟩
      obtain rfl := least_bin nn L hL
      clear hL
      go_wp2_with fail
      go_ret
      exact ⟨rfl, hbw.trans (hb4.mono hbw.size)⟩
end Go.Proofs.YtdfackmaimmapaaDoor
