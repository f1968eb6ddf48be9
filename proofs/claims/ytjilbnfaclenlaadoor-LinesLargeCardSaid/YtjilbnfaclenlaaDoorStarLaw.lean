/- LinesLarge: the law. -/
import Derived.Test.YtjilbnfaclenlaaDoorLinesA
import Derived.Test.YtjilbnfaclenlaaDoorLinesR
import Derived.Test.YtjilbnfaclenlaaDoorLinesX
import Derived.Test.YtjilbnfaclenlaaDoorStarP
import Derived.Test.YtjilbnfaclenlaaDoorLaid
import Derived.BigQuiet
namespace Go.Proofs.YtjilbnfaclenlaaDoor
open Go.RowKit

set_option maxRecDepth 100000 in
set_option maxHeartbeats 4000000 in
theorem star_law (z : Int) (w : World) (hg : ErrT w) (h0 : 0 ≤ z) (h1 : z ≤ 255) :
    Calls Tryd.prog 3 #[.int .u8 z] w fun e w' => e = .returned (.bool true) ∧ Below w.heap.size w w' := by
  obtain ⟨j1, hi1, ky0, ky1, ky2⟩ := info_parts Tryd.infoInt6
  obtain ⟨j0, hj0, hz0, hz1, hz2⟩ := info_parts Tryd.infoAE
  have mkI : ∀ (k : Nat) (V : World), k ≤ 5000 → (Instr.makeSlice 31 (.int .i64 (k : Nat)) (.int .i64 (k : Nat))).run Tryd.prog V = .ok (.slice (some ⟨V.heap.size, 0, none⟩) k k) (V.alloc (.cells (madeCells #[.int .i64 0] k) 3)) := by
    intro k V hk
    have h := run_make (P := Tryd.prog) V 31 3 j1 (.int .i64 0) Tryd.underlying31 hi1 ky0 .i64 .i64 (k : Int) (k : Int) (by omega) (by omega) (by rw [ky2]; omega) (by omega)
    rw [h, ky1, Int.toNat_natCast, Nat.mul_one]
    rfl
  have AL := Lib.hid (alive_ok w)
  obtain ⟨k, hk⟩ : ∃ k : Nat, 170 + z % 20 = k := ⟨(170 + z % 20).toNat, by omega⟩
  have hk1 : 170 ≤ k := by omega
  have hk2 : k ≤ 189 := by omega
  have HK := Lib.hid hk; have HG := Lib.hid hg
  clear hk hg
  go_enter Tryd.func3, Tryd.ntmps3
  go_wp2_with fail
  refine AL.out.mono ?_; rintro e w1 ⟨rfl, hb1⟩
  have HB1 := Lib.hid hb1
  clear hb1
  go_wp2_with fail
  rw [HK.out]
  have HE0 := Lib.hid (World.ownsRow_nil w1 w.heap.size 25 2)
  go_loopg [4, 5] k (fun gh rv yv wr => ∃ i : Nat, i ≤ k ∧ gh = k - i ∧ yv = .int .i64 ((i : Int) + 1) ∧ wr.ownsRow w.heap.size 25 2 rv i (eL (starE i)) ∧ Below w.heap.size w wr)
  case atStart => exact ⟨0, Nat.zero_le _, rfl, rfl, HE0.out, HB1.out⟩
  case round =>
    obtain ⟨i, hi, rfl, rfl, hown, hB⟩ := hrel
    obtain ⟨A, c, rfl⟩ := own_form hown
    by_cases hit : i < k
    · have t3 : decide ((i : Int) + 1 ≤ k) = true := decide_eq_true (by omega)
      have i1 : (i : Int) < k := by omega
      have i2 : (0 : Int) ≤ i := by omega
      have i3 : i ≤ 189 := by omega
      have hb2 : Below wr.heap.size wr (wr.alloc (.cells #[.int .i64 0, .int .i64 ((i : Int) + 1)] 25)) := (Below.refl _ _).alloc (Nat.le_refl _) _
      have hs2 : w.heap.size ≤ (wr.alloc (.cells #[.int .i64 0, .int .i64 ((i : Int) + 1)] 25)).heap.size := by have := hB.size; simp; omega
      have HO2 := Lib.hid (own_below hown hb2 (Nat.le_refl _)); have HN2 := Lib.hid (edges_new wr 25 0 ((i : Int) + 1) 1); have HB2 := Lib.hid (hB.alloc hB.size (.cells #[.int .i64 0, .int .i64 ((i : Int) + 1)] 25)); have HIT := Lib.hid hit
      clear hb2 hown hB hit
      go_wp2_with (at_builtin; refine wpList_appEdges _ rfl _ _ 23 25 rfl w.heap.size j0 (.agg #[.int .i64 0, .int .i64 0]) Tryd.underlying23 hj0 hz0 rfl hz1 hz2 _ i _ rfl HO2.out _ [((0 : Int), (i : Int) + 1)] rfl HN2.out (by simp; omega) hs2 ?_)
      intro A3 c3 w5 hown3 hgrow3
      have HB5 := Lib.hid (hgrow3.below HO2.out HB2.out (Nat.le_refl _) hs2); have HO5 := Lib.hid hown3
      clear hown3 hgrow3
      go_wp2_with fail
      go_roundg (k - (i + 1))
      case rel => exact ⟨i + 1, HIT.out, rfl, by go_num, by rw [starE_succ, eL_app]; exact HO5.out, HB5.out⟩
      case measure => have := HIT.out; omega
    · obtain rfl : k = i := by omega
      have t3 : decide ((k : Int) + 1 ≤ k) = false := decide_eq_false (by omega)
      have mk : ∀ V : World, (Instr.makeSlice 31 (.int .i64 ((k : Int) + 1)) (.int .i64 ((k : Int) + 1))).run Tryd.prog V = .ok (.slice (some ⟨V.heap.size, 0, none⟩) (k + 1) (k + 1)) (V.alloc (.cells (madeCells #[.int .i64 0] (k + 1)) 3)) := fun V => by
        have := mkI (k + 1) V (by omega)
        rwa [show ((k + 1 : Nat) : Int) = (k : Int) + 1 by omega] at this
      have hb4 : Below w.heap.size w (wr.alloc (.cells (madeCells #[.int .i64 0] (k + 1)) 3)) := hB.alloc hB.size _
      have hev := (own_edges hown).below (w' := wr.alloc (.cells (madeCells #[.int .i64 0] (k + 1)) 3)) ((Below.refl _ _).alloc (Nat.le_refl _) _) (Nat.le_refl _)
      have hin : ∀ e, e ∈ starE k → In64 e.1 ∧ In64 e.2 := fun e he => by have := starE_mem he; unfold In64; omega
      have NG := new_good (List.replicate (k + 1) 0) (starE k) _ _ _ (zeros_seqL wr 3 (k + 1)) hev hin (fault_zerosL (k + 1) (by rw [starE_len]; omega) (starE_good k) (by omega))
      rw [starE_sort] at NG
      have hF : Fine (starE k) := by have := (good_fine (starE_good k)).1; rwa [starE_sort] at this
      have hP2 := star_prs k
      have hPl := star_pairs k k
      obtain ⟨p, hp⟩ : ∃ p, (prs (idsL k)).length = p := ⟨_, rfl⟩
      rw [hp] at hP2 hPl
      have hkk : k * (k - 1) ≤ 189 * 189 := Nat.mul_le_mul (by omega) (by omega)
      have hp4 : p ≤ 20000 := by omega
      have e1 : (k : Int) * ((k : Int) - 1) = 2 * (p : Nat) := by
        have e : (k : Int) - 1 = ((k - 1 : Nat) : Int) := by omega
        rw [e, ← Int.natCast_mul, ← hP2]; omega
      have m1 : (2 * (p : Nat) : Int).tdiv 2 = p := Int.mul_tdiv_cancel_left _ (by decide)
      have HNG := Lib.hid NG; have HF := Lib.hid hF; have HPL := Lib.hid hPl; have HP := Lib.hid hp; have HE1 := Lib.hid e1; have HM1 := Lib.hid m1; have HB4 := Lib.hid hb4; have HMK := Lib.hid mk
      clear hit hown hB hb4 hev hin NG hF hPl hp hP2 hkk e1 m1 mk mkI hi1 ky0 ky1 ky2 hj0 hz0 hz1 hz2
      have mk := HMK.out
      go_wp2_with fail
      refine HNG.out.mono ?_; rintro e w5 ⟨g, rfl, hG5, hb5⟩
      have hgg := (HB4.out.trans (hb5.mono HB4.out.size))
      have HB5 := Lib.hid hgg
      have hL : (List.replicate (k + 1) (0 : Int)).length = k + 1 := List.length_replicate
      have PR := fun (W : World) (hb : Below w5.heap.size w5 W) => pairs_any (hG5.below hb (Nat.le_refl _)) (by rw [starE_len]; omega) (by rw [hL]; omega)
      rw [hL, HPL.out] at PR
      have HPR := Lib.hid PR
      by_cases hle : p ≤ 16384
      · have LO := lines_of hG5 HF.out (by rw [hL]; omega) (by rw [starE_len]; omega) (by rw [hL, HPL.out]; exact hle)
        rw [hL, starE_len] at LO
        have hDl : (sortE (pairsE (k + 1) (starE k))).length = p := by rw [sortE_len, HPL.out]
        have hdeg := line_degree (S := starE k) (n := k + 1) (id := k - 1) (x := 0) (y := k) (by rw [starE_len]; omega) (by rw [starE_at (by omega)]; exact Prod.ext rfl (by simp only; omega)) (by omega) (by omega)
        rw [show ((0 : Nat) : Int) = 0 from rfl, star_near0, star_near (by omega), if_pos (by omega)] at hdeg
        obtain ⟨D, hD⟩ : ∃ D, sortE (pairsE (k + 1) (starE k)) = D := ⟨_, rfl⟩
        rw [hD] at LO hDl hdeg
        have HLO := Lib.hid LO; have HDL := Lib.hid hDl; have HDEG := Lib.hid hdeg
        have t5 : decide ((16384 : Int) < p) = false := decide_eq_false (by omega)
        have t5' : decide (16384 < p) = false := decide_eq_false (by omega)
        have t6 : ((p : Int) != p) = false := by simp
        have t7 : ((p : Int) == p) = true := by simp
        have t8 : ((k : Int) - 1 == (k : Int) - 1) = true := by simp
        clear hb5 hgg hL PR hle LO hDl hD hdeg hG5
        go_wp2_with fail
        refine HLO.out.mono ?_; rintro e w6 ⟨h, rfl, hH, hb6⟩
        have SZ := size_any hH
        rw [HDL.out] at SZ
        have DG := degree_ok hH (v := k - 1) (by simp; omega)
        rw [show (nearL D ((k - 1 : Nat) : Int)).length = k - 1 by have := HDEG.out; omega, show ((k - 1 : Nat) : Int) = (k : Int) - 1 by omega] at DG
        have HSZ := Lib.hid SZ; have HDG := Lib.hid DG; have HPR6 := Lib.hid (HPR.out _ hb6); have HB6 := Lib.hid (HB5.out.trans (hb6.mono HB5.out.size))
        have e1 := HE1.out; have m1 := HM1.out
        clear hH hb6 SZ DG
        go_wp2_with fail
        refine HPR6.out.mono ?_; rintro e w7 ⟨rfl, hw⟩; obtain rfl := hw.symm
        go_wp2_with fail
        refine HSZ.out.mono ?_; rintro e w7 ⟨rfl, hw⟩; obtain rfl := hw.symm
        go_wp2_with fail
        refine HDG.out.mono ?_; rintro e w7 ⟨rfl, hw⟩; obtain rfl := hw.symm
        go_wp2_with fail
        go_ret
        exact ⟨rfl, HB6.out⟩
      · have LX := lines_over hG5 (by rw [hL]; omega) (by rw [hL]; omega) (by rw [starE_len]; omega) (by rw [star_at0, HP.out]; omega)
        have HLX := Lib.hid LX
        have t5 : decide ((16384 : Int) < p) = true := decide_eq_true (by omega)
        have t5' : decide (16384 < p) = true := decide_eq_true (by omega)
        have t6 : ((p : Int) != p) = false := by simp
        clear hb5 hgg hL PR hle LX hG5
        go_wp2_with fail
        refine HLX.out.mono ?_; rintro e w6 ⟨V, B, nb, nm, rfl, ⟨x, hV0⟩, hER, hb6⟩
        have hg6 : ErrT w6 := HG.out.below (HB5.out.trans (hb6.mono HB5.out.size)) (Nat.le_refl _)
        have WD := words_chain w6 hg6 (by omega) hER
        have CD := fun (W : World) (hb : Below w6.heap.size w6 W) => code_chain W (hg6.below hb (Nat.le_refl _)) (hER.below hb (Nat.le_refl _))
        rw [hV0] at WD CD ⊢
        have HWD := Lib.hid WD; have HCD := Lib.hid CD; have HPR6 := Lib.hid (HPR.out _ hb6); have HB6 := Lib.hid (HB5.out.trans (hb6.mono HB5.out.size))
        have e1 := HE1.out; have m1 := HM1.out
        clear hER hb6 hg6 WD CD hV0
        go_wp2_with fail
        refine HPR6.out.mono ?_; rintro e w7 ⟨rfl, hw⟩; obtain rfl := hw.symm
        go_wp2_with fail
        refine HWD.out.mono ?_; rintro e w7 ⟨v7, rfl, hS7, hb7⟩
        rcases hS7 with ⟨h, _⟩ | ⟨_, wb, wo, wc', rfl, hc⟩
        · cases h
        have hc0 := hc 0 (by omega)
        rw [Nat.add_zero] at hc0
        have hwl : wb < w7.heap.size := World.block_lt_of_cell? _ _ hc0
        have HCD7 := Lib.hid (HCD.out _ hb7); have HB7 := Lib.hid (HB6.out.trans (hb7.mono HB6.out.size)); have HC0 := Lib.hid hc0
        clear hb7 hc hc0
        go_wp2_with fail
        refine HCD7.out.mono ?_; rintro e w8 ⟨rfl, hb8⟩
        have hc8 : w8.cell? ⟨wb, wo, none⟩ = some (.string ⟨#[108, 105, 110, 101, 115]⟩) := (hb8.cell (p := ⟨wb, wo, none⟩) hwl).trans HC0.out
        have HB8 := Lib.hid (HB7.out.trans (hb8.mono HB7.out.size))
        clear hb8 hwl
        go_wp2_with fail
        go_ret
        exact ⟨rfl, HB8.out⟩
end Go.Proofs.YtjilbnfaclenlaaDoor
