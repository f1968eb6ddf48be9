/- RankSplit: the walk over a list without parts, and over a long one. -/
import Derived.Test.YtgphdngfbcjmcaaDoorSplitLaw
namespace Go.Proofs.YtgphdngfbcjmcaaDoor
open Go.RowKit

set_option maxRecDepth 100000 in
set_option maxHeartbeats 4000000 in
theorem split_law0 (t n : Int) (ao : Option Addr) (cap : Nat) (w : World) (hg : ErrT w) (t0 : -9223372036854775808 ≤ t) (t1 : t ≤ 9223372036854775807) (n0 : -9223372036854775808 ≤ n) (n1 : n ≤ 9223372036854775807) :
    Calls Tryd.prog 3 #[.int .i64 t, .int .i64 n, .slice ao 0 cap] w fun e w' => e = .returned (.bool true) ∧ Below w.heap.size w w' := by
  go_enter Tryd.func3, Tryd.ntmps3
  go_wp2_with fail
  refine (alive_ok _ hg).mono ?_; rintro e w1 ⟨rfl, hb1⟩
  have hg1 := hg.below hb1 (Nat.le_refl _)
  clear hg
  go_upto_region 5 with fail
  go_cut [7, 8] (fun x y wx => SplitCut t n w1 x y wx)
  case first =>
    by_cases hbad : t < 0 ∨ n < 1 ∨ 64 < n
    · have HBAD := Lib.hid hbad
      clear hbad
      go_wp2_with fail
      refine (split_bad t n _ HBAD.out).mono ?_; rintro e w2 ⟨rfl, rfl⟩
      go_wp2_with fail
      go_meet
      exact ⟨Or.inl ⟨HBAD.out, rfl, _, rfl, by simp⟩, (Below.refl _ _).alloc (Nat.le_refl _) _, hg1.alloc _⟩
    · obtain ⟨m, rfl⟩ : ∃ m : Nat, n = m := ⟨n.toNat, by omega⟩
      have HBAD := Lib.hid hbad
      have hs := split_ok t m (sp t m) w1 (by omega) t1 (by omega) (by omega) (sp_ends t m (by omega) (by omega))
      have HS := Lib.hid hs
      have m0 : 1 ≤ m := by omega
      have m1 : m ≤ 64 := by omega
      have t00 : 0 ≤ t := by omega
      clear hs hbad
      go_wp2_with fail
      refine HS.out.mono ?_; rintro e w2 ⟨v, rfl, _, hv, hb2⟩
      go_wp2_with fail
      go_meet
      exact ⟨Or.inr ⟨HBAD.out, rfl, t00, m, rfl, m0, m1, hv⟩, hb2, hg1.below hb2 (Nat.le_refl _)⟩
  case rest =>
    obtain ⟨hsc, hb2, hg2⟩ := hcut
    have HSC := Lib.hid hsc
    clear hsc
    go_upto_region 6 with fail
    go_cut [39] (fun x wx => ∃ b : Bool, CutIs b wc x wx ∧ (b = true ↔ BadArgs t n))
    case first =>
      by_cases h1 : t < 0
      · have d1 : decide (t < 0) = true := decide_eq_true h1
        go_wp2_with fail
        go_meet
        exact ⟨true, ⟨rfl, rfl⟩, fun _ => Or.inl h1, fun _ => rfl⟩
      · have d1 : decide (t < 0) = false := decide_eq_false h1
        by_cases h2 : n < 1
        · have d2 : decide (n < 1) = true := decide_eq_true h2
          go_wp2_with fail
          go_meet
          exact ⟨true, ⟨rfl, rfl⟩, fun _ => Or.inr (Or.inl h2), fun _ => rfl⟩
        · have d2 : decide (n < 1) = false := decide_eq_false h2
          by_cases h3 : 64 < n
          · have d3 : decide (64 < n) = true := decide_eq_true h3
            go_wp2_with fail
            go_meet
            exact ⟨true, ⟨rfl, rfl⟩, fun _ => Or.inr (Or.inr h3), fun _ => rfl⟩
          · have d3 : decide (64 < n) = false := decide_eq_false h3
            go_wp2_with fail
            go_meet
            exact ⟨false, ⟨rfl, rfl⟩, fun h => absurd h (by decide), fun h => by unfold BadArgs at h; omega⟩
    case rest =>
      obtain ⟨bb, ⟨rfl, rfl⟩, hbb⟩ := hcut
      obtain ⟨wq, hwq⟩ : ∃ wq, wq = wc := ⟨_, rfl⟩
      subst hwq
      go_upto_if 39 with fail
      go_cut [] (fun wx => Half wq wx)
      case first =>
        have HSC := HSC
        rcases HSC.out with ⟨hbd, rfl, b, rfl, hcb⟩ | ⟨hbd, rfl, t00, m, rfl, m0, m1, hv⟩
        · obtain rfl := hbb.2 hbd
          have HB := Lib.hid hbd
          clear hbd HSC hbb
          go_wp2_with fail
          refine (code_hit b 1 _ hg2 hcb).mono ?_; rintro e w3 ⟨rfl, hb3⟩
          go_wp2_with fail
          go_meet
          exact ⟨hb3, hg2.below hb3 (Nat.le_refl _)⟩
        · obtain rfl : bb = false := by
            cases bb with
            | false => rfl
            | true => exact absurd (hbb.1 rfl) hbd
          have HB := Lib.hid hbd
          have HV := Lib.hid hv
          clear hbd HSC hbb hv
          have HR := Lib.hid (refsplit_ok t m (sp t m) wq t1 m0 m1 (sp_ends' t m t00 m0))
          go_wp2_with fail
          refine HR.out.mono ?_; rintro e w3 ⟨v3, rfl, _, hv3, hb3⟩
          have hvv := HV.out.below hb3 (Nat.le_refl _)
          have hg3 := hg2.below hb3 (Nat.le_refl _)
          rcases hv3 with ⟨h, _⟩ | ⟨_, b3, off3, cap3, rfl, hc3⟩
          · omega
          rcases HV.out with ⟨h, _⟩ | ⟨_, b4, off4, cap4, rfl, hc4⟩
          · omega
          have HC3 := Lib.hid hc3
          have HC4 := Lib.hid (show ∀ i, i < m → w3.cell? ⟨b4, off4 + i * 2, none⟩ = some (.int .i64 (sp t m i)) ∧ w3.cell? ⟨b4, off4 + i * 2 + 1, none⟩ = some (.int .i64 (sp t m (i + 1))) from fun i hi => by
            have hl : b4 < wq.heap.size := World.block_lt_of_cell? _ _ (hc4 i hi).1
            exact ⟨(hb3.cell (p := ⟨b4, off4 + i * 2, none⟩) hl).trans (hc4 i hi).1, (hb3.cell (p := ⟨b4, off4 + i * 2 + 1, none⟩) hl).trans (hc4 i hi).2⟩)
          clear hc3 hc4 HV HR
          go_wp2_with fail
          go_loopw [10] (fun i wr => ∃ k : Nat, k ≤ m ∧ i = .int .i64 k ∧ Below w3.heap.size w3 wr) (fun i _ => m - (intOf i).toNat)
          case atStart => exact ⟨0, Nat.zero_le _, rfl, Below.refl _ _⟩
          case round =>
            obtain ⟨k, hk, rfl, hbk⟩ := hrel
            by_cases hlt : k < m
            · have e3 := HC3.out k hlt
              have e4 := HC4.out k hlt
              have l3 : b3 < w3.heap.size := World.block_lt_of_cell? _ _ e3.1
              have l4 : b4 < w3.heap.size := World.block_lt_of_cell? _ _ e4.1
              have x0 := (hbk.cell (p := ⟨b3, off3 + k * 2, none⟩) l3).trans e3.1
              have x1 := (hbk.cell (p := ⟨b3, off3 + k * 2 + 1, none⟩) l3).trans e3.2
              have y0 := (hbk.cell (p := ⟨b4, off4 + k * 2, none⟩) l4).trans e4.1
              have y1 := (hbk.cell (p := ⟨b4, off4 + k * 2 + 1, none⟩) l4).trans e4.2
              have dm : ((m : Int) == m) = true := beq_iff_eq.2 rfl
              have dn : ((m : Int) != m) = false := by simp
              clear e3 e4
              go_wp2_with fail
              go_quiet (fail)
              go_wp2_with fail
              go_roundw
              case rel => exact ⟨k + 1, by omega, by go_num, below_drewN hbk _⟩
              case measure => simp [intOf]; omega
            · obtain rfl : k = m := by omega
              have hcs : ∀ i, i < k → wr.cell? ⟨b4, off4 + i * 2, none⟩ = some (.int .i64 (sp t k i)) ∧ wr.cell? ⟨b4, off4 + i * 2 + 1, none⟩ = some (.int .i64 (sp t k (i + 1))) := fun i hi => by
                have e4 := HC4.out i hi
                have l4 : b4 < w3.heap.size := World.block_lt_of_cell? _ _ e4.1
                exact ⟨(hbk.cell (p := ⟨b4, off4 + i * 2, none⟩) l4).trans e4.1, (hbk.cell (p := ⟨b4, off4 + i * 2 + 1, none⟩) l4).trans e4.2⟩
              have hw := whole_any b4 off4 k cap4 (sp t k) (fun i => sp t k (i + 1)) wr (by omega) hcs
              have hE := sp_ends t k t00 m0
              have e1 : okB (sp t k) (fun i => sp t k (i + 1)) k = true := okB_ends hE (Int.ediv_nonneg t00 (by omega)) k (Nat.le_refl _)
              have e2 : endI (fun i => sp t k (i + 1)) k = t := by
                unfold endI
                rw [if_neg (by omega)]
                show sp t k (k - 1 + 1) = t
                rw [Nat.sub_add_cancel m0]
                exact hE.all
              have hw2 : Calls Tryd.prog 8 #[.slice (some ⟨b4, off4, none⟩) k cap4] wr fun e w' => e = .returned (.tuple #[.int .i64 t, .bool true]) ∧ Below wr.heap.size wr w' :=
                hw.mono fun e w' ⟨h1, h2⟩ => ⟨by rw [h1, e1, e2]; rfl, h2⟩
              have HW := Lib.hid hw2
              clear hw hE e1 e2 hw2 hcs
              go_wp2_with fail
              refine HW.out.mono ?_; rintro e w4 ⟨rfl, hb4⟩
              go_wp2_with fail
              go_meet
              have s3 := hb3.size
              have B := hb3.trans ((hbk.mono s3).trans (hb4.mono (Nat.le_trans s3 hbk.size)))
              exact ⟨B, hg2.below B (Nat.le_refl _)⟩
      case rest =>
        obtain ⟨hb3, hg3⟩ := hcut
        have Br := hb1.trans ((hb2.mono hb1.size).trans (hb3.mono (Nat.le_trans hb1.size hb2.size)))
        clear HSC hbb hb1 hb2 hb3 hg1 hg2
        go_wp2_with fail
        refine wp_loop_rounds 1 ?_
        rw [rounds_succ]
        go_wp2_with fail
        refine (whole_none none 0 (fun _ => 0) (fun _ => 0) _).mono ?_; rintro e w4 ⟨rfl, hb4⟩
        go_wp2_with fail
        go_ret
        exact ⟨rfl, Br.trans (hb4.mono Br.size)⟩

set_option maxRecDepth 100000 in
theorem split_long (t n : Int) (ao : Option Addr) (len cap : Nat) (w : World) (hg : ErrT w) (l1 : 60 < len) :
    Calls Tryd.prog 3 #[.int .i64 t, .int .i64 n, .slice ao len cap] w fun e w' => e = .returned (.bool true) ∧ Below w.heap.size w w' := by
  go_enter Tryd.func3, Tryd.ntmps3
  go_wp2_with fail
  refine (alive_ok _ hg).mono ?_; rintro e w1 ⟨rfl, hb1⟩
  go_wp2_with fail
  go_ret
  exact ⟨rfl, hb1⟩
end Go.Proofs.YtgphdngfbcjmcaaDoor
