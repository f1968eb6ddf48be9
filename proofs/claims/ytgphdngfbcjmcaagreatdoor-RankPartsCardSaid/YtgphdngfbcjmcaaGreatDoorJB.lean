/- A law's one result, kept in a cell of its own. RankBounds: the walk. -/
import Derived.Test.YtgphdngfbcjmcaaGreatDoorMem
import Derived.Test.YtgphdngfbcjmcaaGreatDoorEach14
import Derived.Test.YtgphdngfbcjmcaaGreatDoorMade13
import Derived.Test.YtgphdngfbcjmcaaGreatDoorJS
import Derived.Test.YtgphdngfbcjmcaaGreatDoorRange
import Derived.Deep.DeepCutAuto
import Derived.Deep.QuietTactic
import Derived.BigQuiet
import Derived.WalkSmall
namespace Go.Proofs.YtgphdngfbcjmcaaGreatDoor
section
open Go.RowKit

theorem results_bool {fn : Func} {p : Tmp} (h : fn.results = #[.cell p 4]) (tmps : Array Value) (w : World) (g : Nat) (v : Value) (hp : tmps.getD p undef = .pointer (some ⟨g, 0, none⟩)) (hc : Whole w g 4 #[v]) :
    (results fn tmps).run Tryz.prog w = .ok v w := by
  have hp' : tmps[p]?.getD undef = .pointer (some ⟨g, 0, none⟩) := by simpa using hp
  have hcell := hc.cell 0
  have hcell' : w.cell? ⟨g, 0, none⟩ = some v := hcell
  simp [results, h, hp', asAddr, loadVar, go_sem, hcell']
end

section
open Go.RowKit

def CutIs (b : Bool) (W : World) (x : Value) (wx : World) : Prop := x = .bool b ∧ wx = W
/-- What is left behind the parts of a split. -/
def HalfB (W wx : World) : Prop := Below W.heap.size W wx ∧ ErrT wx
theorem sp_two (t : Int) (n k : Nat) (t0 : 0 ≤ t) (hk : k + 1 < n) : 0 ≤ sp t n (k + 1) - sp t n k ∧ 0 ≤ sp t n (k + 1 + 1) - sp t n (k + 1) ∧ sp t n (k + 1 + 1) - sp t n (k + 1) ≤ sp t n (k + 1) - sp t n k ∧ sp t n (k + 1) - sp t n k - (sp t n (k + 1 + 1) - sp t n (k + 1)) ≤ 1 := by
  have h := sp_ends t n t0 (by omega)
  have q0 : 0 ≤ t / (n : Int) := Int.ediv_nonneg t0 (by omega)
  have h1 := h.long k; have h2 := h.short k; have h3 := h.long (k + 1); have h4 := h.short (k + 1)
  revert h1 h2 h3 h4 q0
  generalize t / (n : Int) = q
  generalize t % (n : Int) = r
  generalize sp t n (k + 1 + 1) = x2
  generalize sp t n (k + 1) = x1
  generalize sp t n k = x0
  intro q0 h1 h2 h3 h4
  rcases Int.lt_or_le ((k + 1 : Nat) : Int) r with a | a
  · have := h3 a; have := h1 (by omega); omega
  · have := h4 (by omega) (by omega)
    rcases Int.lt_or_le (k : Int) r with b | b
    · have := h1 b; omega
    · have := h2 (by omega) (by omega); omega
theorem sp_far (t : Int) (n l : Nat) (t0 : 0 ≤ t) (hl : l < n) : 0 ≤ sp t n (0 + 1) - sp t n 0 ∧ 0 ≤ sp t n (l + 1) - sp t n l ∧ sp t n (0 + 1) - sp t n 0 - (sp t n (l + 1) - sp t n l) ≤ 1 := by
  have h := sp_ends t n t0 (by omega)
  have q0 : 0 ≤ t / (n : Int) := Int.ediv_nonneg t0 (by omega)
  have h1 := h.long 0; have h2 := h.short 0; have h3 := h.long l; have h4 := h.short l
  revert h1 h2 h3 h4 q0
  generalize t / (n : Int) = q
  generalize t % (n : Int) = r
  generalize sp t n (l + 1) = x3
  generalize sp t n l = x2
  generalize sp t n (0 + 1) = x1
  generalize sp t n 0 = x0
  intro q0 h1 h2 h3 h4
  rcases Int.lt_or_le ((0 : Nat) : Int) r with a | a
  · have := h1 a
    rcases Int.lt_or_le (l : Int) r with b | b
    · have := h3 b; omega
    · have := h4 (by omega) (by omega); omega
  · have := h2 (by omega) (by omega)
    have := h4 (by omega) (by omega); omega

theorem each_laid {w w7 : World} {po : Option Addr} {f t : Int} (h : w7 = (w.alloc (.cells #[.pointer po] 28)).alloc (.cells #[.int .i64 f, .int .i64 t] 46)) :
    w7.cell? ⟨w.heap.size, 0, none⟩ = some (.pointer po) ∧ w7.cell? ⟨w.heap.size + 1, 0, none⟩ = some (.int .i64 f) ∧ w7.cell? ⟨w.heap.size + 1, 1, none⟩ = some (.int .i64 t) ∧ Below w.heap.size w w7 ∧ w7.heap.size = w.heap.size + 2 := by
  subst h
  have h1 := Whole.new w 28 #[.pointer po]
  have h2 := Whole.new (w.alloc (.cells #[.pointer po] 28)) 46 #[.int .i64 f, .int .i64 t]
  rw [World.size_alloc] at h2
  exact ⟨(h1.alloc _).cell 0, h2.cell 0, h2.cell 1, ((Below.refl _ _).alloc (Nat.le_refl _) _).alloc (by simp) _, by simp⟩

set_option maxRecDepth 100000 in
set_option maxHeartbeats 16000000 in
theorem bounds_law (n : Int) (C : List (List Int)) (v : Value) (t : Int) (u : Nat) (w : World) (hv : ListsV w v C) (hC : C.length ≤ 9223372036854775807) (hL : ∀ l ∈ C, l.length ≤ 9223372036854775807) (hg : ErrT w) (t1 : t ≤ 9223372036854775807) (hu : u < 256) :
    Calls Tryz.prog 7 #[.int .i64 n, v, .int .i64 t, .int .u8 u] w fun e w' => e = .returned (.bool true) ∧ Below w.heap.size w w' := by
  obtain ⟨A, c, rfl⟩ := hv.form
  obtain ⟨cl, hcl⟩ : ∃ m, C.length = m := ⟨_, rfl⟩
  rw [hcl] at hv ⊢
  obtain ⟨w1, hw1⟩ : ∃ W, w.alloc (.cells #[.bool false] 4) = W := ⟨_, rfl⟩
  have hb0 : Below w.heap.size w w1 := by rw [← hw1]; exact (Below.refl _ _).alloc (Nat.le_refl _) _
  have hR1 : Whole w1 w.heap.size 4 #[.bool false] := by rw [← hw1]; exact Whole.new _ _ _
  have HV := Lib.hid (hv.below hb0 (Nat.le_refl _)); have HG := Lib.hid (hg.below hb0 (Nat.le_refl _))
  have HB0 := Lib.hid hb0; have HR := Lib.hid hR1; have HW1 := Lib.hid hw1
  have HCL := Lib.hid hcl; have HC := Lib.hid hC; have HL := Lib.hid hL
  clear hv hg hb0 hR1 hw1 hcl hC hL
  obtain ⟨M, hM⟩ : ∃ M, u % 64 = M := ⟨_, rfl⟩
  have hM64 : M < 64 := by omega
  have hMI : (u : Int) % 64 = (M : Int) := by omega
  have hMJ : (1 : Int) + (M : Int) = ((M + 1 : Nat) : Int) := by omega
  clear hM
  refine (callsIn_wide (n := 6)).1 ?_
  refine callsIn_of_wp_marks Tryz.func7 rfl trivial ?_ rfl
  simp only [Tryz.ntmps7, List.size_toArray, List.length_cons, List.length_nil, Nat.reduceAdd, Nat.reduceSub, Array.replicate_succ, Array.replicate_zero, List.push_toArray, List.append_toArray, List.nil_append, List.cons_append]
  refine wpIn_wide.2 ?_
  go_wp2_with fail
  rw [HW1.out]
  refine (alive_ok w1 HG.out).mono ?_; rintro e w2 ⟨rfl, hb2⟩
  have HG2 := Lib.hid (HG.out.below hb2 (Nat.le_refl _))
  have HB2 := Lib.hid hb2
  clear hb2
  go_upto_region 4 with fail
  obtain ⟨m, hm⟩ : ∃ m, M + 1 = m := ⟨_, rfl⟩
  rw [show (M : Int) + 1 = ((M + 1 : Nat) : Int) from rfl, hm]
  have m0 : 1 ≤ m := by omega
  have m1 : m ≤ 64 := by omega
  clear hm hM64 hMI hMJ
  go_cut [28] from 21 to 28 (fun x wx => ∃ b : Bool, CutIs b w2 x wx ∧ (b = true ↔ 0 ≤ t))
  case first =>
    by_cases h1 : 0 ≤ t
    · have d1 : decide (0 ≤ t) = true := decide_eq_true h1
      go_wp2_with fail
      go_meet
      exact ⟨true, ⟨rfl, rfl⟩, fun _ => h1, fun _ => rfl⟩
    · have d1 : decide (0 ≤ t) = false := decide_eq_false h1
      go_wp2_with fail
      go_meet
      exact ⟨false, ⟨rfl, rfl⟩, fun h => absurd h (by decide), fun h => by omega⟩
  obtain ⟨bb, ⟨rfl, hwc⟩, hbb⟩ := hcut
  rw [hwc]
  clear hwc wc
  go_upto_if 28 with fail
  go_cut [] from 10 to 165 (fun wx => HalfB w2 wx)
  case first =>
    cases bb with
    | false =>
      go_wp2_with fail
      go_meet
      exact ⟨Below.refl _ _, HG2.out⟩
    | true =>
      have t00 : 0 ≤ t := hbb.1 rfl
      have HS := Lib.hid (split_ok t m (sp t m) w2 t00 t1 m0 m1 (sp_ends t m t00 m0))
      clear hbb
      go_wp2_with fail
      refine HS.out.mono ?_; rintro e w3 ⟨v3, rfl, _, hv3, hb3⟩
      rcases hv3 with ⟨h, _⟩ | ⟨_, b3, off3, cap3, rfl, hc3⟩
      · omega
      have HC3 : Hid (∀ i, i < m → w3.cell? ⟨b3, off3 + i * 2, none⟩ = some (.int .i64 (sp t m i)) ∧ w3.cell? ⟨b3, off3 + i * 2 + 1, none⟩ = some (.int .i64 (sp t m (i + 1)))) := Lib.hid hc3
      have HB3 := Lib.hid hb3
      clear hc3 hb3 HS
      obtain ⟨l, rfl⟩ : ∃ l, m = l + 1 := ⟨m - 1, by omega⟩
      have z0 := HC3.out 0 (by omega)
      have zl := HC3.out l (by omega)
      have hE := sp_ends t (l + 1) t00 (by omega)
      rw [hE.zero] at z0
      rw [hE.all] at zl
      have z00 := z0.1
      have zl1 := zl.2
      rw [Nat.zero_mul, Nat.add_zero] at z00
      clear z0 zl hE
      have dm : (((l + 1 : Nat) : Int) != ((l + 1 : Nat) : Int)) = false := by simp
      have dn : (t != t) = false := by simp
      have i1 : (l : Int) < 64 := by omega
      have i2 : (0 : Int) ≤ l := by omega
      go_wp2_with fail
      go_loopg [12] l (fun gh yv wr => ∃ k, k ≤ l ∧ gh = l - k ∧ yv = .int .i64 ((k : Int) + 1) ∧ Below w3.heap.size w3 wr)
      case atStart => exact ⟨0, Nat.zero_le _, rfl, rfl, Below.refl _ _⟩
      case round =>
        obtain ⟨k, hk, rfl, rfl, hbk⟩ := hrel
        have i3 : (0 : Int) ≤ k := by omega
        have i4 : (k : Int) ≤ l := by omega
        by_cases hkl : k < l
        · have e0 := HC3.out k (by omega)
          have e1 := HC3.out (k + 1) (by omega)
          have q := sp_two t (l + 1) k t00 (by omega)
          have hE := sp_ends t (l + 1) t00 (by omega)
          have lo := hE.lo k (by omega)
          have lo1 := hE.lo (k + 1) (by omega)
          have lo2 := hE.lo (k + 1 + 1) (by omega)
          have hi := hE.hi k (by omega)
          have hi1 := hE.hi (k + 1) (by omega)
          have hi2 := hE.hi (k + 1 + 1) (by omega)
          revert e0 e1 q lo lo1 lo2 hi hi1 hi2
          generalize sp t (l + 1) (k + 1 + 1) = x2
          generalize sp t (l + 1) (k + 1) = x1
          generalize sp t (l + 1) k = x0
          rintro ⟨e0, e1⟩ ⟨e2, e3⟩ ⟨q1, q2, q3, q4⟩ lo lo1 lo2 hi hi1 hi2
          have lb : b3 < w3.heap.size := World.block_lt_of_cell? _ _ e0
          have c0 := (hbk.cell (p := ⟨b3, off3 + k * 2, none⟩) lb).trans e0
          have c1 := (hbk.cell (p := ⟨b3, off3 + k * 2 + 1, none⟩) lb).trans e1
          have c2 := (hbk.cell (p := ⟨b3, off3 + (k + 1) * 2, none⟩) lb).trans e2
          have c3 := (hbk.cell (p := ⟨b3, off3 + (k + 1) * 2 + 1, none⟩) lb).trans e3
          have HBK := Lib.hid hbk
          have j1 : x1 ≤ 9223372036854775807 := by omega
          have j2 : x2 ≤ 9223372036854775807 := by omega
          have j0 : x0 ≤ 9223372036854775807 := by omega
          have s1 : decide (x1 - x0 < 0) = false := decide_eq_false (by omega)
          have s2 : decide (x2 - x1 < 0) = false := decide_eq_false (by omega)
          have s3 : decide (x1 - x0 < x2 - x1) = false := decide_eq_false (by omega)
          have s4 : decide (1 < x1 - x0 - (x2 - x1)) = false := decide_eq_false (by omega)
          have s5 : (x1 != x1) = false := by simp
          have s6 : decide ((k : Int) + 1 < ((l + 1 : Nat) : Int)) = true := decide_eq_true (by omega)
          have i5 : (k : Int) < l := by omega
          have HK := Lib.hid hkl
          clear hkl hE q3 q4 e0 e1 e2 e3 hbk
          go_wp2_with fail
          go_quiet (fail)
          go_wp2_with fail
          go_quiet (fail)
          go_wp2_with fail
          go_roundg (l - (k + 1))
          case rel => exact ⟨k + 1, HK.out, rfl, by go_num, below_drewN HBK.out _⟩
          case measure => have := HK.out; omega
        · obtain rfl : k = l := by omega
          have s6 : decide ((k : Int) + 1 < ((k + 1 : Nat) : Int)) = false := by simp
          have e0 := HC3.out 0 (by omega)
          have e1 := HC3.out k (by omega)
          have q := sp_far t (k + 1) k t00 (by omega)
          have hE := sp_ends t (k + 1) t00 (by omega)
          have lo := hE.lo k (by omega)
          have lo1 := hE.lo (0 + 1) (by omega)
          have hi := hE.hi k (by omega)
          have hi1 := hE.hi (0 + 1) (by omega)
          rw [hE.all] at e1 q
          rw [hE.zero] at e0 q
          revert e0 e1 q lo lo1 hi hi1
          generalize sp t (k + 1) (0 + 1) = x1
          generalize sp t (k + 1) k = x0
          rintro ⟨e0, e1⟩ ⟨e2, e3⟩ ⟨q1, q2, q3⟩ lo lo1 hi hi1
          rw [Nat.zero_mul, Nat.add_zero] at e0 e1
          have lb : b3 < w3.heap.size := World.block_lt_of_cell? _ _ e0
          have c0 := (hbk.cell (p := ⟨b3, off3, none⟩) lb).trans e0
          have c1 := (hbk.cell (p := ⟨b3, off3 + 1, none⟩) lb).trans e1
          have c2 := (hbk.cell (p := ⟨b3, off3 + k * 2, none⟩) lb).trans e2
          have c3 := (hbk.cell (p := ⟨b3, off3 + k * 2 + 1, none⟩) lb).trans e3
          have HBK := Lib.hid hbk
          have j1 : x1 ≤ 9223372036854775807 := by omega
          have j0 : x0 ≤ 9223372036854775807 := by omega
          have s1 : decide (x1 < 0) = false := decide_eq_false (by omega)
          have s2 : decide (t - x0 < 0) = false := decide_eq_false (by omega)
          have s4 : decide (1 < x1 - (t - x0)) = false := decide_eq_false (by omega)
          clear hkl hE q3 q2 e0 e1 e2 e3 hbk
          go_wp2_with fail
          go_quiet (fail)
          go_wp2_with fail
          go_meet
          exact ⟨HB3.out.trans ((below_drewN HBK.out _).mono HB3.out.size), HG2.out.below (HB3.out.trans ((below_drewN HBK.out _).mono HB3.out.size)) (Nat.le_refl _)⟩
  case rest =>
    obtain ⟨hb3, hg3⟩ := hcut
    have BW : Below w1.heap.size w1 wc := HB2.out.trans (hb3.mono HB2.out.size)
    have HRc := HR.out.below BW HR.out.lt
    have HVc := HV.out.below BW (Nat.le_refl _)
    have BWW : Below w.heap.size w wc := HB0.out.trans (BW.mono HB0.out.size)
    have MD := Lib.hid (made_any n C _ wc HVc (by rw [HCL.out]; have := HC.out; rw [HCL.out] at this; exact this) HL.out)
    have HR4 := Lib.hid HRc; have HB4 := Lib.hid BWW
    clear hb3 hg3 BW HRc HVc BWW HV HG HG2 HB2 hbb HW1 HR HB0
    have fin : ∀ X, Below wc.heap.size wc X → Hid (Below w.heap.size w X ∧ Whole X w.heap.size 4 #[.bool false] ∧ Whole (X.setCell ⟨w.heap.size, 0, none⟩ (.bool true)) w.heap.size 4 #[.bool true] ∧ Below w.heap.size w (X.setCell ⟨w.heap.size, 0, none⟩ (.bool true))) := fun X hX =>
      have h1 := HB4.out.trans (hX.mono HB4.out.size)
      have h2 := HR4.out.below hX HR4.out.lt
      Lib.hid ⟨h1, h2, h2.put 0 _, h1.setCell (Nat.le_refl _) _⟩
    have FIN := Lib.hid fin
    clear fin
    go_wp2_with fail
    refine MD.out.mono ?_; rintro e w4 (⟨rfl, rfl⟩ | ⟨N, p, rfl, hgc, rfl, ho, hb4⟩)
    · have F4 := FIN.out w4 (Below.refl _ _)
      have f3 := F4.out.2.1.free 0
      have c3 : w4.cell? ⟨w.heap.size, 0, none⟩ = some (.bool false) := F4.out.2.1.cell 0
      go_wp2_with fail
      exact ⟨_, results_bool rfl _ _ _ _ rfl F4.out.2.2.1, rfl, F4.out.2.2.2⟩
    · have F4 := FIN.out w4 hb4
      by_cases h4 : N = 5
      · subst h4
        have f3 := F4.out.2.1.free 0
        have c3 : w4.cell? ⟨w.heap.size, 0, none⟩ = some (.bool false) := F4.out.2.1.cell 0
        have HH := Lib.hid (And.intro hgc ho)
        clear hgc ho hb4
        go_wp2_with fail
        exact ⟨_, results_bool rfl _ _ _ _ rfl F4.out.2.2.1, rfl, F4.out.2.2.2⟩
      · obtain ⟨g1, g2, g3, g4, g5⟩ := hgc
        have n4 : N ≤ 4 := by omega
        have t4 : decide ((4 : Int) < N) = false := decide_eq_false (by omega)
        have pw : ∀ r, r ≤ 4 → C.length ^ r ≤ 12 ^ 4 := fun r hr => Nat.le_trans (Nat.pow_le_pow_left g3 r) (Nat.pow_le_pow_right (by omega) hr)
        have b1 : ∀ r i a, r + i + 1 = N → a ∈ rowP C i → cntP C r i a ≤ 9223372036854775807 := fun r i a e _ => Nat.le_trans (cnt_le C r i a) (Nat.le_trans (pw r (by omega)) (by decide))
        have b2 : totP N C ≤ 9223372036854775807 := Nat.le_trans (sum_le_mul (cntP C (N - 1) 0) (12 ^ 4) (rowP C 0) fun x _ => Nat.le_trans (cnt_le C (N - 1) 0 x) (pw _ (by omega))) (Nat.le_trans (Nat.mul_le_mul_right _ (Nat.le_trans (row_len C 0) g3)) (by decide))
        have RO := Lib.hid (rankOf_any ho g1 (by omega) (by omega) b1 b2)
        have HT2 := Lib.hid b2; have HB5 := Lib.hid hb4; have HC5 := Lib.hid g3; have HN5 := Lib.hid h4
        clear pw b1 b2 ho hb4 g1 g2 g3 g4 g5 n4 h4
        go_wp2_with fail
        refine RO.out.mono ?_; rintro e w5 ⟨rp, rfl, hr5, hb5⟩
        have HR5 := Lib.hid hr5
        have HB6 := Lib.hid (HB5.out.trans (hb5.mono HB5.out.size))
        obtain ⟨rb, _, _, rfl, _⟩ := hr5
        have TT := Lib.hid (fun W (hW : Below w5.heap.size w5 W) => rtotal_any (HR5.out.below hW (Nat.le_refl _)) (by have := HC5.out; omega))
        clear hb5
        go_wp2_with fail
        refine (TT.out _ (Below.refl _ _)).mono ?_; rintro e w6 ⟨rfl, hb6⟩
        have HB6' := Lib.hid hb6
        clear hb6
        go_wp2_with fail
        refine (each_any _ _ _ _).mono ?_; rintro e w7 ⟨rfl, h7⟩
        have L7 := Lib.hid (each_laid h7)
        clear h7
        have B57 := Lib.hid (HB6'.out.trans (L7.out.2.2.2.1.mono HB6'.out.size))
        have HIT := Lib.hid (each_none (fun _ => False) 3 (fun _ => []) L7.out.1 L7.out.2.1 L7.out.2.2.1 (fun W hW => TT.out W (B57.out.trans (hW.mono B57.out.size))) (by omega))
        go_wp2_with fail
        refine range_ints (gf := 36) (lb := #[.pointer (some ⟨w6.heap.size + 1, 0, none⟩), .pointer (some ⟨w6.heap.size, 0, none⟩)]) rfl (enters_of Tryz.func36 (by kernel_rfl) rfl) HIT.out (fun b hb => hb.elim) rfl
          (fun g k W => Below w7.heap.size w7 W) (fun _ _ _ _ => False)
          (fun g k A A' r hg hr h hgr => h.grown hgr h.size (fun j hj => by cases hj; omega)) (fun _ _ _ _ _ _ _ _ h _ => h) (fun _ _ => Below.refl _ _) ?a1 ?assign ?body ?done ?stop
        case assign =>
          intro l v W K hK
          gi_wp2
          exact hK
        case stop =>
          rintro c g k W _ _ _ h _
          exact h.elim
        case body =>
          rintro l g k v W _ hk
          exact absurd hk (Nat.not_lt_zero _)
        case done =>
          rintro g1 X1 hg1 hb8 hD1
          have HB8 := Lib.hid hb8
          have HD1 := Lib.hid hD1
          clear hb8 hD1
          go_wp2_with fail
          refine (each_any _ _ _ _).mono ?_; rintro e w8 ⟨rfl, h8⟩
          have L8 := Lib.hid (each_laid h8)
          clear h8
          have B58 := Lib.hid (B57.out.trans (HB8.out.mono B57.out.size) |>.trans (L8.out.2.2.2.1.mono (Nat.le_trans B57.out.size HB8.out.size)))
          have HIT2 := Lib.hid (each_none (fun _ => False) 3 (fun _ => []) L8.out.1 L8.out.2.1 L8.out.2.2.1 (fun W hW => TT.out W (B58.out.trans (hW.mono B58.out.size))) (by omega))
          go_wp2_with fail
          refine range_ints (gf := 36) (lb := #[.pointer (some ⟨X1.heap.size + 1, 0, none⟩), .pointer (some ⟨X1.heap.size, 0, none⟩)]) rfl (enters_of Tryz.func36 (by kernel_rfl) rfl) HIT2.out (fun b hb => hb.elim) rfl
            (fun g k W => Below w8.heap.size w8 W) (fun _ _ _ _ => False)
            (fun g k A A' r hg hr h hgr => h.grown hgr h.size (fun j hj => by cases hj; omega)) (fun _ _ _ _ _ _ _ _ h _ => h) (fun _ _ => Below.refl _ _) ?a2 ?assign2 ?body2 ?done2 ?stop2
          case assign2 =>
            intro l v W K hK
            gi_wp2
            exact hK
          case stop2 =>
            rintro c g k W _ _ _ h _
            exact h.elim
          case body2 =>
            rintro l g k v W _ hk
            exact absurd hk (Nat.not_lt_zero _)
          case done2 =>
            rintro g2 X2 hg2 hb9 hD2
            have d1 : w7.heap.size < X1.heap.size := (Array.getElem?_eq_some_iff.1 HD1.out).1
            have d2 : X1.heap.size < w8.heap.size := by have := L8.out.2.2.2.2; omega
            have d3 : w8.heap.size < X2.heap.size := (Array.getElem?_eq_some_iff.1 hD2).1
            have k1 : X2.heap[w7.heap.size]? = some (.deferred (some [])) := (hb9.block _ (by omega)).trans ((L8.out.2.2.2.1.block _ d1).trans HD1.out)
            have h1 : Below w5.heap.size w5 X2 := B58.out.trans (hb9.mono B58.out.size)
            have h2 : Below w.heap.size w X2 := HB6.out |> fun h => (HB4.out.trans (h.mono HB4.out.size)).trans (h1.mono (Nat.le_trans HB4.out.size h.size))
            have h3 : Below wc.heap.size wc X2 := HB6.out.trans (h1.mono HB6.out.size)
            have F5 := FIN.out X2 h3
            have s0 : w.heap.size < w7.heap.size := by
              have q1 := HR4.out.lt; have q2 := HB6.out.size; have q3 := B57.out.size
              omega
            have f3 := F5.out.2.1.free 0
            have c3 : X2.cell? ⟨w.heap.size, 0, none⟩ = some (.bool false) := F5.out.2.1.cell 0
            have HK1 := Lib.hid k1; have HK2 := Lib.hid hD2; have HS0 := Lib.hid s0; have HD := Lib.hid (And.intro d1 (And.intro d2 d3))
            clear k1 hD2 s0 d1 d2 d3 h1 h2 h3 hb9
            go_wp2_with fail
            have s0 := HS0.out
            obtain ⟨d1, d2, d3⟩ := HD.out
            obtain ⟨q0, q1, q2, q3⟩ := F5.out
            have k1 : (X2.setCell ⟨w.heap.size, 0, none⟩ (.bool true)).heap[w7.heap.size]? = some (.deferred (some [])) := by
              rw [Below.heap_setCell _ _ _ _ (by show w7.heap.size ≠ w.heap.size; omega)]; exact HK1.out
            have k2 : (X2.setCell ⟨w.heap.size, 0, none⟩ (.bool true)).heap[w8.heap.size]? = some (.deferred (some [])) := by
              rw [Below.heap_setCell _ _ _ _ (by show w8.heap.size ≠ w.heap.size; omega)]; exact HK2.out
            refine ⟨by simp, .inl ⟨_, _, rfl, run_takeDeferred k2, ?_⟩⟩
            refine ⟨by simp, .inl ⟨_, _, rfl, run_takeDeferred ((World.putObj_heap_other (by omega)).trans k1), ?_⟩⟩
            have r2 := (q2.grown (grownBy_putObj' _ w8.heap.size (.deferred none)) (by simp; omega)).grown (grownBy_putObj' _ w7.heap.size (.deferred none)) (by simp; omega)
            exact ⟨_, results_bool rfl _ _ _ _ rfl r2, rfl, (q3.grown (grownBy_putObj' _ w8.heap.size (.deferred none)) q3.size (fun j hj => by cases hj; omega)).grown (grownBy_putObj' _ w7.heap.size (.deferred none)) (by have := q3.size; simpa using this) (fun j hj => by cases hj; omega)⟩
end
end Go.Proofs.YtgphdngfbcjmcaaGreatDoor
