/- RankSplit: the walk. -/
import Derived.Test.YtgphdngfbcjmcaaDoorRefSplit
import Derived.Deep.DeepCutAuto
import Derived.Deep.QuietTactic
import Derived.BigQuiet
import Derived.WalkSmall
namespace Go.Proofs.YtgphdngfbcjmcaaDoor
open Go.RowKit

/-- Where the k-th part begins. -/
def sp (t : Int) (n k : Nat) : Int := k * (t / n) + (if (k : Int) < t % n then (k : Int) else t % n)
theorem sp_ends (t : Int) (n : Nat) (t0 : 0 ≤ t) (n0 : 1 ≤ n) : Ends t n (sp t n) := by
  have r0 := Int.emod_nonneg t (show (n : Int) ≠ 0 by omega)
  have r1 := Int.emod_lt_of_pos t (show (0 : Int) < n by omega)
  have q0 : 0 ≤ t / (n : Int) := Int.ediv_nonneg t0 (by omega)
  have hall : (n : Int) * (t / n) + t % n = t := Int.mul_ediv_add_emod t n
  have mono : ∀ k : Nat, k ≤ n → (k : Int) * (t / n) ≤ (n : Int) * (t / n) := fun k hk => Int.mul_le_mul_of_nonneg_right (by omega) q0
  have nn : ∀ k : Nat, 0 ≤ (k : Int) * (t / n) := fun k => Int.mul_nonneg (by omega) q0
  have step : ∀ k : Nat, ((k + 1 : Nat) : Int) * (t / n) = k * (t / n) + t / n := fun k => by rw [Int.natCast_add, Int.add_mul]; simp
  unfold sp
  constructor
  · simp; omega
  · intro k hk
    rw [step, if_pos hk]
    split <;> omega
  · intro k hk _
    rw [step, if_neg hk, if_neg (by omega)]
    omega
  · intro k hk
    have := nn k
    split <;> omega
  · intro k hk
    have := mono k hk
    split <;> omega
  · rw [if_neg (by omega)]; exact hall
theorem sp_ends' (t : Int) (n : Nat) (t0 : 0 ≤ t) (n0 : 1 ≤ n) : Ends' t n (sp t n) := by
  have h := sp_ends t n t0 n0
  have r0 := Int.emod_nonneg t (show (n : Int) ≠ 0 by omega)
  have r1 := Int.emod_lt_of_pos t (show (0 : Int) < n by omega)
  have hall : (n : Int) * (t / n) + t % n = t := Int.mul_ediv_add_emod t n
  have key : ∀ k : Nat, k < n → ((t - sp t n k) / ((n : Int) - k) = t / n) ∧ ((t - sp t n k) % ((n : Int) - k) = if (k : Int) < t % n then t % n - k else 0) := by
    intro k hk
    refine (Int.ediv_emod_unique (show (0 : Int) < (n : Int) - k by omega)).2 ?_
    have e : ((n : Int) - k) * (t / n) = n * (t / n) - k * (t / n) := Int.sub_mul _ _ _
    rw [e]
    unfold sp
    split <;> refine ⟨by omega, by omega, by omega⟩
  refine ⟨h.zero, fun k hk hz => ?_, fun k hk hz => ?_, h.lo, h.hi⟩
  · obtain ⟨k1, k2⟩ := key k hk
    rw [k1]
    rw [k2] at hz
    exact h.short k (by intro hh; rw [if_pos hh] at hz; omega) hk
  · obtain ⟨k1, k2⟩ := key k hk
    rw [k1]
    rw [k2] at hz
    exact h.long k (by
      rcases Int.lt_or_le (k : Int) (t % n) with hh | hh
      · exact hh
      · rw [if_neg (by omega)] at hz; exact absurd rfl hz)
theorem okB_ends {t : Int} {n : Nat} {A : Nat → Int} (h : Ends t n A) (q0 : 0 ≤ t / (n : Int)) : ∀ k, k ≤ n → okB A (fun i => A (i + 1)) k = true
  | 0, _ => rfl
  | k + 1, hk => by
    have h1 : A k = (if k = 0 then 0 else A (k - 1 + 1)) := by
      cases k with
      | zero => simpa using h.zero
      | succ k => simp
    have h2 : A k ≤ A (k + 1) := by
      rcases Int.lt_or_le (k : Int) (t % n) with hh | hh
      · have := h.long k hh; omega
      · have := h.short k (by omega) (by omega); omega
    rw [okB, okB_ends h q0 k (by omega)]
    simp only [Bool.true_and, Bool.and_eq_true, beq_iff_eq, decide_eq_true_eq]
    exact ⟨h1, h2⟩

set_option maxHeartbeats 1000000 in
theorem alive_ok (w : World) (hg : ErrT w) : Calls Tryd.prog 4 #[] w fun e w' => e = .returned (.bool true) ∧ Below w.heap.size w w' := by
  have hs := split_ok 7 3 (sp 7 3) w (by omega) (by omega) (by omega) (by omega) (sp_ends 7 3 (by omega) (by omega))
  have HS := Lib.hid hs
  clear hs
  go_enter Tryd.func4, Tryd.ntmps4
  go_wp2_with fail
  refine HS.out.mono ?_; rintro e w1 ⟨v, rfl, _, hv, hb1⟩
  rcases hv with ⟨h, _⟩ | ⟨_, b, off, cap, rfl, hc⟩
  · exact absurd h (by decide)
  have c00 := (hc 0 (by decide)).1
  have c01 := (hc 0 (by decide)).2
  have c10 := (hc 1 (by decide)).1
  have c11 := (hc 1 (by decide)).2
  simp only [show sp 7 3 0 = 0 by decide, show sp 7 3 (0 + 1) = 3 by decide, show sp 7 3 (1 + 1) = 5 by decide, Nat.zero_mul, Nat.add_zero, Nat.one_mul] at c00 c01 c10 c11
  have hbl : b < w1.heap.size := World.block_lt_of_cell? _ _ c00
  clear hc HS
  go_wp2_with fail
  refine (split_bad 1 65 _ (by omega)).mono ?_; rintro e w2 ⟨rfl, rfl⟩
  have hg1 := hg.below hb1 (Nat.le_refl _)
  have d00 := (World.cell?_alloc_lt w1 (.cells #[.int .i64 1, .int .i64 0, .string ⟨#[115, 112, 108, 105, 116]⟩] 41) ⟨b, off, none⟩ hbl).trans c00
  have d01 := (World.cell?_alloc_lt w1 (.cells #[.int .i64 1, .int .i64 0, .string ⟨#[115, 112, 108, 105, 116]⟩] 41) ⟨b, off + 1, none⟩ hbl).trans c01
  have d10 := (World.cell?_alloc_lt w1 (.cells #[.int .i64 1, .int .i64 0, .string ⟨#[115, 112, 108, 105, 116]⟩] 41) ⟨b, off + 2, none⟩ hbl).trans c10
  have d11 := (World.cell?_alloc_lt w1 (.cells #[.int .i64 1, .int .i64 0, .string ⟨#[115, 112, 108, 105, 116]⟩] 41) ⟨b, off + 2 + 1, none⟩ hbl).trans c11
  go_wp2_with fail
  refine (code_hit w1.heap.size 1 _ (hg1.alloc _) (by simp)).mono ?_; rintro e w4 ⟨rfl, hb4⟩
  go_wp2_with fail
  go_ret
  have s1 := hb1.size
  exact ⟨rfl, hb1.trans ((Below.alloc (Below.refl _ _) (by omega) _).trans (hb4.mono (by simp; omega)))⟩

def BadArgs (t n : Int) : Prop := t < 0 ∨ n < 1 ∨ 64 < n
/-- What a call of Split leaves in two slots. -/
def SplitCut (t n : Int) (W : World) (x y : Value) (wx : World) : Prop :=
  ((BadArgs t n ∧ x = .slice none 0 0 ∧ ∃ b : Nat, y = .iface 38 (.pointer (some ⟨b, 0, none⟩)) ∧ wx.cell? ⟨b, 0, none⟩ = some (.int .i64 1)) ∨ (¬ BadArgs t n ∧ y = .nilIface ∧ 0 ≤ t ∧ ∃ m : Nat, n = m ∧ 1 ≤ m ∧ m ≤ 64 ∧ PartsV wx x m (sp t m) (fun i => sp t m (i + 1)))) ∧ Below W.heap.size W wx ∧ ErrT wx
def CutIs (b : Bool) (W : World) (x : Value) (wx : World) : Prop := x = .bool b ∧ wx = W
def CutQuiet (b : Bool) (W : World) (x : Value) (wx : World) : Prop := x = .bool b ∧ ∃ d, wx = W.drewN d
/-- The first half: what is left of it. -/
def Half (w wx : World) : Prop := Below w.heap.size w wx ∧ ErrT wx

set_option maxRecDepth 100000 in
set_option maxHeartbeats 4000000 in
theorem split_law (t n : Int) (bl off len cap : Nat) (F T : Nat → Int) (w : World) (hg : ErrT w) (t0 : -9223372036854775808 ≤ t) (t1 : t ≤ 9223372036854775807) (n0 : -9223372036854775808 ≤ n) (n1 : n ≤ 9223372036854775807)
    (l0 : 0 < len) (l1 : len ≤ 60) (hc : ∀ i, i < len → w.cell? ⟨bl, off + i * 2, none⟩ = some (.int .i64 (F i)) ∧ w.cell? ⟨bl, off + i * 2 + 1, none⟩ = some (.int .i64 (T i))) :
    Calls Tryd.prog 3 #[.int .i64 t, .int .i64 n, .slice (some ⟨bl, off, none⟩) len cap] w fun e w' => e = .returned (.bool true) ∧ Below w.heap.size w w' := by
  have HC := Lib.hid hc; clear hc
  obtain ⟨i0, hi, hz0, hz1, hz2⟩ := info_parts Tryd.infoPart
  go_enter Tryd.func3, Tryd.ntmps3
  go_wp2_with fail
  refine (alive_ok _ hg).mono ?_; rintro e w1 ⟨rfl, hb1⟩
  have hg1 := hg.below hb1 (Nat.le_refl _)
  clear hg
  go_upto_region 5 with fail
  go_cut [7, 8] (fun x y wx => SplitCut t n w1 x y wx)
  case first =>
    by_cases hbad : t < 0 ∨ n < 1 ∨ 64 < n
    · have HBAD := Lib.hid hbad
      clear hbad
      go_wp2_with fail
      refine (split_bad t n _ HBAD.out).mono ?_; rintro e w2 ⟨rfl, rfl⟩
      go_wp2_with fail
      go_meet
      exact ⟨Or.inl ⟨HBAD.out, rfl, _, rfl, by simp⟩, (Below.refl _ _).alloc (Nat.le_refl _) _, hg1.alloc _⟩
    · obtain ⟨m, rfl⟩ : ∃ m : Nat, n = m := ⟨n.toNat, by omega⟩
      have HBAD := Lib.hid hbad
      have hs := split_ok t m (sp t m) w1 (by omega) t1 (by omega) (by omega) (sp_ends t m (by omega) (by omega))
      have HS := Lib.hid hs
      have m0 : 1 ≤ m := by omega
      have m1 : m ≤ 64 := by omega
      have t00 : 0 ≤ t := by omega
      clear hs hbad
      go_wp2_with fail
      refine HS.out.mono ?_; rintro e w2 ⟨v, rfl, _, hv, hb2⟩
      go_wp2_with fail
      go_meet
      exact ⟨Or.inr ⟨HBAD.out, rfl, t00, m, rfl, m0, m1, hv⟩, hb2, hg1.below hb2 (Nat.le_refl _)⟩
  case rest =>
    obtain ⟨hsc, hb2, hg2⟩ := hcut
    have HSC := Lib.hid hsc
    clear hsc
    go_upto_region 6 with fail
    go_cut [39] (fun x wx => ∃ b : Bool, CutIs b wc x wx ∧ (b = true ↔ BadArgs t n))
    case first =>
      by_cases h1 : t < 0
      · have d1 : decide (t < 0) = true := decide_eq_true h1
        go_wp2_with fail
        go_meet
        exact ⟨true, ⟨rfl, rfl⟩, fun _ => Or.inl h1, fun _ => rfl⟩
      · have d1 : decide (t < 0) = false := decide_eq_false h1
        by_cases h2 : n < 1
        · have d2 : decide (n < 1) = true := decide_eq_true h2
          go_wp2_with fail
          go_meet
          exact ⟨true, ⟨rfl, rfl⟩, fun _ => Or.inr (Or.inl h2), fun _ => rfl⟩
        · have d2 : decide (n < 1) = false := decide_eq_false h2
          by_cases h3 : 64 < n
          · have d3 : decide (64 < n) = true := decide_eq_true h3
            go_wp2_with fail
            go_meet
            exact ⟨true, ⟨rfl, rfl⟩, fun _ => Or.inr (Or.inr h3), fun _ => rfl⟩
          · have d3 : decide (64 < n) = false := decide_eq_false h3
            go_wp2_with fail
            go_meet
            exact ⟨false, ⟨rfl, rfl⟩, fun h => absurd h (by decide), fun h => by unfold BadArgs at h; omega⟩
    case rest =>
      obtain ⟨bb, ⟨rfl, rfl⟩, hbb⟩ := hcut
      obtain ⟨wq, hwq⟩ : ∃ wq, wq = wc := ⟨_, rfl⟩
      subst hwq
      go_upto_if 39 with fail
      go_cut [] (fun wx => Half wq wx)
      case first =>
        have HSC := HSC
        rcases HSC.out with ⟨hbd, rfl, b, rfl, hcb⟩ | ⟨hbd, rfl, t00, m, rfl, m0, m1, hv⟩
        · obtain rfl := hbb.2 hbd
          have HB := Lib.hid hbd
          clear hbd HSC hbb
          go_wp2_with fail
          refine (code_hit b 1 _ hg2 hcb).mono ?_; rintro e w3 ⟨rfl, hb3⟩
          go_wp2_with fail
          go_meet
          exact ⟨hb3, hg2.below hb3 (Nat.le_refl _)⟩
        · obtain rfl : bb = false := by
            cases bb with
            | false => rfl
            | true => exact absurd (hbb.1 rfl) hbd
          have HB := Lib.hid hbd
          have HV := Lib.hid hv
          clear hbd HSC hbb hv
          have HR := Lib.hid (refsplit_ok t m (sp t m) wq t1 m0 m1 (sp_ends' t m t00 m0))
          go_wp2_with fail
          refine HR.out.mono ?_; rintro e w3 ⟨v3, rfl, _, hv3, hb3⟩
          have hvv := HV.out.below hb3 (Nat.le_refl _)
          have hg3 := hg2.below hb3 (Nat.le_refl _)
          rcases hv3 with ⟨h, _⟩ | ⟨_, b3, off3, cap3, rfl, hc3⟩
          · omega
          rcases HV.out with ⟨h, _⟩ | ⟨_, b4, off4, cap4, rfl, hc4⟩
          · omega
          have HC3 := Lib.hid hc3
          have HC4 := Lib.hid (show ∀ i, i < m → w3.cell? ⟨b4, off4 + i * 2, none⟩ = some (.int .i64 (sp t m i)) ∧ w3.cell? ⟨b4, off4 + i * 2 + 1, none⟩ = some (.int .i64 (sp t m (i + 1))) from fun i hi => by
            have hl : b4 < wq.heap.size := World.block_lt_of_cell? _ _ (hc4 i hi).1
            exact ⟨(hb3.cell (p := ⟨b4, off4 + i * 2, none⟩) hl).trans (hc4 i hi).1, (hb3.cell (p := ⟨b4, off4 + i * 2 + 1, none⟩) hl).trans (hc4 i hi).2⟩)
          clear hc3 hc4 HV HR
          go_wp2_with fail
          go_loopw [10] (fun i wr => ∃ k : Nat, k ≤ m ∧ i = .int .i64 k ∧ Below w3.heap.size w3 wr) (fun i _ => m - (intOf i).toNat)
          case atStart => exact ⟨0, Nat.zero_le _, rfl, Below.refl _ _⟩
          case round =>
            obtain ⟨k, hk, rfl, hbk⟩ := hrel
            by_cases hlt : k < m
            · have e3 := HC3.out k hlt
              have e4 := HC4.out k hlt
              have l3 : b3 < w3.heap.size := World.block_lt_of_cell? _ _ e3.1
              have l4 : b4 < w3.heap.size := World.block_lt_of_cell? _ _ e4.1
              have x0 := (hbk.cell (p := ⟨b3, off3 + k * 2, none⟩) l3).trans e3.1
              have x1 := (hbk.cell (p := ⟨b3, off3 + k * 2 + 1, none⟩) l3).trans e3.2
              have y0 := (hbk.cell (p := ⟨b4, off4 + k * 2, none⟩) l4).trans e4.1
              have y1 := (hbk.cell (p := ⟨b4, off4 + k * 2 + 1, none⟩) l4).trans e4.2
              have dm : ((m : Int) == m) = true := beq_iff_eq.2 rfl
              have dn : ((m : Int) != m) = false := by simp
              clear e3 e4
              go_wp2_with fail
              go_quiet (fail)
              go_wp2_with fail
              go_roundw
              case rel => exact ⟨k + 1, by omega, by go_num, below_drewN hbk _⟩
              case measure => simp [intOf]; omega
            · obtain rfl : k = m := by omega
              have hcs : ∀ i, i < k → wr.cell? ⟨b4, off4 + i * 2, none⟩ = some (.int .i64 (sp t k i)) ∧ wr.cell? ⟨b4, off4 + i * 2 + 1, none⟩ = some (.int .i64 (sp t k (i + 1))) := fun i hi => by
                have e4 := HC4.out i hi
                have l4 : b4 < w3.heap.size := World.block_lt_of_cell? _ _ e4.1
                exact ⟨(hbk.cell (p := ⟨b4, off4 + i * 2, none⟩) l4).trans e4.1, (hbk.cell (p := ⟨b4, off4 + i * 2 + 1, none⟩) l4).trans e4.2⟩
              have hw := whole_any b4 off4 k cap4 (sp t k) (fun i => sp t k (i + 1)) wr (by omega) hcs
              have hE := sp_ends t k t00 m0
              have e1 : okB (sp t k) (fun i => sp t k (i + 1)) k = true := okB_ends hE (Int.ediv_nonneg t00 (by omega)) k (Nat.le_refl _)
              have e2 : endI (fun i => sp t k (i + 1)) k = t := by
                unfold endI
                rw [if_neg (by omega)]
                show sp t k (k - 1 + 1) = t
                rw [Nat.sub_add_cancel m0]
                exact hE.all
              have hw2 : Calls Tryd.prog 8 #[.slice (some ⟨b4, off4, none⟩) k cap4] wr fun e w' => e = .returned (.tuple #[.int .i64 t, .bool true]) ∧ Below wr.heap.size wr w' :=
                hw.mono fun e w' ⟨h1, h2⟩ => ⟨by rw [h1, e1, e2]; rfl, h2⟩
              have HW := Lib.hid hw2
              clear hw hE e1 e2 hw2 hcs
              go_wp2_with fail
              refine HW.out.mono ?_; rintro e w4 ⟨rfl, hb4⟩
              go_wp2_with fail
              go_meet
              have s3 := hb3.size
              have B := hb3.trans ((hbk.mono s3).trans (hb4.mono (Nat.le_trans s3 hbk.size)))
              exact ⟨B, hg2.below B (Nat.le_refl _)⟩
      case rest =>
        obtain ⟨hb3, hg3⟩ := hcut
        have Br := hb1.trans ((hb2.mono hb1.size).trans (hb3.mono (Nat.le_trans hb1.size hb2.size)))
        clear HSC hbb hb1 hb2 hb3 hg1 hg2
        have hbl : bl < w.heap.size := World.block_lt_of_cell? _ _ (HC.out 0 l0).1
        go_wp2_with fail
        go_loopw [13, 14, 15, 16] (fun a g v i wr => ∃ (k : Nat) (xs : List Value), k ≤ len ∧ i = .int .i64 k ∧ a = .int .i64 (endI T k) ∧ g = .bool (okB F T k) ∧ wr.ownsRow w.heap.size 33 2 v k xs ∧ (∀ j, j < k → xs[j * 2]? = some (.int .i64 (F j)) ∧ xs[j * 2 + 1]? = some (.int .i64 (T j))) ∧ Below w.heap.size w wr) (fun _ _ _ i _ => len - (intOf i).toNat)
        case atStart => exact ⟨0, [], Nat.zero_le _, rfl, rfl, rfl, World.ownsRow_nil _ _ _ _, fun j hj => by omega, Br⟩
        case round =>
          obtain ⟨k, xs, hk, rfl, rfl, rfl, ho, hxs, hb⟩ := hrel
          have HX := Lib.hid hxs; clear hxs
          by_cases hlt : k < len
          · have c0 := (hb.cell (p := ⟨bl, off + k * 2, none⟩) hbl).trans (HC.out k hlt).1
            have c1 := (hb.cell (p := ⟨bl, off + k * 2 + 1, none⟩) hbl).trans (HC.out k hlt).2
            obtain ⟨x, hx⟩ : ∃ x, F k = x := ⟨_, rfl⟩
            obtain ⟨y, hy⟩ : ∃ y, T k = y := ⟨_, rfl⟩
            obtain ⟨z, hz⟩ : ∃ z, endI T k = z := ⟨_, rfl⟩
            obtain ⟨g, hgd⟩ : ∃ g, okB F T k = g := ⟨_, rfl⟩
            have hstep : okB F T (k + 1) = (g && (x == z) && decide (x ≤ y)) := by rw [okB, hgd, hx, hy, ← hz]; rfl
            have hend : endI T (k + 1) = y := by rw [← hy]; rfl
            rw [hx] at c0
            rw [hy] at c1
            rw [hz, hgd]
            have HS := Lib.hid hstep; have HE := Lib.hid hend; have HXX := Lib.hid hx; have HYY := Lib.hid hy
            clear hx hy hz hgd hstep hend
            go_upto_region 24 with fail
            go_cut [14] (fun v wx => CutQuiet (okB F T (k + 1)) wr v wx)
            case first =>
              cases g with
              | false =>
                go_quiet (fail)
                go_wp2_with fail
                go_meet
                exact ⟨by rw [HS.out]; rfl, _, rfl⟩
              | true =>
                by_cases h1 : x = z
                · subst h1
                  by_cases h2 : x ≤ y
                  · have d1 : decide (x ≤ y) = true := decide_eq_true h2
                    go_quiet (fail)
                    go_wp2_with fail
                    go_meet
                    exact ⟨by rw [HS.out]; simp [d1], _, rfl⟩
                  · have d1 : decide (x ≤ y) = false := decide_eq_false h2
                    go_quiet (fail)
                    go_wp2_with fail
                    go_meet
                    exact ⟨by rw [HS.out]; simp [d1], _, rfl⟩
                · have d1 : (x == z) = false := beq_eq_false_iff_ne.2 h1
                  go_quiet (fail)
                  go_wp2_with fail
                  go_meet
                  exact ⟨by rw [HS.out, d1]; rfl, _, rfl⟩
            case rest =>
              obtain ⟨rfl, d, hwd⟩ := hcut
              have ho : wc.ownsRow w.heap.size 33 2 u15 k xs := by rw [hwd]; exact ho
              have hb : Below w.heap.size w wc := by rw [hwd]; exact below_drewN hb d
              clear hwd c0 c1
              have c0 := (hb.cell (p := ⟨bl, off + k * 2, none⟩) hbl).trans (HC.out k hlt).1
              have c1 := (hb.cell (p := ⟨bl, off + k * 2 + 1, none⟩) hbl).trans (HC.out k hlt).2
              rw [HXX.out] at c0
              rw [HYY.out] at c1
              obtain ⟨g2, hg2⟩ : ∃ g2, okB F T (k + 1) = g2 := ⟨_, rfl⟩
              rw [hg2]
              have HG2 := Lib.hid hg2
              clear hg2 HS
              have hs := hb.size
              have hlen : xs.length = k * 2 := ho.1
              have hpp : ∀ j, j < k + 1 → (xs ++ [Value.int .i64 x, .int .i64 y])[j * 2]? = some (.int .i64 (F j)) ∧ (xs ++ [Value.int .i64 x, .int .i64 y])[j * 2 + 1]? = some (.int .i64 (T j)) := by
                intro j hj
                rcases (by omega : j < k ∨ j = k) with h1 | rfl
                · rw [List.getElem?_append_left (by omega), List.getElem?_append_left (by omega)]
                  exact HX.out j h1
                · rw [List.getElem?_append_right (by omega), List.getElem?_append_right (by omega), hlen, Nat.sub_self, show j * 2 + 1 - j * 2 = 1 by omega, HXX.out, HYY.out]
                  exact ⟨rfl, rfl⟩
              have HPP := Lib.hid hpp
              clear hpp
              go_wp2_with (at_builtin; refine wpList_append_own _ rfl _ _ 24 rfl w.heap.size 33 i0 (.agg #[.int .i64 0, .int .i64 0]) 2 16 Tryd.underlying24 hi hz0 hz1 hz2 rfl (by decide) _ _ _ rfl (ho.alloc _) ⟨wc.heap.size, 0, none⟩ 1 1 [.int .i64 x, .int .i64 y] rfl rfl ?_ ?_ ?_ ?_ ?_ ?_)
              rotate_right
              · intro v' w5 hown' hgrow _
                have hbw5 := (hb.alloc hs (.cells #[.int .i64 x, .int .i64 y] 33)).grown hgrow (by simp; omega) (fun k hk => (ho.lt k hk).1)
                clear ho hb hgrow hlen
                go_wp2_with fail
                go_roundw
                case rel => exact ⟨k + 1, _, by omega, by go_num, by rw [HE.out], by rw [HG2.out], hown', HPP.out, hbw5⟩
                case measure => simp [intOf]; omega
              · intro j u hj
                match j, hj with
                | 0, hj => simp at hj; subst hj; simp [Addr.add]
                | 1, hj => simp at hj; subst hj; simp [Addr.add]
              · intro u hu; simp at hu; rcases hu with rfl | rfl <;> rfl
              · unfold maxLen; omega
              · omega
              · simp; omega
          · obtain rfl : k = len := by omega
            have hpv : ∃ b4 cap4, u15 = .slice (some ⟨b4, 0, none⟩) k cap4 ∧ ∀ i, i < k → wr.cell? ⟨b4, 0 + i * 2, none⟩ = some (.int .i64 (F i)) ∧ wr.cell? ⟨b4, 0 + i * 2 + 1, none⟩ = some (.int .i64 (T i)) := by
              rcases ho.2 with ⟨_, hz⟩ | ⟨g, cap, cur, rfl, _⟩
              · omega
              · refine ⟨g, cap, rfl, fun i hi => ?_⟩
                rw [Nat.zero_add, ho.cellAt (i * 2) (by omega), ho.cellAt (i * 2 + 1) (by omega)]
                exact HX.out i hi
            obtain ⟨b4, cap4, rfl, hc4⟩ := hpv
            have hw := whole_any b4 0 k cap4 F T wr (by omega) hc4
            obtain ⟨g, hgd⟩ : ∃ g, okB F T k = g := ⟨_, rfl⟩
            obtain ⟨z, hz⟩ : ∃ z, endI T k = z := ⟨_, rfl⟩
            have hw2 : Calls Tryd.prog 8 #[.slice (some ⟨b4, 0, none⟩) k cap4] wr fun e w' => e = .returned (.tuple #[.int .i64 (if g then z else 0), .bool g]) ∧ Below wr.heap.size wr w' :=
              hw.mono fun e w' ⟨h1, h2⟩ => ⟨by rw [h1, hgd, hz], h2⟩
            rw [hz, hgd]
            have HW := Lib.hid hw2
            clear hw hw2 hc4 ho hgd hz
            cases g with
            | false =>
              go_wp2_with fail
              refine HW.out.mono ?_; rintro e w4 ⟨rfl, hb4⟩
              go_wp2_with fail
              go_ret
              exact ⟨rfl, hb.trans (hb4.mono hb.size)⟩
            | true =>
              go_wp2_with fail
              refine HW.out.mono ?_; rintro e w4 ⟨rfl, hb4⟩
              go_wp2_with fail
              go_ret
              exact ⟨rfl, hb.trans (hb4.mono hb.size)⟩
end Go.Proofs.YtgphdngfbcjmcaaDoor
