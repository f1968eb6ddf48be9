/- fretworkref02.Add: the contract. -/
import Derived.Test.YtdfackmaimmapaaDoorRefOf
namespace Go.Proofs.YtdfackmaimmapaaDoor
open Go.RowKit

/-- Carries and digits of a sum. -/
def cy (A B : Nat → Nat) : Nat → Nat
  | 0 => 0
  | k + 1 => (A k + B k + cy A B k) / 32768
def sd (A B : Nat → Nat) (k : Nat) : Nat := (A k + B k + cy A B k) % 32768
theorem sd_pv (A B : Nat → Nat) : ∀ k, pv (sd A B) k + cy A B k * 32768 ^ k = pv A k + pv B k
  | 0 => by simp [pv, cy]
  | k + 1 => add_step (sd_pv A B k) (by simp only [sd, cy]; omega)
theorem cy_le {A B : Nat → Nat} (ha : ∀ i, A i < 32768) (hb : ∀ i, B i < 32768) : ∀ k, cy A B k ≤ 1
  | 0 => by simp [cy]
  | k + 1 => by have := cy_le ha hb k; have := ha k; have := hb k; simp only [cy]; omega
/-- Borrows and digits of a difference. -/
def bw (A B : Nat → Nat) : Nat → Nat
  | 0 => 0
  | k + 1 => if A k < B k + bw A B k then 1 else 0
def dd (A B : Nat → Nat) (k : Nat) : Nat := A k + 32768 * bw A B (k + 1) - (B k + bw A B k)
theorem bw_le (A B : Nat → Nat) : ∀ k, bw A B k ≤ 1
  | 0 => by simp [bw]
  | k + 1 => by simp only [bw]; split <;> omega
theorem dd_eq {A B : Nat → Nat} (hb : ∀ i, B i < 32768) (k : Nat) : dd A B k + B k + bw A B k = A k + 32768 * bw A B (k + 1) := by
  have h1 := bw_le A B k
  have h2 := hb k
  simp only [dd]
  rw [bw]
  split <;> omega
theorem dd_pv {A B : Nat → Nat} (hb : ∀ i, B i < 32768) : ∀ k, pv (dd A B) k + pv B k = pv A k + bw A B k * 32768 ^ k
  | 0 => by simp [pv, bw]
  | k + 1 => sub_step (dd_pv hb k) (dd_eq hb k)
theorem dd_lt {A B : Nat → Nat} (ha : ∀ i, A i < 32768) (hb : ∀ i, B i < 32768) (k : Nat) : dd A B k < 32768 := by
  have h1 := bw_le A B k
  have h2 := hb k
  have h3 := ha k
  simp only [dd]
  rw [bw]
  split <;> omega
theorem dz_lt {D : Nat → Nat} {n : Nat} (h : ∀ i, i < n → D i < 32768) (i : Nat) : dz D n i < 32768 := by
  unfold dz
  split
  · exact h i (by assumption)
  · omega
theorem dz_pv {D : Nat → Nat} {n m : Nat} (h : Dig n D m) {k : Nat} (hk : n ≤ k) : pv (dz D n) k = m := by
  have h1 := pv_zero (D := dz D n) (n := n) (k - n) (fun i hi _ => by unfold dz; rw [if_neg (by omega)])
  rw [show n + (k - n) = k by omega] at h1
  rw [h1, ← h.val]
  exact pv_congr n fun i hi => by unfold dz; rw [if_pos hi]
theorem dd_fin {D1 D2 : Nat → Nat} {n1 n2 m1 m2 : Nat} (h1 : Dig n1 D1 m1) (h2 : Dig n2 D2 m2) (hm : m2 ≤ m1) : pv (dd (dz D1 n1) (dz D2 n2)) n1 = m1 - m2 := by
  have hn : n2 ≤ n1 := by
    rcases Nat.lt_or_ge n1 n2 with h | h
    · have := h1.len_lt h2 h; omega
    · exact h
  have e := dd_pv (A := dz D1 n1) (B := dz D2 n2) (dz_lt h2.small) n1
  rw [dz_pv h1 (Nat.le_refl _), dz_pv h2 hn] at e
  have hl := pv_lt (D := dd (dz D1 n1) (dz D2 n2)) n1 (fun i _ => dd_lt (dz_lt h1.small) (dz_lt h2.small) i)
  have hb := bw_le (dz D1 n1) (dz D2 n2) n1
  have hb0 : bw (dz D1 n1) (dz D2 n2) n1 = 0 := by
    rcases Nat.eq_zero_or_pos (bw (dz D1 n1) (dz D2 n2) n1) with h | h
    · exact h
    · have : bw (dz D1 n1) (dz D2 n2) n1 = 1 := by omega
      rw [this] at e
      have := h1.lt
      omega
  rw [hb0] at e
  omega

/-- What Add leaves at its end, before trim. -/
def SumRel (neg : Bool) (O C : Nat → Nat) (W : World) (b : Nat) (k : Nat) (x y : Value) (wr : World) : Prop :=
  x = .int .i64 (C k : Nat) ∧ y = .int .i64 (k : Nat) ∧
  (∃ A c, Whole wr b 30 #[.bool neg, .slice A k c] ∧ wr.ownsRow W.heap.size 3 1 (.slice A k c) k (digits O k)) ∧ Below W.heap.size W wr

theorem DSlc.put {w : World} {A : Option Addr} {n : Nat} {D : Nat → Nat} (h : DSlc w A n D) {p : Addr} {u : Value} (hp : w.cell? p = some u) (hu : ∀ z, u ≠ .int .i64 z) (x : Value) : DSlc (w.setCell p x) A n D := by
  rcases h with h | ⟨b, off, e, ht, hc⟩
  · exact Or.inl h
  · refine Or.inr ⟨b, off, e, ht.put p x, fun i hi => ?_⟩
    rw [World.cell?_setCell_other w p ⟨b, off + i, none⟩ x (fun h => ?_)]
    · exact hc i hi
    · have := hc i hi
      first | rw [h, hp] at this | rw [← h, hp] at this
      exact hu _ (Option.some.inj this)
theorem NumV.put {w : World} {v : Value} {x : Int} (h : NumV w v x) {p : Addr} {u : Value} (hp : w.cell? p = some u) (hu : ∀ z, u ≠ .int .i64 z) (y : Value) : NumV (w.setCell p y) v x := by
  obtain ⟨n, c, A, D, e, h1, h2, h3, h4⟩ := h
  exact ⟨n, c, A, D, e, h1, h2.put hp hu y, h3, h4⟩

theorem trims_num {neg : Bool} {x : Int} {A : Option Addr} {n c : Nat} {D : Nat → Nat} {w w' : World} {e : Ending} (h : Trims neg A n c D w e w') (hs : DSlc w A n D) (hn : n ≤ 1000) (hnc : n ≤ c) (hv : pv D n = x.natAbs) (hsg : x ≠ 0 → neg = decide (x < 0)) :
    ∃ v, e = .returned v ∧ NumV w' v x ∧ Below w.heap.size w w' ∧ ∃ p A' k c', v = .agg #[.bool p, .slice A' k c'] := by
  obtain ⟨k, hk, rfl, hd, hb⟩ := h
  refine ⟨_, rfl, ⟨k, c, A, D, ?_, hv ▸ hd, ?_, by omega, by omega⟩, hb, _, _, _, _, rfl⟩
  · have hz := hd.zero
    rw [hv] at hz
    by_cases hx : x = 0
    · have h0 : k = 0 := hz.2 (by omega)
      subst h0 hx
      simp
    · have h0 : 0 < k := by omega
      rw [hsg hx, decide_eq_true h0]
      simp
  · rcases hs with h0 | ⟨b, off, e, ht, hc⟩
    · exact Or.inl (by omega)
    · exact DSlc.below (Or.inr ⟨b, off, e, ht, fun i hi => hc i (by omega)⟩) hb (Nat.le_refl _)

theorem at_same (A : Option Addr) (n c i : Nat) (D : Nat → Nat) (w : World) (h : DSlc w A n D) (hn : n ≤ 1000) (hi : i ≤ 1000) (z : Int) (hz : ((dz D n i : Nat) : Int) = z) :
    Calls Tryd.prog 29 #[.slice A n c, .int .i64 i] w fun e w' => e = .returned (.int .i64 z) ∧ w' = w :=
  (at_any A n c i D w h hn hi z hz).mono fun _ _ h => ⟨h.1, h.2.symm⟩
theorem Tryd.numDiff : 3 ≠ 30 := by decide

set_option maxRecDepth 100000 in
set_option maxHeartbeats 1000000 in
theorem add_same (neg : Bool) (n1 n2 c1 c2 m1 m2 : Nat) (A1 A2 : Option Addr) (D1 D2 : Nat → Nat) (w : World) (h1 : DSlc w A1 n1 D1) (h2 : DSlc w A2 n2 D2) (d1 : Dig n1 D1 m1) (d2 : Dig n2 D2 m2) (k1 : n1 ≤ 100) (k2 : n2 ≤ 100)
    (x : Int) (hx : x.natAbs = m1 + m2) (hsg : x ≠ 0 → neg = decide (x < 0)) :
    Calls Tryd.prog 13 #[.agg #[.bool neg, .slice A1 n1 c1], .agg #[.bool neg, .slice A2 n2 c2]] w fun e w' => ∃ v, e = .returned v ∧ NumV w' v x ∧ Below w.heap.size w w' := by
  obtain ⟨i0, hi, hz0, hz1, hz2⟩ := info_parts Tryd.infoInt
  have H1 := Lib.hid h1; have H2 := Lib.hid h2; have HD1 := Lib.hid d1; have HD2 := Lib.hid d2; have HX := Lib.hid hx; have HSG := Lib.hid hsg
  clear h1 h2 d1 d2 hx hsg
  obtain ⟨E1, hE1⟩ : ∃ E, dz D1 n1 = E := ⟨_, rfl⟩
  obtain ⟨E2, hE2⟩ : ∃ E, dz D2 n2 = E := ⟨_, rfl⟩
  have L1 := Lib.hid (hE1 ▸ dz_lt HD1.out.small)
  have L2 := Lib.hid (hE2 ▸ dz_lt HD2.out.small)
  have HE1 := Lib.hid hE1; have HE2 := Lib.hid hE2
  clear hE1 hE2
  have tn : (neg != neg) = false := by simp
  go_enter Tryd.func13, Tryd.ntmps13
  go_wp2
  go_loopg [11, 12] 101 (fun g x y wr => ∃ k, k ≤ 101 ∧ g = 101 - k ∧ SumRel neg (sd E1 E2) (cy E1 E2) w (w.heap.size + 1 + 1 + 1) k x y wr ∧ Whole wr w.heap.size 30 #[.bool neg, .slice A1 n1 c1] ∧ Whole wr (w.heap.size + 1) 30 #[.bool neg, .slice A2 n2 c2] ∧ Whole wr (w.heap.size + 1 + 1) 30 #[.bool false, .slice none 0 0])
  case atStart =>
    refine ⟨0, by omega, rfl, ⟨rfl, rfl, ⟨none, 0, ?_, World.ownsRow_nil _ _ _ _⟩, ?_⟩, ?_, ?_, ?_⟩
    · have := Whole.new (((w.alloc (.cells #[.bool neg, .slice A1 n1 c1] 30)).alloc (.cells #[.bool neg, .slice A2 n2 c2] 30)).alloc (.cells #[.bool false, .slice none 0 0] 30)) 30 #[.bool neg, .slice none 0 0]
      simpa using this
    · exact ((((Below.refl _ _).alloc (Nat.le_refl _) _).alloc (by simp) _).alloc (by simp; omega) _).alloc (by simp; omega) _
    · exact (((Whole.new w _ _).alloc _).alloc _).alloc _
    · exact (Whole.alloc (heap_alloc2_new w _ _) _).alloc _
    · have := (Whole.new ((w.alloc (.cells #[.bool neg, .slice A1 n1 c1] 30)).alloc (.cells #[.bool neg, .slice A2 n2 c2] 30)) 30 #[.bool false, .slice none 0 0]).alloc (.cells #[.bool neg, .slice none 0 0] 30)
      simpa using this
  case round =>
    obtain ⟨k, hk, rfl, ⟨rfl, rfl, ⟨A, c, hw4, hown⟩, hb⟩, hw1, hw2, hw3⟩ := hrel
    have hl := hb.size
    obtain ⟨cc, hcc⟩ : ∃ cc : Int, ((cy E1 E2 k : Nat) : Int) = cc := ⟨_, rfl⟩
    have hc1 := cy_le L1.out L2.out k
    have cc0 : 0 ≤ cc := by omega
    have cc1 : cc ≤ 1 := by omega
    rw [hcc]
    have HCC := Lib.hid hcc
    have a1 := hw1.cell 1; have a2 := hw2.cell 1; have a3 := hw4.cell 1; have a4 := hw4.free 1; have a5 := hw4.cell 0
    simp at a1 a2 a3 a5
    have b0 := hw3.cell 0; have b1 := hw3.cell 1; have b2 := hw3.free 0; have b3 := hw3.free 1
    simp at b0 b1
    have HW1 := Lib.hid hw1; have HW2 := Lib.hid hw2; have HW3 := Lib.hid hw3; have HW4 := Lib.hid hw4; have HOWN := Lib.hid hown; have HB := Lib.hid hb
    clear hw1 hw2 hw3 hw4 hown hb hcc hc1
    by_cases hgo : k < n1 ∨ k < n2 ∨ 0 < cc
    · have hk100 : k ≤ 100 := by
        rcases Nat.lt_or_ge k 101 with h | h
        · omega
        · have hk : k = 100 + 1 := by omega
          have e1 : E1 100 = 0 := by rw [← HE1.out]; unfold dz; rw [if_neg (by omega)]
          have e2 : E2 100 = 0 := by rw [← HE2.out]; unfold dz; rw [if_neg (by omega)]
          have e3 := cy_le L1.out L2.out 100
          have e4 : cy E1 E2 k = 0 := by rw [hk, cy, e1, e2]; omega
          have := HCC.out
          omega
      obtain ⟨z1, hz1⟩ : ∃ z : Int, ((dz D1 n1 k : Nat) : Int) = z := ⟨_, rfl⟩
      obtain ⟨z2, hz2⟩ : ∃ z : Int, ((dz D2 n2 k : Nat) : Int) = z := ⟨_, rfl⟩
      have zz1 : z1 = (E1 k : Nat) := by rw [← HE1.out, ← hz1]
      have zz2 : z2 = (E2 k : Nat) := by rw [← HE2.out, ← hz2]
      have y1 : 0 ≤ z1 := by omega
      have y2 : 0 ≤ z2 := by omega
      have y3 : z1 ≤ 32767 := by have := L1.out k; omega
      have y4 : z2 ≤ 32767 := by have := L2.out k; omega
      have Z1 := Lib.hid hz1; have Z2 := Lib.hid hz2; have ZZ1 := Lib.hid zz1; have ZZ2 := Lib.hid zz2
      have q1 : ∀ d, Calls Tryd.prog 29 #[.slice A1 n1 c1, .int .i64 k] (wr.drewN d) fun e w' => e = .returned (.int .i64 z1) ∧ w' = wr.drewN d := fun d => at_same A1 n1 c1 k D1 (wr.drewN d) ((H1.out.below HB.out (Nat.le_refl _)).drewN d) (by omega) (by omega) z1 Z1.out
      have q2 : ∀ d, Calls Tryd.prog 29 #[.slice A2 n2 c2, .int .i64 k] (wr.drewN d) fun e w' => e = .returned (.int .i64 z2) ∧ w' = wr.drewN d := fun d => at_same A2 n2 c2 k D2 (wr.drewN d) ((H2.out.below HB.out (Nat.le_refl _)).drewN d) (by omega) (by omega) z2 Z2.out
      have Q1 := Lib.hid q1; have Q2 := Lib.hid q2
      clear hz1 hz2 zz1 zz2 q1 q2
      have hd : (decide (k < n1) = true) ∨ (decide (k < n1) = false ∧ decide (k < n2) = true) ∨ (decide (k < n1) = false ∧ decide (k < n2) = false ∧ decide (0 < cc) = true) := by
        simp only [decide_eq_true_eq, decide_eq_false_iff_not]; omega
      clear hgo
      rcases hd with t1 | ⟨t1, t2⟩ | ⟨t1, t2, t3⟩
      all_goals
        go_wp2
        go_quiet ((first | (go_at_call 29; with_reducible exact Calls.quiet_of_same (Q1.out _)) | (go_at_call 29; with_reducible exact Calls.quiet_of_same (Q2.out _))))
        go_wp2_with (at_builtin; refine wpList_app1 _ rfl _ _ 28 rfl w.heap.size 3 i0 (.int .i64 0) 8 Tryd.underlying28 hi hz0 hz1 hz2 rfl _ k _ rfl (own_drewN HOWN.out _) _ rfl rfl (by omega) (by omega) hl ?_)
        intro A' c' w1 hown1 hgrow
        have hw4' := app_whole (HW4.out.drewN _) (own_drewN HOWN.out _) (by decide) _ hgrow
        have hw1' := app_whole (HW1.out.drewN _) (own_drewN HOWN.out _) (by decide) _ hgrow
        have hw2' := app_whole (HW2.out.drewN _) (own_drewN HOWN.out _) (by decide) _ hgrow
        have hw3' := app_whole (HW3.out.drewN _) (own_drewN HOWN.out _) (by decide) _ hgrow
        have hb' := app_below (below_drewN' HB.out _) (Nat.le_refl _) hl (own_drewN HOWN.out _) _ hgrow
        have e0 := hw4'.cell 1
        have e1 := hw4'.free 1
        simp at e0
        have HN1 := Lib.hid (own_ne hown1 hw4' (by decide))
        have HO1 := Lib.hid hown1; have GA := Lib.hid hw1'; have GB := Lib.hid hw2'; have GC := Lib.hid hw3'; have GD := Lib.hid hw4'; have HD := Lib.hid hb'
        clear hown1 hgrow hw1' hw2' hw3' hw4' hb'
        go_wp2
        go_roundg (101 - (k + 1))
        case rel =>
          have hz1' := ZZ1.out
          have hz2' := ZZ2.out
          have hcc' := HCC.out
          have hsd : (z1 + z2 + cc) % 32768 = ((sd E1 E2 k : Nat) : Int) := by unfold sd; omega
          refine ⟨k + 1, by omega, rfl, ⟨?_, rfl, ⟨A', c', GD.out.put 1 _, ?_⟩, HD.out.setCell (by simp; omega) _⟩, GA.out.other (p := ⟨w.heap.size + 1 + 1 + 1, 1, none⟩) (by simp; omega) _, GB.out.other (p := ⟨w.heap.size + 1 + 1 + 1, 1, none⟩) (by simp) _, GC.out.other (p := ⟨w.heap.size + 1 + 1 + 1, 1, none⟩) (by simp) _⟩
          · exact congrArg _ (by rw [cy]; omega)
          · have h3 := own_put HO1.out (p := ⟨w.heap.size + 1 + 1 + 1, 1, none⟩) HN1.out (.slice A' (k + 1) c')
            rw [digits_succ, ← hsd]
            exact h3
        case measure => omega
    · have t1 : decide (k < n1) = false := decide_eq_false (by omega)
      have t2 : decide (k < n2) = false := decide_eq_false (by omega)
      obtain rfl : cc = 0 := by omega
      have hcap := own_cap HOWN.out
      have ht := Lib.hid (trim_any neg A k c (sd E1 E2) wr (own_dslc HOWN.out) (by omega) hcap (fun i _ => by unfold sd; omega))
      clear hcap
      go_wp2_with fail
      refine ht.out.mono ?_; rintro e w2 htr
      obtain ⟨v, rfl, hv, hb2, p, A', k', c', rfl⟩ := trims_num (x := x) htr (own_dslc HOWN.out) (by omega) (own_cap HOWN.out) (by
        have h := sd_pv E1 E2 k
        have h1 := dz_pv HD1.out (show n1 ≤ k by omega)
        have h2 := dz_pv HD2.out (show n2 ≤ k by omega)
        rw [HE1.out] at h1
        rw [HE2.out] at h2
        have h3 := HCC.out
        have h4 : cy E1 E2 k = 0 := by omega
        have h5 := HX.out
        rw [h4, h1, h2] at h
        omega) HSG.out
      have hw3' := HW3.out.below hb2 HW3.out.lt
      have r0 := hw3'.cell 0; have r1 := hw3'.cell 1; have r2 := hw3'.free 0; have r3 := hw3'.free 1
      simp at r0 r1
      have G3 := Lib.hid hw3'; have HV := Lib.hid hv; have HB2 := Lib.hid hb2
      clear hw3' hv hb2 htr
      go_wp2
      have hW : Whole ((w2.setCell ⟨w.heap.size + 1 + 1, 0, none⟩ (.bool p)).setCell ⟨w.heap.size + 1 + 1, 1, none⟩ (.slice A' k' c')) (w.heap.size + 1 + 1) 30 #[.bool p, .slice A' k' c'] := (G3.out.put 0 _).put 1 _
      refine ret_num (w.heap.size + 1 + 1) _ _ rfl rfl rfl hW ⟨_, rfl, ?_, ?_⟩
      · refine (HV.out.put r0 (by intro z h; cases h) _).put (u := .slice none 0 0) ?_ (by intro z h; cases h) _
        exact (G3.out.put 0 _).cell 1
      · exact ((HB.out.trans (HB2.out.mono hl)).setCell (by simp; omega) _).setCell (by simp; omega) _
end Go.Proofs.YtdfackmaimmapaaDoor
