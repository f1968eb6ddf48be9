/- conf: Name of any kind; Right. Written by gen_right22.py. -/
import Derived.Test.YtbbdammdiplagaaGreatDoorConfY
namespace Go.Proofs.YtbbdammdiplagaaGreatDoor
open Go.RowKit

theorem kname_out (k : Int) (h : ¬ (1 ≤ k ∧ k ≤ 3)) (w : World) : Calls Tryz.prog 23 #[.int .i64 k] w fun e w' => e = .returned (.string ⟨#[]⟩) ∧ w' = w := by
  have n1 : (k == 1) = false := by simp; omega
  have n2 : (k == 2) = false := by simp; omega
  have n3 : (k == 3) = false := by simp; omega
  clear h
  go_enter Tryz.func23, Tryz.ntmps23
  go_wp2_with fail
  go_ret
  exact ⟨rfl, rfl⟩
/-- Is what is asked right? -/
def supB (x : CK) : Bool := if x.c.kind = 3 then decide (1 ≤ x.c.sup ∧ x.c.sup ≤ 1000000) else decide (x.c.sup = 0)
def rightKB (x : CK) : Bool := decide (1 ≤ x.c.kind ∧ x.c.kind ≤ 3) && (supB x && (decide (1 ≤ x.c.size ∧ x.c.size ≤ 8) && (decide (1 ≤ x.c.work ∧ x.c.work ≤ 64) && (decide (1 ≤ x.c.cap ∧ x.c.cap ≤ 1000000) && (decide (x.o.length ≤ 15) && (progF x.o).isNone)))))
def rightC (x : CK) : Option (Int × Int) := if rightKB x = true then none else some (12, 0)
theorem rightC_no {x : CK} (h : rightKB x = false) : rightC x = some (12, 0) := by unfold rightC; rw [h]; rfl
theorem rightC_yes {x : CK} (h : rightKB x = true) : rightC x = none := by unfold rightC; rw [h]; rfl
set_option maxRecDepth 100000 in
set_option maxHeartbeats 8000000 in
theorem confRight_any (x : CK) (kv : Value) (w : World) (hk : EdgesV w kv x.o) (hl : x.o.length ≤ 1000000) :
    Calls Tryz.prog 9 #[.agg (cV x.c kv)] w (ErrTo (rightC x) w) := by
  obtain ⟨⟨kd, sz, su, wk, cp⟩, O⟩ := x
  obtain ⟨A, c, rfl⟩ := hk.form
  simp only at hk hl ⊢
  have hb1 : Below w.heap.size w (w.alloc (.cells (cV ⟨kd, sz, su, wk, cp⟩ (.slice A O.length c)) 29)) := (Below.refl _ _).alloc (Nat.le_refl _) _
  have hx := Whole.new w 29 (cV ⟨kd, sz, su, wk, cp⟩ (.slice A O.length c))
  obtain ⟨w1, hw1⟩ : ∃ W, w.alloc (.cells (cV ⟨kd, sz, su, wk, cp⟩ (.slice A O.length c)) 29) = W := ⟨_, rfl⟩
  obtain ⟨xb, hxb⟩ : ∃ g, w.heap.size = g := ⟨_, rfl⟩
  rw [hw1] at hb1 hx
  rw [hxb] at hx
  have HPR := Lib.hid (progRight_any (hk.below hb1 (Nat.le_refl _)) hl)
  have HU : Hid (∀ z0 zs z2 z3 z4 z5 z6, decide (1 ≤ kd ∧ kd ≤ 3) = z0 → supB ⟨⟨kd, sz, su, wk, cp⟩, O⟩ = zs → decide (1 ≤ sz ∧ sz ≤ 8) = z2 → decide (1 ≤ wk ∧ wk ≤ 64) = z3 → decide (1 ≤ cp ∧ cp ≤ 1000000) = z4 → decide (O.length ≤ 15) = z5 → (progF O).isNone = z6 → rightKB ⟨⟨kd, sz, su, wk, cp⟩, O⟩ = (z0 && (zs && (z2 && (z3 && (z4 && (z5 && z6))))))) := Lib.hid (fun z0 zs z2 z3 z4 z5 z6 h0 hs h2 h3 h4 h5 h6 => by
    unfold rightKB; simp only; rw [h0, hs, h2, h3, h4, h5, h6])
  obtain ⟨z2, hz2⟩ : ∃ z, decide (1 ≤ sz ∧ sz ≤ 8) = z := ⟨_, rfl⟩
  obtain ⟨z3, hz3⟩ : ∃ z, decide (1 ≤ wk ∧ wk ≤ 64) = z := ⟨_, rfl⟩
  obtain ⟨z4, hz4⟩ : ∃ z, decide (1 ≤ cp ∧ cp ≤ 1000000) = z := ⟨_, rfl⟩
  obtain ⟨z5, hz5⟩ : ∃ z, decide (O.length ≤ 15) = z := ⟨_, rfl⟩
  obtain ⟨o6, ho6⟩ : ∃ o, progF O = o := ⟨_, rfl⟩
  obtain ⟨zs, hzs⟩ : ∃ z, supB ⟨⟨kd, sz, su, wk, cp⟩, O⟩ = z := ⟨_, rfl⟩
  rw [ho6] at HPR
  have HW2 := Lib.hid (within_any sz 8 w1); have HW3 := Lib.hid (within_any wk 64 w1); have HW4 := Lib.hid (within_any cp 1000000 w1); have HWS := Lib.hid (within_any su 1000000 w1)
  rw [hz2] at HW2
  rw [hz3] at HW3
  rw [hz4] at HW4
  have x0 : w1.cell? ⟨xb, 0, none⟩ = some (.int .i64 kd) := hx.cell 0
  have x1 : w1.cell? ⟨xb, 1, none⟩ = some (.int .i64 sz) := hx.cell 1
  have x2 : w1.cell? ⟨xb, 2, none⟩ = some (.int .i64 su) := hx.cell 2
  have x3 : w1.cell? ⟨xb, 3, none⟩ = some (.int .i64 wk) := hx.cell 3
  have x4 : w1.cell? ⟨xb, 4, none⟩ = some (.int .i64 cp) := hx.cell 4
  have x5 : w1.cell? ⟨xb, 5, none⟩ = some (.slice A O.length c) := hx.cell 5
  have HNEW := Lib.hid (fun W => new_any 12 0 ⟨#[106, 111, 98]⟩ W)
  have HB1 := Lib.hid hb1; have HW1 := Lib.hid hw1; have HXB := Lib.hid hxb; have HZ2 := Lib.hid hz2; have HZ3 := Lib.hid hz3; have HZ4 := Lib.hid hz4; have HZ5 := Lib.hid hz5; have HO6 := Lib.hid ho6; have HZS := Lib.hid hzs
  have t5 : decide (15 < O.length) = !z5 := by
    rw [← hz5]
    by_cases h : O.length ≤ 15
    · rw [decide_eq_true h, decide_eq_false (by omega)]; rfl
    · rw [decide_eq_false h, decide_eq_true (by omega)]; rfl
  have t5' : decide ((15 : Int) < (O.length : Int)) = !z5 := by rw [← t5]; exact decide_eq_decide.2 (by omega)
  generalize O.length = q at *
  clear hk hl hb1 hx hw1 hxb hz2 hz3 hz4 hz5 ho6 hzs
  by_cases hin : 1 ≤ kd ∧ kd ≤ 3
  · have hkd : kd = 1 ∨ kd = 2 ∨ kd = 3 := by omega
    have HZ0 := Lib.hid (decide_eq_true hin)
    have HNAME := Lib.hid (kname_any kd hin.1 hin.2 w1)
    clear hin
    rcases hkd with rfl | rfl | rfl
    · have hs0 : (su == 0) = zs := by
        rw [← HZS.out]
        unfold supB
        rw [if_neg (show ¬ (1 : Int) = 3 by decide)]
        rfl
      have HNAME : Hid (Calls Tryz.prog 23 #[.int .i64 1] w1 fun e w' => e = .returned (.string ⟨#[109, 111, 116, 105, 102, 115]⟩) ∧ w' = w1) := HNAME
      cases zs with
      | false =>
        have HF : Hid (rightC ⟨⟨1, sz, su, wk, cp⟩, O⟩ = some (12, 0)) := Lib.hid (rightC_no (by rw [HU.out _ _ _ _ _ _ _ HZ0.out HZS.out HZ2.out HZ3.out HZ4.out HZ5.out rfl]; rfl))
        go_enter Tryz.func9, Tryz.ntmps9
        go_upto_region 1 with fail
        rw [HW1.out, HXB.out]
        go_wp2_with fail
        refine HNAME.out.mono ?_; rintro e u ⟨rfl, hw⟩; obtain rfl := hw.symm
        clear hw
        go_wp2_with fail
        refine (HNEW.out _).mono ?_; rintro e w7 ⟨rfl, rfl⟩
        clear x0 x1 x2 x3 x4 x5
        go_wp2_with fail
        go_ret
        exact ⟨HB1.out.trans ((fault_new 12 0 ⟨#[106, 111, 98]⟩ w1).1.mono HB1.out.size), Or.inr ⟨12, 0, _, HF.out, rfl, (fault_new 12 0 ⟨#[106, 111, 98]⟩ w1).2⟩⟩
      | true =>
        cases z2 with
        | false =>
          have HF : Hid (rightC ⟨⟨1, sz, su, wk, cp⟩, O⟩ = some (12, 0)) := Lib.hid (rightC_no (by rw [HU.out _ _ _ _ _ _ _ HZ0.out HZS.out HZ2.out HZ3.out HZ4.out HZ5.out rfl]; rfl))
          go_enter Tryz.func9, Tryz.ntmps9
          go_upto_region 1 with fail
          rw [HW1.out, HXB.out]
          go_wp2_with fail
          refine HNAME.out.mono ?_; rintro e u ⟨rfl, hw⟩; obtain rfl := hw.symm
          clear hw
          go_wp2_with fail
          refine HW2.out.mono ?_; rintro e u ⟨rfl, hw⟩; obtain rfl := hw.symm
          clear hw
          go_wp2_with fail
          refine (HNEW.out _).mono ?_; rintro e w7 ⟨rfl, rfl⟩
          clear x0 x1 x2 x3 x4 x5
          go_wp2_with fail
          go_ret
          exact ⟨HB1.out.trans ((fault_new 12 0 ⟨#[106, 111, 98]⟩ w1).1.mono HB1.out.size), Or.inr ⟨12, 0, _, HF.out, rfl, (fault_new 12 0 ⟨#[106, 111, 98]⟩ w1).2⟩⟩
        | true =>
          cases z3 with
          | false =>
            have HF : Hid (rightC ⟨⟨1, sz, su, wk, cp⟩, O⟩ = some (12, 0)) := Lib.hid (rightC_no (by rw [HU.out _ _ _ _ _ _ _ HZ0.out HZS.out HZ2.out HZ3.out HZ4.out HZ5.out rfl]; rfl))
            go_enter Tryz.func9, Tryz.ntmps9
            go_upto_region 1 with fail
            rw [HW1.out, HXB.out]
            go_wp2_with fail
            refine HNAME.out.mono ?_; rintro e u ⟨rfl, hw⟩; obtain rfl := hw.symm
            clear hw
            go_wp2_with fail
            refine HW2.out.mono ?_; rintro e u ⟨rfl, hw⟩; obtain rfl := hw.symm
            clear hw
            go_wp2_with fail
            refine HW3.out.mono ?_; rintro e u ⟨rfl, hw⟩; obtain rfl := hw.symm
            clear hw
            go_wp2_with fail
            refine (HNEW.out _).mono ?_; rintro e w7 ⟨rfl, rfl⟩
            clear x0 x1 x2 x3 x4 x5
            go_wp2_with fail
            go_ret
            exact ⟨HB1.out.trans ((fault_new 12 0 ⟨#[106, 111, 98]⟩ w1).1.mono HB1.out.size), Or.inr ⟨12, 0, _, HF.out, rfl, (fault_new 12 0 ⟨#[106, 111, 98]⟩ w1).2⟩⟩
          | true =>
            cases z4 with
            | false =>
              have HF : Hid (rightC ⟨⟨1, sz, su, wk, cp⟩, O⟩ = some (12, 0)) := Lib.hid (rightC_no (by rw [HU.out _ _ _ _ _ _ _ HZ0.out HZS.out HZ2.out HZ3.out HZ4.out HZ5.out rfl]; rfl))
              go_enter Tryz.func9, Tryz.ntmps9
              go_upto_region 1 with fail
              rw [HW1.out, HXB.out]
              go_wp2_with fail
              refine HNAME.out.mono ?_; rintro e u ⟨rfl, hw⟩; obtain rfl := hw.symm
              clear hw
              go_wp2_with fail
              refine HW2.out.mono ?_; rintro e u ⟨rfl, hw⟩; obtain rfl := hw.symm
              clear hw
              go_wp2_with fail
              refine HW3.out.mono ?_; rintro e u ⟨rfl, hw⟩; obtain rfl := hw.symm
              clear hw
              go_wp2_with fail
              refine HW4.out.mono ?_; rintro e u ⟨rfl, hw⟩; obtain rfl := hw.symm
              clear hw
              go_wp2_with fail
              refine (HNEW.out _).mono ?_; rintro e w7 ⟨rfl, rfl⟩
              clear x0 x1 x2 x3 x4 x5
              go_wp2_with fail
              go_ret
              exact ⟨HB1.out.trans ((fault_new 12 0 ⟨#[106, 111, 98]⟩ w1).1.mono HB1.out.size), Or.inr ⟨12, 0, _, HF.out, rfl, (fault_new 12 0 ⟨#[106, 111, 98]⟩ w1).2⟩⟩
            | true =>
              cases z5 with
              | false =>
                have HF : Hid (rightC ⟨⟨1, sz, su, wk, cp⟩, O⟩ = some (12, 0)) := Lib.hid (rightC_no (by rw [HU.out _ _ _ _ _ _ _ HZ0.out HZS.out HZ2.out HZ3.out HZ4.out HZ5.out rfl]; rfl))
                go_enter Tryz.func9, Tryz.ntmps9
                go_upto_region 1 with fail
                rw [HW1.out, HXB.out]
                go_wp2_with fail
                refine HNAME.out.mono ?_; rintro e u ⟨rfl, hw⟩; obtain rfl := hw.symm
                clear hw
                go_wp2_with fail
                refine HW2.out.mono ?_; rintro e u ⟨rfl, hw⟩; obtain rfl := hw.symm
                clear hw
                go_wp2_with fail
                refine HW3.out.mono ?_; rintro e u ⟨rfl, hw⟩; obtain rfl := hw.symm
                clear hw
                go_wp2_with fail
                refine HW4.out.mono ?_; rintro e u ⟨rfl, hw⟩; obtain rfl := hw.symm
                clear hw
                go_wp2_with fail
                refine (HNEW.out _).mono ?_; rintro e w7 ⟨rfl, rfl⟩
                clear x0 x1 x2 x3 x4 x5
                go_wp2_with fail
                go_ret
                exact ⟨HB1.out.trans ((fault_new 12 0 ⟨#[106, 111, 98]⟩ w1).1.mono HB1.out.size), Or.inr ⟨12, 0, _, HF.out, rfl, (fault_new 12 0 ⟨#[106, 111, 98]⟩ w1).2⟩⟩
              | true =>
                go_enter Tryz.func9, Tryz.ntmps9
                go_upto_region 1 with fail
                rw [HW1.out, HXB.out]
                go_wp2_with fail
                refine HNAME.out.mono ?_; rintro e u ⟨rfl, hw⟩; obtain rfl := hw.symm
                clear hw
                go_wp2_with fail
                refine HW2.out.mono ?_; rintro e u ⟨rfl, hw⟩; obtain rfl := hw.symm
                clear hw
                go_wp2_with fail
                refine HW3.out.mono ?_; rintro e u ⟨rfl, hw⟩; obtain rfl := hw.symm
                clear hw
                go_wp2_with fail
                refine HW4.out.mono ?_; rintro e u ⟨rfl, hw⟩; obtain rfl := hw.symm
                clear hw
                go_wp2_with fail
                refine HPR.out.mono ?_; rintro e w2 hto
                clear x0 x1 x2 x3 x4 x5
                rcases o6 with _ | ⟨cc, pp⟩
                · obtain ⟨rfl, hb2⟩ := hto.nil rfl
                  have HB2 := Lib.hid (HB1.out.trans (hb2.mono HB1.out.size))
                  have HF : Hid (rightC ⟨⟨1, sz, su, wk, cp⟩, O⟩ = none) := Lib.hid (rightC_yes (by rw [HU.out _ _ _ _ _ _ _ HZ0.out HZS.out HZ2.out HZ3.out HZ4.out HZ5.out (congrArg Option.isNone HO6.out)]; rfl))
                  clear hto hb2
                  go_wp2_with fail
                  go_ret
                  exact ⟨HB2.out, Or.inl ⟨HF.out, rfl⟩⟩
                · obtain ⟨fb, rfl, hf, hb2⟩ := hto.err rfl
                  have HB2 := Lib.hid (HB1.out.trans (hb2.mono HB1.out.size))
                  have HF : Hid (rightC ⟨⟨1, sz, su, wk, cp⟩, O⟩ = some (12, 0)) := Lib.hid (rightC_no (by rw [HU.out _ _ _ _ _ _ _ HZ0.out HZS.out HZ2.out HZ3.out HZ4.out HZ5.out (congrArg Option.isNone HO6.out)]; rfl))
                  clear hto hf hb2
                  go_wp2_with fail
                  refine (HNEW.out _).mono ?_; rintro e w7 ⟨rfl, rfl⟩
                  go_wp2_with fail
                  go_ret
                  exact ⟨HB2.out.trans ((fault_new 12 0 ⟨#[106, 111, 98]⟩ w2).1.mono HB2.out.size), Or.inr ⟨12, 0, _, HF.out, rfl, (fault_new 12 0 ⟨#[106, 111, 98]⟩ w2).2⟩⟩
    · have hs0 : (su == 0) = zs := by
        rw [← HZS.out]
        unfold supB
        rw [if_neg (show ¬ (2 : Int) = 3 by decide)]
        rfl
      have HNAME : Hid (Calls Tryz.prog 23 #[.int .i64 2] w1 fun e w' => e = .returned (.string ⟨#[99, 108, 105, 113, 117, 101, 115]⟩) ∧ w' = w1) := HNAME
      cases zs with
      | false =>
        have HF : Hid (rightC ⟨⟨2, sz, su, wk, cp⟩, O⟩ = some (12, 0)) := Lib.hid (rightC_no (by rw [HU.out _ _ _ _ _ _ _ HZ0.out HZS.out HZ2.out HZ3.out HZ4.out HZ5.out rfl]; rfl))
        go_enter Tryz.func9, Tryz.ntmps9
        go_upto_region 1 with fail
        rw [HW1.out, HXB.out]
        go_wp2_with fail
        refine HNAME.out.mono ?_; rintro e u ⟨rfl, hw⟩; obtain rfl := hw.symm
        clear hw
        go_wp2_with fail
        refine (HNEW.out _).mono ?_; rintro e w7 ⟨rfl, rfl⟩
        clear x0 x1 x2 x3 x4 x5
        go_wp2_with fail
        go_ret
        exact ⟨HB1.out.trans ((fault_new 12 0 ⟨#[106, 111, 98]⟩ w1).1.mono HB1.out.size), Or.inr ⟨12, 0, _, HF.out, rfl, (fault_new 12 0 ⟨#[106, 111, 98]⟩ w1).2⟩⟩
      | true =>
        cases z2 with
        | false =>
          have HF : Hid (rightC ⟨⟨2, sz, su, wk, cp⟩, O⟩ = some (12, 0)) := Lib.hid (rightC_no (by rw [HU.out _ _ _ _ _ _ _ HZ0.out HZS.out HZ2.out HZ3.out HZ4.out HZ5.out rfl]; rfl))
          go_enter Tryz.func9, Tryz.ntmps9
          go_upto_region 1 with fail
          rw [HW1.out, HXB.out]
          go_wp2_with fail
          refine HNAME.out.mono ?_; rintro e u ⟨rfl, hw⟩; obtain rfl := hw.symm
          clear hw
          go_wp2_with fail
          refine HW2.out.mono ?_; rintro e u ⟨rfl, hw⟩; obtain rfl := hw.symm
          clear hw
          go_wp2_with fail
          refine (HNEW.out _).mono ?_; rintro e w7 ⟨rfl, rfl⟩
          clear x0 x1 x2 x3 x4 x5
          go_wp2_with fail
          go_ret
          exact ⟨HB1.out.trans ((fault_new 12 0 ⟨#[106, 111, 98]⟩ w1).1.mono HB1.out.size), Or.inr ⟨12, 0, _, HF.out, rfl, (fault_new 12 0 ⟨#[106, 111, 98]⟩ w1).2⟩⟩
        | true =>
          cases z3 with
          | false =>
            have HF : Hid (rightC ⟨⟨2, sz, su, wk, cp⟩, O⟩ = some (12, 0)) := Lib.hid (rightC_no (by rw [HU.out _ _ _ _ _ _ _ HZ0.out HZS.out HZ2.out HZ3.out HZ4.out HZ5.out rfl]; rfl))
            go_enter Tryz.func9, Tryz.ntmps9
            go_upto_region 1 with fail
            rw [HW1.out, HXB.out]
            go_wp2_with fail
            refine HNAME.out.mono ?_; rintro e u ⟨rfl, hw⟩; obtain rfl := hw.symm
            clear hw
            go_wp2_with fail
            refine HW2.out.mono ?_; rintro e u ⟨rfl, hw⟩; obtain rfl := hw.symm
            clear hw
            go_wp2_with fail
            refine HW3.out.mono ?_; rintro e u ⟨rfl, hw⟩; obtain rfl := hw.symm
            clear hw
            go_wp2_with fail
            refine (HNEW.out _).mono ?_; rintro e w7 ⟨rfl, rfl⟩
            clear x0 x1 x2 x3 x4 x5
            go_wp2_with fail
            go_ret
            exact ⟨HB1.out.trans ((fault_new 12 0 ⟨#[106, 111, 98]⟩ w1).1.mono HB1.out.size), Or.inr ⟨12, 0, _, HF.out, rfl, (fault_new 12 0 ⟨#[106, 111, 98]⟩ w1).2⟩⟩
          | true =>
            cases z4 with
            | false =>
              have HF : Hid (rightC ⟨⟨2, sz, su, wk, cp⟩, O⟩ = some (12, 0)) := Lib.hid (rightC_no (by rw [HU.out _ _ _ _ _ _ _ HZ0.out HZS.out HZ2.out HZ3.out HZ4.out HZ5.out rfl]; rfl))
              go_enter Tryz.func9, Tryz.ntmps9
              go_upto_region 1 with fail
              rw [HW1.out, HXB.out]
              go_wp2_with fail
              refine HNAME.out.mono ?_; rintro e u ⟨rfl, hw⟩; obtain rfl := hw.symm
              clear hw
              go_wp2_with fail
              refine HW2.out.mono ?_; rintro e u ⟨rfl, hw⟩; obtain rfl := hw.symm
              clear hw
              go_wp2_with fail
              refine HW3.out.mono ?_; rintro e u ⟨rfl, hw⟩; obtain rfl := hw.symm
              clear hw
              go_wp2_with fail
              refine HW4.out.mono ?_; rintro e u ⟨rfl, hw⟩; obtain rfl := hw.symm
              clear hw
              go_wp2_with fail
              refine (HNEW.out _).mono ?_; rintro e w7 ⟨rfl, rfl⟩
              clear x0 x1 x2 x3 x4 x5
              go_wp2_with fail
              go_ret
              exact ⟨HB1.out.trans ((fault_new 12 0 ⟨#[106, 111, 98]⟩ w1).1.mono HB1.out.size), Or.inr ⟨12, 0, _, HF.out, rfl, (fault_new 12 0 ⟨#[106, 111, 98]⟩ w1).2⟩⟩
            | true =>
              cases z5 with
              | false =>
                have HF : Hid (rightC ⟨⟨2, sz, su, wk, cp⟩, O⟩ = some (12, 0)) := Lib.hid (rightC_no (by rw [HU.out _ _ _ _ _ _ _ HZ0.out HZS.out HZ2.out HZ3.out HZ4.out HZ5.out rfl]; rfl))
                go_enter Tryz.func9, Tryz.ntmps9
                go_upto_region 1 with fail
                rw [HW1.out, HXB.out]
                go_wp2_with fail
                refine HNAME.out.mono ?_; rintro e u ⟨rfl, hw⟩; obtain rfl := hw.symm
                clear hw
                go_wp2_with fail
                refine HW2.out.mono ?_; rintro e u ⟨rfl, hw⟩; obtain rfl := hw.symm
                clear hw
                go_wp2_with fail
                refine HW3.out.mono ?_; rintro e u ⟨rfl, hw⟩; obtain rfl := hw.symm
                clear hw
                go_wp2_with fail
                refine HW4.out.mono ?_; rintro e u ⟨rfl, hw⟩; obtain rfl := hw.symm
                clear hw
                go_wp2_with fail
                refine (HNEW.out _).mono ?_; rintro e w7 ⟨rfl, rfl⟩
                clear x0 x1 x2 x3 x4 x5
                go_wp2_with fail
                go_ret
                exact ⟨HB1.out.trans ((fault_new 12 0 ⟨#[106, 111, 98]⟩ w1).1.mono HB1.out.size), Or.inr ⟨12, 0, _, HF.out, rfl, (fault_new 12 0 ⟨#[106, 111, 98]⟩ w1).2⟩⟩
              | true =>
                go_enter Tryz.func9, Tryz.ntmps9
                go_upto_region 1 with fail
                rw [HW1.out, HXB.out]
                go_wp2_with fail
                refine HNAME.out.mono ?_; rintro e u ⟨rfl, hw⟩; obtain rfl := hw.symm
                clear hw
                go_wp2_with fail
                refine HW2.out.mono ?_; rintro e u ⟨rfl, hw⟩; obtain rfl := hw.symm
                clear hw
                go_wp2_with fail
                refine HW3.out.mono ?_; rintro e u ⟨rfl, hw⟩; obtain rfl := hw.symm
                clear hw
                go_wp2_with fail
                refine HW4.out.mono ?_; rintro e u ⟨rfl, hw⟩; obtain rfl := hw.symm
                clear hw
                go_wp2_with fail
                refine HPR.out.mono ?_; rintro e w2 hto
                clear x0 x1 x2 x3 x4 x5
                rcases o6 with _ | ⟨cc, pp⟩
                · obtain ⟨rfl, hb2⟩ := hto.nil rfl
                  have HB2 := Lib.hid (HB1.out.trans (hb2.mono HB1.out.size))
                  have HF : Hid (rightC ⟨⟨2, sz, su, wk, cp⟩, O⟩ = none) := Lib.hid (rightC_yes (by rw [HU.out _ _ _ _ _ _ _ HZ0.out HZS.out HZ2.out HZ3.out HZ4.out HZ5.out (congrArg Option.isNone HO6.out)]; rfl))
                  clear hto hb2
                  go_wp2_with fail
                  go_ret
                  exact ⟨HB2.out, Or.inl ⟨HF.out, rfl⟩⟩
                · obtain ⟨fb, rfl, hf, hb2⟩ := hto.err rfl
                  have HB2 := Lib.hid (HB1.out.trans (hb2.mono HB1.out.size))
                  have HF : Hid (rightC ⟨⟨2, sz, su, wk, cp⟩, O⟩ = some (12, 0)) := Lib.hid (rightC_no (by rw [HU.out _ _ _ _ _ _ _ HZ0.out HZS.out HZ2.out HZ3.out HZ4.out HZ5.out (congrArg Option.isNone HO6.out)]; rfl))
                  clear hto hf hb2
                  go_wp2_with fail
                  refine (HNEW.out _).mono ?_; rintro e w7 ⟨rfl, rfl⟩
                  go_wp2_with fail
                  go_ret
                  exact ⟨HB2.out.trans ((fault_new 12 0 ⟨#[106, 111, 98]⟩ w2).1.mono HB2.out.size), Or.inr ⟨12, 0, _, HF.out, rfl, (fault_new 12 0 ⟨#[106, 111, 98]⟩ w2).2⟩⟩
    · have hs0 : decide (1 ≤ su ∧ su ≤ 1000000) = zs := by
        rw [← HZS.out]
        unfold supB
        rw [if_pos rfl]
      rw [hs0] at HWS
      clear hs0
      have HNAME : Hid (Calls Tryz.prog 23 #[.int .i64 3] w1 fun e w' => e = .returned (.string ⟨#[102, 115, 109]⟩) ∧ w' = w1) := HNAME
      cases zs with
      | false =>
        have HF : Hid (rightC ⟨⟨3, sz, su, wk, cp⟩, O⟩ = some (12, 0)) := Lib.hid (rightC_no (by rw [HU.out _ _ _ _ _ _ _ HZ0.out HZS.out HZ2.out HZ3.out HZ4.out HZ5.out rfl]; rfl))
        go_enter Tryz.func9, Tryz.ntmps9
        go_upto_region 1 with fail
        rw [HW1.out, HXB.out]
        go_wp2_with fail
        refine HWS.out.mono ?_; rintro e u ⟨rfl, hw⟩; obtain rfl := hw.symm
        clear hw
        go_wp2_with fail
        refine HNAME.out.mono ?_; rintro e u ⟨rfl, hw⟩; obtain rfl := hw.symm
        clear hw
        go_wp2_with fail
        refine (HNEW.out _).mono ?_; rintro e w7 ⟨rfl, rfl⟩
        clear x0 x1 x2 x3 x4 x5
        go_wp2_with fail
        go_ret
        exact ⟨HB1.out.trans ((fault_new 12 0 ⟨#[106, 111, 98]⟩ w1).1.mono HB1.out.size), Or.inr ⟨12, 0, _, HF.out, rfl, (fault_new 12 0 ⟨#[106, 111, 98]⟩ w1).2⟩⟩
      | true =>
        cases z2 with
        | false =>
          have HF : Hid (rightC ⟨⟨3, sz, su, wk, cp⟩, O⟩ = some (12, 0)) := Lib.hid (rightC_no (by rw [HU.out _ _ _ _ _ _ _ HZ0.out HZS.out HZ2.out HZ3.out HZ4.out HZ5.out rfl]; rfl))
          go_enter Tryz.func9, Tryz.ntmps9
          go_upto_region 1 with fail
          rw [HW1.out, HXB.out]
          go_wp2_with fail
          refine HWS.out.mono ?_; rintro e u ⟨rfl, hw⟩; obtain rfl := hw.symm
          clear hw
          go_wp2_with fail
          refine HNAME.out.mono ?_; rintro e u ⟨rfl, hw⟩; obtain rfl := hw.symm
          clear hw
          go_wp2_with fail
          refine HW2.out.mono ?_; rintro e u ⟨rfl, hw⟩; obtain rfl := hw.symm
          clear hw
          go_wp2_with fail
          refine (HNEW.out _).mono ?_; rintro e w7 ⟨rfl, rfl⟩
          clear x0 x1 x2 x3 x4 x5
          go_wp2_with fail
          go_ret
          exact ⟨HB1.out.trans ((fault_new 12 0 ⟨#[106, 111, 98]⟩ w1).1.mono HB1.out.size), Or.inr ⟨12, 0, _, HF.out, rfl, (fault_new 12 0 ⟨#[106, 111, 98]⟩ w1).2⟩⟩
        | true =>
          cases z3 with
          | false =>
            have HF : Hid (rightC ⟨⟨3, sz, su, wk, cp⟩, O⟩ = some (12, 0)) := Lib.hid (rightC_no (by rw [HU.out _ _ _ _ _ _ _ HZ0.out HZS.out HZ2.out HZ3.out HZ4.out HZ5.out rfl]; rfl))
            go_enter Tryz.func9, Tryz.ntmps9
            go_upto_region 1 with fail
            rw [HW1.out, HXB.out]
            go_wp2_with fail
            refine HWS.out.mono ?_; rintro e u ⟨rfl, hw⟩; obtain rfl := hw.symm
            clear hw
            go_wp2_with fail
            refine HNAME.out.mono ?_; rintro e u ⟨rfl, hw⟩; obtain rfl := hw.symm
            clear hw
            go_wp2_with fail
            refine HW2.out.mono ?_; rintro e u ⟨rfl, hw⟩; obtain rfl := hw.symm
            clear hw
            go_wp2_with fail
            refine HW3.out.mono ?_; rintro e u ⟨rfl, hw⟩; obtain rfl := hw.symm
            clear hw
            go_wp2_with fail
            refine (HNEW.out _).mono ?_; rintro e w7 ⟨rfl, rfl⟩
            clear x0 x1 x2 x3 x4 x5
            go_wp2_with fail
            go_ret
            exact ⟨HB1.out.trans ((fault_new 12 0 ⟨#[106, 111, 98]⟩ w1).1.mono HB1.out.size), Or.inr ⟨12, 0, _, HF.out, rfl, (fault_new 12 0 ⟨#[106, 111, 98]⟩ w1).2⟩⟩
          | true =>
            cases z4 with
            | false =>
              have HF : Hid (rightC ⟨⟨3, sz, su, wk, cp⟩, O⟩ = some (12, 0)) := Lib.hid (rightC_no (by rw [HU.out _ _ _ _ _ _ _ HZ0.out HZS.out HZ2.out HZ3.out HZ4.out HZ5.out rfl]; rfl))
              go_enter Tryz.func9, Tryz.ntmps9
              go_upto_region 1 with fail
              rw [HW1.out, HXB.out]
              go_wp2_with fail
              refine HWS.out.mono ?_; rintro e u ⟨rfl, hw⟩; obtain rfl := hw.symm
              clear hw
              go_wp2_with fail
              refine HNAME.out.mono ?_; rintro e u ⟨rfl, hw⟩; obtain rfl := hw.symm
              clear hw
              go_wp2_with fail
              refine HW2.out.mono ?_; rintro e u ⟨rfl, hw⟩; obtain rfl := hw.symm
              clear hw
              go_wp2_with fail
              refine HW3.out.mono ?_; rintro e u ⟨rfl, hw⟩; obtain rfl := hw.symm
              clear hw
              go_wp2_with fail
              refine HW4.out.mono ?_; rintro e u ⟨rfl, hw⟩; obtain rfl := hw.symm
              clear hw
              go_wp2_with fail
              refine (HNEW.out _).mono ?_; rintro e w7 ⟨rfl, rfl⟩
              clear x0 x1 x2 x3 x4 x5
              go_wp2_with fail
              go_ret
              exact ⟨HB1.out.trans ((fault_new 12 0 ⟨#[106, 111, 98]⟩ w1).1.mono HB1.out.size), Or.inr ⟨12, 0, _, HF.out, rfl, (fault_new 12 0 ⟨#[106, 111, 98]⟩ w1).2⟩⟩
            | true =>
              cases z5 with
              | false =>
                have HF : Hid (rightC ⟨⟨3, sz, su, wk, cp⟩, O⟩ = some (12, 0)) := Lib.hid (rightC_no (by rw [HU.out _ _ _ _ _ _ _ HZ0.out HZS.out HZ2.out HZ3.out HZ4.out HZ5.out rfl]; rfl))
                go_enter Tryz.func9, Tryz.ntmps9
                go_upto_region 1 with fail
                rw [HW1.out, HXB.out]
                go_wp2_with fail
                refine HWS.out.mono ?_; rintro e u ⟨rfl, hw⟩; obtain rfl := hw.symm
                clear hw
                go_wp2_with fail
                refine HNAME.out.mono ?_; rintro e u ⟨rfl, hw⟩; obtain rfl := hw.symm
                clear hw
                go_wp2_with fail
                refine HW2.out.mono ?_; rintro e u ⟨rfl, hw⟩; obtain rfl := hw.symm
                clear hw
                go_wp2_with fail
                refine HW3.out.mono ?_; rintro e u ⟨rfl, hw⟩; obtain rfl := hw.symm
                clear hw
                go_wp2_with fail
                refine HW4.out.mono ?_; rintro e u ⟨rfl, hw⟩; obtain rfl := hw.symm
                clear hw
                go_wp2_with fail
                refine (HNEW.out _).mono ?_; rintro e w7 ⟨rfl, rfl⟩
                clear x0 x1 x2 x3 x4 x5
                go_wp2_with fail
                go_ret
                exact ⟨HB1.out.trans ((fault_new 12 0 ⟨#[106, 111, 98]⟩ w1).1.mono HB1.out.size), Or.inr ⟨12, 0, _, HF.out, rfl, (fault_new 12 0 ⟨#[106, 111, 98]⟩ w1).2⟩⟩
              | true =>
                go_enter Tryz.func9, Tryz.ntmps9
                go_upto_region 1 with fail
                rw [HW1.out, HXB.out]
                go_wp2_with fail
                refine HWS.out.mono ?_; rintro e u ⟨rfl, hw⟩; obtain rfl := hw.symm
                clear hw
                go_wp2_with fail
                refine HNAME.out.mono ?_; rintro e u ⟨rfl, hw⟩; obtain rfl := hw.symm
                clear hw
                go_wp2_with fail
                refine HW2.out.mono ?_; rintro e u ⟨rfl, hw⟩; obtain rfl := hw.symm
                clear hw
                go_wp2_with fail
                refine HW3.out.mono ?_; rintro e u ⟨rfl, hw⟩; obtain rfl := hw.symm
                clear hw
                go_wp2_with fail
                refine HW4.out.mono ?_; rintro e u ⟨rfl, hw⟩; obtain rfl := hw.symm
                clear hw
                go_wp2_with fail
                refine HPR.out.mono ?_; rintro e w2 hto
                clear x0 x1 x2 x3 x4 x5
                rcases o6 with _ | ⟨cc, pp⟩
                · obtain ⟨rfl, hb2⟩ := hto.nil rfl
                  have HB2 := Lib.hid (HB1.out.trans (hb2.mono HB1.out.size))
                  have HF : Hid (rightC ⟨⟨3, sz, su, wk, cp⟩, O⟩ = none) := Lib.hid (rightC_yes (by rw [HU.out _ _ _ _ _ _ _ HZ0.out HZS.out HZ2.out HZ3.out HZ4.out HZ5.out (congrArg Option.isNone HO6.out)]; rfl))
                  clear hto hb2
                  go_wp2_with fail
                  go_ret
                  exact ⟨HB2.out, Or.inl ⟨HF.out, rfl⟩⟩
                · obtain ⟨fb, rfl, hf, hb2⟩ := hto.err rfl
                  have HB2 := Lib.hid (HB1.out.trans (hb2.mono HB1.out.size))
                  have HF : Hid (rightC ⟨⟨3, sz, su, wk, cp⟩, O⟩ = some (12, 0)) := Lib.hid (rightC_no (by rw [HU.out _ _ _ _ _ _ _ HZ0.out HZS.out HZ2.out HZ3.out HZ4.out HZ5.out (congrArg Option.isNone HO6.out)]; rfl))
                  clear hto hf hb2
                  go_wp2_with fail
                  refine (HNEW.out _).mono ?_; rintro e w7 ⟨rfl, rfl⟩
                  go_wp2_with fail
                  go_ret
                  exact ⟨HB2.out.trans ((fault_new 12 0 ⟨#[106, 111, 98]⟩ w2).1.mono HB2.out.size), Or.inr ⟨12, 0, _, HF.out, rfl, (fault_new 12 0 ⟨#[106, 111, 98]⟩ w2).2⟩⟩
  · have HZ0 := Lib.hid (decide_eq_false hin)
    have HNAME := Lib.hid (kname_out kd hin w1)
    have n3 : (kd == 3) = false := by simp; omega
    have HF : Hid (rightC ⟨⟨kd, sz, su, wk, cp⟩, O⟩ = some (12, 0)) := Lib.hid (rightC_no (by rw [HU.out _ _ _ _ _ _ _ HZ0.out HZS.out HZ2.out HZ3.out HZ4.out HZ5.out rfl]; rfl))
    clear hin
    obtain ⟨sz0, hsz0⟩ : ∃ z, (su == 0) = z := ⟨_, rfl⟩
    go_enter Tryz.func9, Tryz.ntmps9
    go_upto_region 1 with fail
    rw [HW1.out, HXB.out]
    go_wp2_with fail
    refine HNAME.out.mono ?_; rintro e u ⟨rfl, hw⟩; obtain rfl := hw.symm
    clear hw
    go_wp2_with fail
    refine (HNEW.out _).mono ?_; rintro e w7 ⟨rfl, rfl⟩
    clear x0 x1 x2 x3 x4 x5
    go_wp2_with fail
    go_ret
    exact ⟨HB1.out.trans ((fault_new 12 0 ⟨#[106, 111, 98]⟩ w1).1.mono HB1.out.size), Or.inr ⟨12, 0, _, HF.out, rfl, (fault_new 12 0 ⟨#[106, 111, 98]⟩ w1).2⟩⟩
end Go.Proofs.YtbbdammdiplagaaGreatDoor
