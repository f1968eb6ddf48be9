/- The document's in and Right. Written by gen_refr22.py. -/
import Derived.Test.YtbbdammdiplagaaGreatDoorConfR
import Derived.Test.YtbbdammdiplagaaGreatDoorRef17
namespace Go.Proofs.YtbbdammdiplagaaGreatDoor
open Go.RowKit

theorem in_any (n m : Int) (w : World) : Calls Tryz.prog 27 #[.int .i64 n, .int .i64 m] w fun e w' => e = .returned (.bool (decide (1 ≤ n ∧ n ≤ m))) ∧ w' = w := by
  by_cases h : 1 ≤ n
  · have t1 : decide (1 ≤ n) = true := decide_eq_true h
    have HE : Hid (decide (1 ≤ n ∧ n ≤ m) = decide (n ≤ m)) := Lib.hid (decide_eq_decide.2 ⟨fun e => e.2, fun e => ⟨h, e⟩⟩)
    clear h
    go_enter Tryz.func27, Tryz.ntmps27
    go_wp2_with fail
    go_ret
    exact ⟨by rw [HE.out]; rfl, rfl⟩
  · have t1 : decide (1 ≤ n) = false := decide_eq_false h
    have HE : Hid (decide (1 ≤ n ∧ n ≤ m) = false) := Lib.hid (decide_eq_false (fun e => h e.1))
    clear h
    go_enter Tryz.func27, Tryz.ntmps27
    go_wp2_with fail
    go_ret
    exact ⟨by rw [HE.out]; rfl, rfl⟩
set_option maxRecDepth 100000 in
set_option maxHeartbeats 8000000 in
theorem refRight22 (kd sz su wk cp : Int) (O : List (Int × Int)) (kv : Value) (w : World) (hk : EdgesV w kv O) (hl : O.length ≤ 9000000000000) :
    Calls Tryz.prog 10 #[.agg (cV ⟨kd, sz, su, wk, cp⟩ kv)] w fun e w' => e = .returned (.bool (rightKB ⟨⟨kd, sz, su, wk, cp⟩, O⟩)) ∧ Below w.heap.size w w' := by
  obtain ⟨A, c, rfl⟩ := hk.form
  have hb1 : Below w.heap.size w (w.alloc (.cells (cV ⟨kd, sz, su, wk, cp⟩ (.slice A O.length c)) 24)) := (Below.refl _ _).alloc (Nat.le_refl _) _
  have hx := Whole.new w 24 (cV ⟨kd, sz, su, wk, cp⟩ (.slice A O.length c))
  obtain ⟨w1, hw1⟩ : ∃ W, w.alloc (.cells (cV ⟨kd, sz, su, wk, cp⟩ (.slice A O.length c)) 24) = W := ⟨_, rfl⟩
  obtain ⟨xb, hxb⟩ : ∃ g, w.heap.size = g := ⟨_, rfl⟩
  rw [hw1] at hb1 hx
  rw [hxb] at hx
  have HPR := Lib.hid (refRight17 (hk.below hb1 (Nat.le_refl _)) hl)
  have HU : Hid (∀ z0 zs z2 z3 z4 z5 z6, decide (1 ≤ kd ∧ kd ≤ 3) = z0 → supB ⟨⟨kd, sz, su, wk, cp⟩, O⟩ = zs → decide (1 ≤ sz ∧ sz ≤ 8) = z2 → decide (1 ≤ wk ∧ wk ≤ 64) = z3 → decide (1 ≤ cp ∧ cp ≤ 1000000) = z4 → decide (O.length ≤ 15) = z5 → (progF O).isNone = z6 → rightKB ⟨⟨kd, sz, su, wk, cp⟩, O⟩ = (z0 && (zs && (z2 && (z3 && (z4 && (z5 && z6))))))) := Lib.hid (fun z0 zs z2 z3 z4 z5 z6 h0 hs h2 h3 h4 h5 h6 => by
    unfold rightKB; simp only; rw [h0, hs, h2, h3, h4, h5, h6])
  obtain ⟨z0, hz0⟩ : ∃ z, decide (1 ≤ kd ∧ kd ≤ 3) = z := ⟨_, rfl⟩
  obtain ⟨z2, hz2⟩ : ∃ z, decide (1 ≤ sz ∧ sz ≤ 8) = z := ⟨_, rfl⟩
  obtain ⟨z3, hz3⟩ : ∃ z, decide (1 ≤ wk ∧ wk ≤ 64) = z := ⟨_, rfl⟩
  obtain ⟨z4, hz4⟩ : ∃ z, decide (1 ≤ cp ∧ cp ≤ 1000000) = z := ⟨_, rfl⟩
  obtain ⟨z5, hz5⟩ : ∃ z, decide (O.length ≤ 15) = z := ⟨_, rfl⟩
  obtain ⟨o6, ho6⟩ : ∃ o, progF O = o := ⟨_, rfl⟩
  obtain ⟨zs, hzs⟩ : ∃ z, supB ⟨⟨kd, sz, su, wk, cp⟩, O⟩ = z := ⟨_, rfl⟩
  rw [ho6] at HPR
  have HI := Lib.hid (fun n m W => in_any n m W)
  have HC : Hid (∀ W, Below w1.heap.size w1 W → W.cell? ⟨xb, 0, none⟩ = some (.int .i64 kd) ∧ W.cell? ⟨xb, 1, none⟩ = some (.int .i64 sz) ∧ W.cell? ⟨xb, 2, none⟩ = some (.int .i64 su) ∧ W.cell? ⟨xb, 3, none⟩ = some (.int .i64 wk) ∧ W.cell? ⟨xb, 4, none⟩ = some (.int .i64 cp) ∧ W.cell? ⟨xb, 5, none⟩ = some (.slice A O.length c)) := Lib.hid (fun W hb => by
    have h := hx.below hb hx.lt
    exact ⟨h.cell 0, h.cell 1, h.cell 2, h.cell 3, h.cell 4, h.cell 5⟩)
  have HB1 := Lib.hid hb1; have HW1 := Lib.hid hw1; have HXB := Lib.hid hxb; have HZ0 := Lib.hid hz0; have HZ2 := Lib.hid hz2; have HZ3 := Lib.hid hz3; have HZ4 := Lib.hid hz4; have HZ5 := Lib.hid hz5; have HO6 := Lib.hid ho6; have HZS := Lib.hid hzs
  have t5 : decide (15 < O.length) = !z5 := by
    rw [← hz5]
    by_cases h : O.length ≤ 15
    · rw [decide_eq_true h, decide_eq_false (by omega)]; rfl
    · rw [decide_eq_false h, decide_eq_true (by omega)]; rfl
  have t5' : decide ((15 : Int) < (O.length : Int)) = !z5 := by rw [← t5]; exact decide_eq_decide.2 (by omega)
  have HS3 : Hid (kd = 3 → decide (1 ≤ su ∧ su ≤ 1000000) = zs) := Lib.hid (fun h => by rw [← hzs]; unfold supB; rw [if_pos h])
  have HS0 : Hid (kd ≠ 3 → (su == 0) = zs) := Lib.hid (fun h => by rw [← hzs]; unfold supB; rw [if_neg h]; rfl)
  generalize O.length = q at *
  obtain ⟨x0, x1, x2, x3, x4, x5⟩ := HC.out w1 (Below.refl _ _)
  clear hk hl hb1 hx hw1 hxb hz0 hz2 hz3 hz4 hz5 ho6 hzs
  go_enter Tryz.func10, Tryz.ntmps10
  go_upto_region 1 with fail
  rw [HW1.out, HXB.out]
  go_wp2_with fail
  refine HPR.out.mono ?_
  rintro e w2 ⟨hb2, ⟨hr, rfl⟩ | ⟨cc, pp, hr, hc0, rfl⟩⟩
  · subst hr
    clear x0 x1 x2 x3 x4 x5
    obtain ⟨x0, x1, x2, x3, x4, x5⟩ := HC.out w2 hb2
    have HB2 := Lib.hid (HB1.out.trans (hb2.mono HB1.out.size))
    clear hb2
    cases z5 with
    | false =>
      have HF : Hid (rightKB ⟨⟨kd, sz, su, wk, cp⟩, O⟩ = false) := Lib.hid (by rw [HU.out _ _ _ _ _ _ _ HZ0.out HZS.out HZ2.out HZ3.out HZ4.out HZ5.out (congrArg Option.isNone HO6.out)]; simp)
      go_wp2_with fail
      go_ret
      exact ⟨by rw [HF.out]; rfl, HB2.out⟩
    | true =>
      cases z0 with
      | false =>
        have HI1 := HI.out kd 3 w2
        rw [HZ0.out] at HI1
        have HI1 := Lib.hid HI1
        go_wp2_with fail
        refine HI1.out.mono ?_; rintro e u ⟨rfl, hw⟩; obtain rfl := hw.symm
        clear hw HI1
        have HF : Hid (rightKB ⟨⟨kd, sz, su, wk, cp⟩, O⟩ = false) := Lib.hid (by rw [HU.out _ _ _ _ _ _ _ HZ0.out HZS.out HZ2.out HZ3.out HZ4.out HZ5.out (congrArg Option.isNone HO6.out)]; simp)
        go_wp2_with fail
        go_ret
        exact ⟨by rw [HF.out]; rfl, HB2.out⟩
      | true =>
        cases z2 with
        | false =>
          have HI1 := HI.out kd 3 w2
          rw [HZ0.out] at HI1
          have HI1 := Lib.hid HI1
          go_wp2_with fail
          refine HI1.out.mono ?_; rintro e u ⟨rfl, hw⟩; obtain rfl := hw.symm
          clear hw HI1
          have HI1 := HI.out sz 8 w2
          rw [HZ2.out] at HI1
          have HI1 := Lib.hid HI1
          go_wp2_with fail
          refine HI1.out.mono ?_; rintro e u ⟨rfl, hw⟩; obtain rfl := hw.symm
          clear hw HI1
          have HF : Hid (rightKB ⟨⟨kd, sz, su, wk, cp⟩, O⟩ = false) := Lib.hid (by rw [HU.out _ _ _ _ _ _ _ HZ0.out HZS.out HZ2.out HZ3.out HZ4.out HZ5.out (congrArg Option.isNone HO6.out)]; simp)
          go_wp2_with fail
          go_ret
          exact ⟨by rw [HF.out]; rfl, HB2.out⟩
        | true =>
          cases z3 with
          | false =>
            have HI1 := HI.out kd 3 w2
            rw [HZ0.out] at HI1
            have HI1 := Lib.hid HI1
            go_wp2_with fail
            refine HI1.out.mono ?_; rintro e u ⟨rfl, hw⟩; obtain rfl := hw.symm
            clear hw HI1
            have HI1 := HI.out sz 8 w2
            rw [HZ2.out] at HI1
            have HI1 := Lib.hid HI1
            go_wp2_with fail
            refine HI1.out.mono ?_; rintro e u ⟨rfl, hw⟩; obtain rfl := hw.symm
            clear hw HI1
            have HI1 := HI.out wk 64 w2
            rw [HZ3.out] at HI1
            have HI1 := Lib.hid HI1
            go_wp2_with fail
            refine HI1.out.mono ?_; rintro e u ⟨rfl, hw⟩; obtain rfl := hw.symm
            clear hw HI1
            have HF : Hid (rightKB ⟨⟨kd, sz, su, wk, cp⟩, O⟩ = false) := Lib.hid (by rw [HU.out _ _ _ _ _ _ _ HZ0.out HZS.out HZ2.out HZ3.out HZ4.out HZ5.out (congrArg Option.isNone HO6.out)]; simp)
            go_wp2_with fail
            go_ret
            exact ⟨by rw [HF.out]; rfl, HB2.out⟩
          | true =>
            cases z4 with
            | false =>
              have HI1 := HI.out kd 3 w2
              rw [HZ0.out] at HI1
              have HI1 := Lib.hid HI1
              go_wp2_with fail
              refine HI1.out.mono ?_; rintro e u ⟨rfl, hw⟩; obtain rfl := hw.symm
              clear hw HI1
              have HI1 := HI.out sz 8 w2
              rw [HZ2.out] at HI1
              have HI1 := Lib.hid HI1
              go_wp2_with fail
              refine HI1.out.mono ?_; rintro e u ⟨rfl, hw⟩; obtain rfl := hw.symm
              clear hw HI1
              have HI1 := HI.out wk 64 w2
              rw [HZ3.out] at HI1
              have HI1 := Lib.hid HI1
              go_wp2_with fail
              refine HI1.out.mono ?_; rintro e u ⟨rfl, hw⟩; obtain rfl := hw.symm
              clear hw HI1
              have HI1 := HI.out cp 1000000 w2
              rw [HZ4.out] at HI1
              have HI1 := Lib.hid HI1
              go_wp2_with fail
              refine HI1.out.mono ?_; rintro e u ⟨rfl, hw⟩; obtain rfl := hw.symm
              clear hw HI1
              have HF : Hid (rightKB ⟨⟨kd, sz, su, wk, cp⟩, O⟩ = false) := Lib.hid (by rw [HU.out _ _ _ _ _ _ _ HZ0.out HZS.out HZ2.out HZ3.out HZ4.out HZ5.out (congrArg Option.isNone HO6.out)]; simp)
              go_wp2_with fail
              go_ret
              exact ⟨by rw [HF.out]; rfl, HB2.out⟩
            | true =>
              by_cases h3 : kd = 3
              · have t3 : (kd == 3) = true := by simpa using h3
                have hs := HS3.out h3
                clear h3
                have HI1 := HI.out kd 3 w2
                rw [HZ0.out] at HI1
                have HI1 := Lib.hid HI1
                go_wp2_with fail
                refine HI1.out.mono ?_; rintro e u ⟨rfl, hw⟩; obtain rfl := hw.symm
                clear hw HI1
                have HI1 := HI.out sz 8 w2
                rw [HZ2.out] at HI1
                have HI1 := Lib.hid HI1
                go_wp2_with fail
                refine HI1.out.mono ?_; rintro e u ⟨rfl, hw⟩; obtain rfl := hw.symm
                clear hw HI1
                have HI1 := HI.out wk 64 w2
                rw [HZ3.out] at HI1
                have HI1 := Lib.hid HI1
                go_wp2_with fail
                refine HI1.out.mono ?_; rintro e u ⟨rfl, hw⟩; obtain rfl := hw.symm
                clear hw HI1
                have HI1 := HI.out cp 1000000 w2
                rw [HZ4.out] at HI1
                have HI1 := Lib.hid HI1
                go_wp2_with fail
                refine HI1.out.mono ?_; rintro e u ⟨rfl, hw⟩; obtain rfl := hw.symm
                clear hw HI1
                have HI1 := HI.out su 1000000 w2
                rw [hs] at HI1
                have HI1 := Lib.hid HI1
                clear hs
                go_wp2_with fail
                refine HI1.out.mono ?_; rintro e u ⟨rfl, hw⟩; obtain rfl := hw.symm
                clear hw HI1
                have HF : Hid (rightKB ⟨⟨kd, sz, su, wk, cp⟩, O⟩ = zs) := Lib.hid (by rw [HU.out _ _ _ _ _ _ _ HZ0.out HZS.out HZ2.out HZ3.out HZ4.out HZ5.out (congrArg Option.isNone HO6.out)]; simp)
                go_wp2_with fail
                go_ret
                exact ⟨by rw [HF.out]; rfl, HB2.out⟩
              · have t3 : (kd == 3) = false := by simpa using h3
                have hs := HS0.out h3
                clear h3
                have HI1 := HI.out kd 3 w2
                rw [HZ0.out] at HI1
                have HI1 := Lib.hid HI1
                go_wp2_with fail
                refine HI1.out.mono ?_; rintro e u ⟨rfl, hw⟩; obtain rfl := hw.symm
                clear hw HI1
                have HI1 := HI.out sz 8 w2
                rw [HZ2.out] at HI1
                have HI1 := Lib.hid HI1
                go_wp2_with fail
                refine HI1.out.mono ?_; rintro e u ⟨rfl, hw⟩; obtain rfl := hw.symm
                clear hw HI1
                have HI1 := HI.out wk 64 w2
                rw [HZ3.out] at HI1
                have HI1 := Lib.hid HI1
                go_wp2_with fail
                refine HI1.out.mono ?_; rintro e u ⟨rfl, hw⟩; obtain rfl := hw.symm
                clear hw HI1
                have HI1 := HI.out cp 1000000 w2
                rw [HZ4.out] at HI1
                have HI1 := Lib.hid HI1
                go_wp2_with fail
                refine HI1.out.mono ?_; rintro e u ⟨rfl, hw⟩; obtain rfl := hw.symm
                clear hw HI1
                have HF : Hid (rightKB ⟨⟨kd, sz, su, wk, cp⟩, O⟩ = zs) := Lib.hid (by rw [HU.out _ _ _ _ _ _ _ HZ0.out HZS.out HZ2.out HZ3.out HZ4.out HZ5.out (congrArg Option.isNone HO6.out)]; simp)
                go_wp2_with fail
                go_ret
                exact ⟨by rw [HF.out]; rfl, HB2.out⟩
  · subst hr
    have t0 : (cc != 0) = true := by simpa using hc0
    have HB2 := Lib.hid (HB1.out.trans (hb2.mono HB1.out.size))
    clear hb2 hc0
    have HF : Hid (rightKB ⟨⟨kd, sz, su, wk, cp⟩, O⟩ = false) := Lib.hid (by rw [HU.out _ _ _ _ _ _ _ HZ0.out HZS.out HZ2.out HZ3.out HZ4.out HZ5.out (congrArg Option.isNone HO6.out)]; simp)
    go_wp2_with fail
    go_ret
    exact ⟨by rw [HF.out]; rfl, HB2.out⟩
end Go.Proofs.YtbbdammdiplagaaGreatDoor
