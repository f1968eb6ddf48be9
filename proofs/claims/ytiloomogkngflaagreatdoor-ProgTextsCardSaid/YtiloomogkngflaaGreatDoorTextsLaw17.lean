/- ProgTexts: the law's walk. -/
import Derived.Test.YtiloomogkngflaaGreatDoorOf17
import Derived.Test.YtiloomogkngflaaGreatDoorAlive17
import Derived.Test.YtiloomogkngflaaGreatDoorRefT17
import Derived.Laws.StructEq
namespace Go.Proofs.YtiloomogkngflaaGreatDoor
open Go.RowKit

theorem part_int17 (xs : Array Value) (i : Nat) (v : Value) (w : World) (h : xs[i]? = some v) : (part 3 xs i).run Tryz.prog w = .ok v w := by
  simp [part, h]
theorem fields_same (a b : Int) (n1 n2 : String) (h1 : n1 ≠ "_") (h2 : n2 ≠ "_") (t1 t2 p1 p2 : String) (b1 b2 : Nat) (w : World) :
    (Op.eqFields 9999 #[.int .i64 a, .int .i64 b] #[.int .i64 a, .int .i64 b] [⟨n1, 3, 0, false, t1, p1, b1⟩, ⟨n2, 3, 1, false, t2, p2, b2⟩]).run Tryz.prog w = .ok true w := by
  have e1 := run_equalIn_int (P := Tryz.prog) w 9998 3 .i64 .i64 a a Tryz.underlying3
  have e2 := run_equalIn_int (P := Tryz.prog) w 9998 3 .i64 .i64 b b Tryz.underlying3
  have g1 := part_int17 #[.int .i64 a, .int .i64 b] 0 (.int .i64 a) w rfl
  have g2 := part_int17 #[.int .i64 a, .int .i64 b] 1 (.int .i64 b) w rfl
  simp only [Nat.reduceAdd] at e1 e2
  unfold Op.eqFields
  rw [if_pos h1]
  simp only [Sem.run_bind, g1, Result.andThen_ok, e1]
  simp only [beq_self_eq_true, Bool.not_true, Bool.false_eq_true, if_false]
  unfold Op.eqFields
  rw [if_pos h2]
  simp only [Sem.run_bind, g2, Result.andThen_ok, e2]
  simp [Op.eqFields]
theorem neq_op_same (a b : Int) (w : World) : (binOp .neq 36 (.agg #[.int .i64 a, .int .i64 b]) (.agg #[.int .i64 a, .int .i64 b])).run Tryz.prog w = .ok (.bool false) w := by
  rw [run_neq_struct, run_equalIn_struct _ 9999 _ _ _ (by kernel_rfl) (by kernel_rfl)]
  simp only [Program.fieldsOf, Tryz.underlying36]
  rw [fields_same a b "Kind" "N" (by decide) (by decide), Result.andThen_ok]
  rfl
theorem guard_op (op : BinOp) (x y : Operand) (xs ys : Array Value) (w : World) : (eqGuard op 36 x y (.agg xs) (.agg ys)).run Tryz.prog w = .ok () w := run_eqGuard_agg w op _ x y xs ys (by kernel_rfl)
set_option maxRecDepth 100000 in
set_option maxHeartbeats 16000000 in
theorem texts_law (O : List (Int × Int)) (ve : Value) (sl : List UInt8) (w : World) (hg : GT w) (he : EdgesV w ve O) (hO : O.length * 16 ≤ 140737488351232) :
    Calls Tryz.prog 3 #[ve, .string (str sl)] w fun e w' => e = .returned (.bool true) ∧ Below w.heap.size w w' := by
  obtain ⟨Ae, ce, rfl⟩ := he.form
  obtain ⟨n, hn⟩ : ∃ n, O.length = n := ⟨_, rfl⟩
  rw [hn] at he hO ⊢
  have AL := Lib.hid (alive_ok w hg)
  obtain ⟨t, ht⟩ : ∃ t, str sl = t := ⟨_, rfl⟩
  have htz : t.size = sl.length := by rw [← ht]; rfl
  rw [ht]
  have HG := Lib.hid hg; have HE := Lib.hid he; have HN := Lib.hid hn; have HT := Lib.hid ht; have HTZ := Lib.hid htz; have HNM := Lib.hid (fun k W => name_any k W); have HKD := Lib.hid (fun s W => kind_any s W)
  clear hg he hn ht htz
  go_enter Tryz.func3, Tryz.ntmps3
  go_wp2_with fail
  refine AL.out.mono ?_; rintro e w1 ⟨rfl, hb1⟩
  have HB1 := Lib.hid hb1
  by_cases h30 : 30 < n
  · have t1 : decide (30 < n) = true := decide_eq_true h30
    have t1' : decide ((30 : Int) < (n : Int)) = true := decide_eq_true (by omega)
    clear h30 hb1
    go_wp2_with fail
    go_ret
    exact ⟨rfl, HB1.out⟩
  · have t1 : decide (30 < n) = false := decide_eq_false h30
    have t1' : decide ((30 : Int) < (n : Int)) = false := decide_eq_false (by omega)
    by_cases h500 : 500 < t.size
    · have t2 : decide (500 < t.size) = true := decide_eq_true h500
      have t2' : decide ((500 : Int) < (t.size : Int)) = true := decide_eq_true (by omega)
      clear h30 hb1 h500
      go_wp2_with fail
      go_ret
      exact ⟨rfl, HB1.out⟩
    · have t2 : decide (500 < t.size) = false := decide_eq_false h500
      have t2' : decide ((500 : Int) < (t.size : Int)) = false := decide_eq_false (by omega)
      have HN30 := Lib.hid h30; have HT500 := Lib.hid h500
      have HPS : Hid (∀ W, Below w.heap.size w W → Calls Tryz.prog 10 #[.string t] W (ParseTo sl W)) := Lib.hid (fun W hb => by rw [← HT.out]; exact progParse_any sl (by have h1 := HTZ.out; have h2 := HT500.out; omega) W (HG.out.below hb (Nat.le_refl _)))
      have RR := refRight17 (HE.out.below hb1 (Nat.le_refl _)) (by rw [HN.out]; omega)
      have HRR := Lib.hid RR
      clear h30 h500 hb1 RR
      go_wp2_with fail
      refine HRR.out.mono ?_; rintro e w2 ⟨hb2, ⟨hr, rfl⟩ | ⟨cc, pp, hr, hc0, rfl⟩⟩
      · have h16 := progF_none.1 hr
        have hb2w := HB1.out.trans (hb2.mono HB1.out.size)
        have HB2 := Lib.hid hb2w
        have HRN := Lib.hid hr
        have HSM : Hid (∀ o ∈ O, 0 ≤ o.2 ∧ o.2 < 1000000) := Lib.hid (fun o ho => by have := wrongF_zero (h16.2 o ho); omega)
        have HWZ : Hid (∀ o ∈ O, wrongF o = 0) := Lib.hid h16.2
        have HOF := Lib.hid (of17_any O _ w2 (HE.out.below hb2w (Nat.le_refl _)) (by rw [HN.out]; exact hO))
        clear hb2 hr h16 hb2w
        go_wp2_with fail
        refine HOF.out.mono ?_; rintro e w3 ⟨A, c, rfl, hown, hb3⟩
        rw [HN.out] at hown ⊢
        have hb3w := HB2.out.trans (hb3.mono HB2.out.size)
        have hE3 := own_edges hown
        have TX := progText_any (HG.out.below hb3w (Nat.le_refl _)) hE3 (by have := HN30.out; rw [HN.out]; omega) HSM.out
        have HTX := Lib.hid TX; have HB3 := Lib.hid hb3w; have HE3 := Lib.hid hE3
        clear hown hb3 hb3w hE3 TX
        go_wp2_with fail
        obtain ⟨tp, htp⟩ : ∃ t, str (progT O) = t := ⟨_, rfl⟩
        rw [htp] at HTX
        refine HTX.out.mono ?_; rintro e w4 ⟨rfl, hb4⟩
        have hb4w := HB3.out.trans (hb4.mono HB3.out.size)
        have hpl : (progT O).length ≤ 100000 := by
          have := joinB_le (b := 59) (P := O.map opT) (c := 13) (fun p hp => by
            obtain ⟨x, hx, rfl⟩ := List.mem_map.1 hp
            exact opT_len (HSM.out x hx))
          rw [List.length_map, HN.out] at this
          have h30 := HN30.out
          show (joinB 59 (O.map opT)).length ≤ _
          omega
        have PA := progParse_any (progT O) hpl w4 (HG.out.below hb4w (Nat.le_refl _))
        rw [htp] at PA
        have HPA := Lib.hid PA; have HB4 := Lib.hid hb4w; have HE4 := Lib.hid (HE3.out.below hb4 (Nat.le_refl _)); have HTP := Lib.hid htp
        clear hb4 hb4w hpl PA htp
        go_wp2_with fail
        refine HPA.out.mono ?_; rintro e w5 hto
        obtain ⟨v5, rfl, hv5, hb5⟩ := hto.right HRN.out
        obtain ⟨A5, c5, rfl⟩ := hv5.form
        rw [HN.out] at hv5 ⊢
        have hb5w := HB4.out.trans (hb5.mono HB4.out.size)
        have RT := refText17_any (HE.out.below hb5w (Nat.le_refl _)) (by have := HN30.out; rw [HN.out]; omega) HWZ.out
        rw [HTP.out] at RT
        have HRT := Lib.hid RT; have HB5 := Lib.hid hb5w; have HE5 := Lib.hid (HE4.out.below hb5 (Nat.le_refl _)); have HV5 := Lib.hid hv5
        clear hto hb5 hb5w hv5 RT
        go_wp2_with fail
        refine HRT.out.mono ?_; rintro e w6 ⟨rfl, hb6⟩
        have HB6 := Lib.hid (HB5.out.trans (hb6.mono HB5.out.size)); have HE6 := Lib.hid (HE5.out.below hb6 (Nat.le_refl _)); have HV6 := Lib.hid (HV5.out.below hb6 (Nat.le_refl _))
        clear hb6
        go_wp2_with fail
        go_loopg [11] n (fun g y wr => ∃ k, k ≤ n ∧ g = n - k ∧ y = .int .i64 (k : Nat) ∧ ∃ d, wr = w6.drewN d)
        case atStart => exact ⟨0, Nat.zero_le _, rfl, rfl, 0, rfl⟩
        case round =>
          obtain ⟨k, hk, rfl, rfl, d, rfl⟩ := hrel
          by_cases hlt : k < n
          · have hkO : k < O.length := by rw [HN.out]; exact hlt
            obtain ⟨b, off, rfl, x0, x1⟩ := HE6.out.pos (i := k) hkO
            obtain ⟨b', off', rfl, y0, y1⟩ := HV6.out.pos (i := k) hkO
            obtain ⟨o, ho⟩ : ∃ o, O.getD k (0, 0) = o := ⟨_, rfl⟩
            rw [ho] at x0 x1 y0 y1
            obtain ⟨a, q⟩ := o
            simp only at x0 x1 y0 y1
            have e1 := neq_op_same a q
            have e2 := guard_op
            have t3 : decide (k < n) = true := decide_eq_true hlt
            have i1 : (k : Int) < n := by omega
            have i2 : (0 : Int) ≤ k := by omega
            have HLT := Lib.hid hlt
            clear hlt hkO ho
            go_upto_region 15 with fail
            go_quiet (fail)
            go_wp2_with fail
            go_roundg (n - (k + 1))
            case rel => exact ⟨k + 1, HLT.out, rfl, by go_num, _, rfl⟩
            case measure => have := HLT.out; omega
          · obtain rfl : k = n := by omega
            have t3 : decide (k < k) = false := by simp
            have HBX : Hid (Below w.heap.size w (w6.drewN d)) := Lib.hid (below_drewN' HB6.out d)
            obtain ⟨wv, hwv⟩ : ∃ W, w6.drewN d = W := ⟨_, rfl⟩
            rw [hwv] at HBX ⊢
            clear hwv hlt
            go_wp2_with fail
            go_loopg [12] 12 (fun g y wr => ∃ j : Nat, j ≤ 12 ∧ g = 12 - j ∧ y = .int .i64 ((j : Int) - 1) ∧ wv = wr)
            case atStart => exact ⟨0, by omega, rfl, by rfl, rfl⟩
            case round =>
              obtain ⟨j, hj, rfl, rfl, rfl⟩ := hrel
              by_cases hlt : j < 12
              · have t3 : decide ((j : Int) - 1 ≤ 10) = true := decide_eq_true (by omega)
                have HLT := Lib.hid hlt
                by_cases hin : 2 ≤ j ∧ j ≤ 9
                · have HNK := HNM.out ((j : Int) - 1) wv
                  have HKK := HKD.out (nameB ((j : Int) - 1)) wv
                  rw [kindF_name (by omega) (by omega)] at HKK
                  have hne := nameB_ne (k := (j : Int) - 1) (by omega) (by omega)
                  have u1 : ((str (nameB ((j : Int) - 1))).toList == ([] : List UInt8)) = false := by rw [str_toList]; simpa using hne
                  have u2 : ((str (nameB ((j : Int) - 1))).toList == (⟨#[]⟩ : ByteArray).toList) = false := by rw [str_toList, ← str_nil, str_toList]; simpa using hne
                  obtain ⟨nm, hnm⟩ : ∃ s, str (nameB ((j : Int) - 1)) = s := ⟨_, rfl⟩
                  rw [hnm] at HNK HKK u1 u2
                  have u3 : (nm.toList != ([] : List UInt8)) = true := by rw [bne, u1]; rfl
                  have u4 : (nm.toList != (⟨#[]⟩ : ByteArray).toList) = true := by rw [bne, u2]; rfl
                  have v1 : decide ((j : Int) - 1 < 1) = false := decide_eq_false (by omega)
                  have v2 : decide (8 < (j : Int) - 1) = false := decide_eq_false (by omega)
                  have v3 : (((j : Int) - 1) != ((j : Int) - 1)) = false := by simp
                  have HNK := Lib.hid HNK; have HKK := Lib.hid HKK
                  have b0 : (0 : Int) ≤ j := by omega
                  have b1 : (j : Int) ≤ 12 := by omega
                  clear hne hnm hin hlt
                  go_wp2_with fail
                  refine HNK.out.mono ?_; rintro e wq ⟨rfl, hw⟩; obtain rfl := hw.symm
                  clear hw
                  go_wp2_with fail
                  refine HKK.out.mono ?_; rintro e wq ⟨rfl, hw⟩; obtain rfl := hw.symm
                  clear hw
                  go_wp2_with fail
                  go_roundg (12 - (j + 1))
                  case rel => exact ⟨j + 1, by have := HLT.out; omega, rfl, by go_num, rfl⟩
                  case measure => have := HLT.out; omega
                · have HNK := HNM.out ((j : Int) - 1) wv
                  rw [nameB_no (by omega), str_nil] at HNK
                  have HNK := Lib.hid HNK
                  have b0 : (0 : Int) ≤ j := by omega
                  have b1 : (j : Int) ≤ 12 := by omega
                  by_cases hz : (j : Int) - 1 < 1
                  · have v1 : decide ((j : Int) - 1 < 1) = true := decide_eq_true hz
                    clear hz hin hlt
                    go_wp2_with fail
                    refine HNK.out.mono ?_; rintro e wq ⟨rfl, hw⟩; obtain rfl := hw.symm
                    clear hw
                    go_wp2_with fail
                    go_roundg (12 - (j + 1))
                    case rel => exact ⟨j + 1, by have := HLT.out; omega, rfl, by go_num, rfl⟩
                    case measure => have := HLT.out; omega
                  · have v1 : decide ((j : Int) - 1 < 1) = false := decide_eq_false hz
                    have v2 : decide (8 < (j : Int) - 1) = true := decide_eq_true (by omega)
                    clear hz hin hlt
                    go_wp2_with fail
                    refine HNK.out.mono ?_; rintro e wq ⟨rfl, hw⟩; obtain rfl := hw.symm
                    clear hw
                    go_wp2_with fail
                    go_roundg (12 - (j + 1))
                    case rel => exact ⟨j + 1, by have := HLT.out; omega, rfl, by go_num, rfl⟩
                    case measure => have := HLT.out; omega
              · obtain rfl : j = 12 := by omega
                have HPZ := Lib.hid (HPS.out wv HBX.out)
                clear hlt
                go_wp2_with fail
                refine HPZ.out.mono ?_; rintro e wz ⟨hbz, ⟨v, O2, rfl, hv, hn2, htx⟩ | ⟨c, p, u, P, rfl, hf, hs0, hP, hjn, hx, hor⟩⟩
                · obtain ⟨A9, c9, rfl⟩ := hv.form
                  have hbz2 := HBX.out.trans (hbz.mono HBX.out.size)
                  have h16 := progF_none.1 hn2
                  have TX := progText_any (HG.out.below hbz2 (Nat.le_refl _)) hv (by omega) (fun o ho => by have := wrongF_zero (h16.2 o ho); omega)
                  rw [htx, HT.out] at TX
                  have HTX := Lib.hid TX; have HBZ := Lib.hid hbz2
                  have HRGF : Hid (∀ W, Below wz.heap.size wz W → Calls Tryz.prog 15 #[.slice A9 O2.length c9] W (ErrTo (progF O2) W)) := Lib.hid (fun W hb => progRight_any (hv.below hb (Nat.le_refl _)) (by omega))
                  have HN2 := Lib.hid hn2
                  generalize O2.length = m at *
                  clear hbz hv hn2 htx hbz2 h16 TX
                  go_wp2_with fail
                  refine HTX.out.mono ?_; rintro e wy ⟨rfl, hby⟩
                  have HRG := Lib.hid (HRGF.out wy hby)
                  have HBY := Lib.hid (HBZ.out.trans (hby.mono HBZ.out.size))
                  clear hby
                  go_wp2_with fail
                  refine HRG.out.mono ?_; rintro e wx hto
                  rw [HN2.out] at hto
                  obtain ⟨rfl, hbx⟩ := hto.nil rfl
                  have HBXX := Lib.hid (HBY.out.trans (hbx.mono HBY.out.size))
                  clear hto hbx
                  go_wp2_with fail
                  go_ret
                  exact ⟨rfl, HBXX.out⟩
                · have hcs := ParseTo.code hor
                  have hbz2 := HBX.out.trans (hbz.mono HBX.out.size)
                  have HCD := Lib.hid (code_f7 hf (HG.out.below hbz2 (Nat.le_refl _)).et)
                  obtain ⟨fb, fs, rfl, hfw⟩ := hf
                  have HBZ := Lib.hid hbz2
                  clear hbz hs0 hP hjn hx hor hbz2 hfw
                  rcases hcs with rfl | rfl | rfl | rfl
                  all_goals
                    go_wp2_with fail
                    refine HCD.out.mono ?_; rintro e wy ⟨rfl, hby⟩
                    have HBY := Lib.hid (HBZ.out.trans (hby.mono HBZ.out.size))
                    clear hby
                    go_wp2_with fail
                    go_ret
                    exact ⟨rfl, HBY.out⟩
      · have hb2w := HB1.out.trans (hb2.mono HB1.out.size)
        have HBX := Lib.hid hb2w
        have t4 : (cc == 0) = false := by simpa using hc0
        clear hb2 hr hc0 hb2w
        go_wp2_with fail
        go_loopg [12] 12 (fun g y wr => ∃ j : Nat, j ≤ 12 ∧ g = 12 - j ∧ y = .int .i64 ((j : Int) - 1) ∧ w2 = wr)
        case atStart => exact ⟨0, by omega, rfl, by rfl, rfl⟩
        case round =>
          obtain ⟨j, hj, rfl, rfl, rfl⟩ := hrel
          by_cases hlt : j < 12
          · have t3 : decide ((j : Int) - 1 ≤ 10) = true := decide_eq_true (by omega)
            have HLT := Lib.hid hlt
            by_cases hin : 2 ≤ j ∧ j ≤ 9
            · have HNK := HNM.out ((j : Int) - 1) w2
              have HKK := HKD.out (nameB ((j : Int) - 1)) w2
              rw [kindF_name (by omega) (by omega)] at HKK
              have hne := nameB_ne (k := (j : Int) - 1) (by omega) (by omega)
              have u1 : ((str (nameB ((j : Int) - 1))).toList == ([] : List UInt8)) = false := by rw [str_toList]; simpa using hne
              have u2 : ((str (nameB ((j : Int) - 1))).toList == (⟨#[]⟩ : ByteArray).toList) = false := by rw [str_toList, ← str_nil, str_toList]; simpa using hne
              obtain ⟨nm, hnm⟩ : ∃ s, str (nameB ((j : Int) - 1)) = s := ⟨_, rfl⟩
              rw [hnm] at HNK HKK u1 u2
              have u3 : (nm.toList != ([] : List UInt8)) = true := by rw [bne, u1]; rfl
              have u4 : (nm.toList != (⟨#[]⟩ : ByteArray).toList) = true := by rw [bne, u2]; rfl
              have v1 : decide ((j : Int) - 1 < 1) = false := decide_eq_false (by omega)
              have v2 : decide (8 < (j : Int) - 1) = false := decide_eq_false (by omega)
              have v3 : (((j : Int) - 1) != ((j : Int) - 1)) = false := by simp
              have HNK := Lib.hid HNK; have HKK := Lib.hid HKK
              have b0 : (0 : Int) ≤ j := by omega
              have b1 : (j : Int) ≤ 12 := by omega
              clear hne hnm hin hlt
              go_wp2_with fail
              refine HNK.out.mono ?_; rintro e wq ⟨rfl, hw⟩; obtain rfl := hw.symm
              clear hw
              go_wp2_with fail
              refine HKK.out.mono ?_; rintro e wq ⟨rfl, hw⟩; obtain rfl := hw.symm
              clear hw
              go_wp2_with fail
              go_roundg (12 - (j + 1))
              case rel => exact ⟨j + 1, by have := HLT.out; omega, rfl, by go_num, rfl⟩
              case measure => have := HLT.out; omega
            · have HNK := HNM.out ((j : Int) - 1) w2
              rw [nameB_no (by omega), str_nil] at HNK
              have HNK := Lib.hid HNK
              have b0 : (0 : Int) ≤ j := by omega
              have b1 : (j : Int) ≤ 12 := by omega
              by_cases hz : (j : Int) - 1 < 1
              · have v1 : decide ((j : Int) - 1 < 1) = true := decide_eq_true hz
                clear hz hin hlt
                go_wp2_with fail
                refine HNK.out.mono ?_; rintro e wq ⟨rfl, hw⟩; obtain rfl := hw.symm
                clear hw
                go_wp2_with fail
                go_roundg (12 - (j + 1))
                case rel => exact ⟨j + 1, by have := HLT.out; omega, rfl, by go_num, rfl⟩
                case measure => have := HLT.out; omega
              · have v1 : decide ((j : Int) - 1 < 1) = false := decide_eq_false hz
                have v2 : decide (8 < (j : Int) - 1) = true := decide_eq_true (by omega)
                clear hz hin hlt
                go_wp2_with fail
                refine HNK.out.mono ?_; rintro e wq ⟨rfl, hw⟩; obtain rfl := hw.symm
                clear hw
                go_wp2_with fail
                go_roundg (12 - (j + 1))
                case rel => exact ⟨j + 1, by have := HLT.out; omega, rfl, by go_num, rfl⟩
                case measure => have := HLT.out; omega
          · obtain rfl : j = 12 := by omega
            have HPZ := Lib.hid (HPS.out w2 HBX.out)
            clear hlt
            go_wp2_with fail
            refine HPZ.out.mono ?_; rintro e wz ⟨hbz, ⟨v, O2, rfl, hv, hn2, htx⟩ | ⟨c, p, u, P, rfl, hf, hs0, hP, hjn, hx, hor⟩⟩
            · obtain ⟨A9, c9, rfl⟩ := hv.form
              have hbz2 := HBX.out.trans (hbz.mono HBX.out.size)
              have h16 := progF_none.1 hn2
              have TX := progText_any (HG.out.below hbz2 (Nat.le_refl _)) hv (by omega) (fun o ho => by have := wrongF_zero (h16.2 o ho); omega)
              rw [htx, HT.out] at TX
              have HTX := Lib.hid TX; have HBZ := Lib.hid hbz2
              have HRGF : Hid (∀ W, Below wz.heap.size wz W → Calls Tryz.prog 15 #[.slice A9 O2.length c9] W (ErrTo (progF O2) W)) := Lib.hid (fun W hb => progRight_any (hv.below hb (Nat.le_refl _)) (by omega))
              have HN2 := Lib.hid hn2
              generalize O2.length = m at *
              clear hbz hv hn2 htx hbz2 h16 TX
              go_wp2_with fail
              refine HTX.out.mono ?_; rintro e wy ⟨rfl, hby⟩
              have HRG := Lib.hid (HRGF.out wy hby)
              have HBY := Lib.hid (HBZ.out.trans (hby.mono HBZ.out.size))
              clear hby
              go_wp2_with fail
              refine HRG.out.mono ?_; rintro e wx hto
              rw [HN2.out] at hto
              obtain ⟨rfl, hbx⟩ := hto.nil rfl
              have HBXX := Lib.hid (HBY.out.trans (hbx.mono HBY.out.size))
              clear hto hbx
              go_wp2_with fail
              go_ret
              exact ⟨rfl, HBXX.out⟩
            · have hcs := ParseTo.code hor
              have hbz2 := HBX.out.trans (hbz.mono HBX.out.size)
              have HCD := Lib.hid (code_f7 hf (HG.out.below hbz2 (Nat.le_refl _)).et)
              obtain ⟨fb, fs, rfl, hfw⟩ := hf
              have HBZ := Lib.hid hbz2
              clear hbz hs0 hP hjn hx hor hbz2 hfw
              rcases hcs with rfl | rfl | rfl | rfl
              all_goals
                go_wp2_with fail
                refine HCD.out.mono ?_; rintro e wy ⟨rfl, hby⟩
                have HBY := Lib.hid (HBZ.out.trans (hby.mono HBZ.out.size))
                clear hby
                go_wp2_with fail
                go_ret
                exact ⟨rfl, HBY.out⟩
end Go.Proofs.YtiloomogkngflaaGreatDoor
