/- ProgNumbers: the law's walk. -/
import Derived.Test.YtiloomogkngflaaGreatDoorOf8
import Derived.Test.YtiloomogkngflaaGreatDoorAlive17
import Derived.Test.YtiloomogkngflaaGreatDoorNumbP17
namespace Go.Proofs.YtiloomogkngflaaGreatDoor
open Go.RowKit

theorem own_four {w : World} {g : Nat} {t : TypeId} {a b c d e f h i : Int} (hw : Whole w g t #[.int .i64 a, .int .i64 b, .int .i64 c, .int .i64 d, .int .i64 e, .int .i64 f, .int .i64 h, .int .i64 i]) : EdgesV w (.slice (some ⟨g, 0, none⟩) 4 4) [(a, b), (c, d), (e, f), (h, i)] := by
  refine Or.inr ⟨by simp, g, 0, 4, rfl, fun j hj => ?_⟩
  match j, hj with
  | 0, _ => exact ⟨hw.cell 0, hw.cell 1⟩
  | 1, _ => exact ⟨hw.cell 2, hw.cell 3⟩
  | 2, _ => exact ⟨hw.cell 4, hw.cell 5⟩
  | 3, _ => exact ⟨hw.cell 6, hw.cell 7⟩
set_option maxRecDepth 100000 in
set_option maxHeartbeats 16000000 in
theorem numbers_law (L : List Int) (E : List (Int × Int)) (vl ve : Value) (kd nn : Nat) (w : World) (hg : GT w) (hl : SeqV w vl L) (he : EdgesV w ve E) (hE : E.length * 16 ≤ 140737488351232) (hL : L.length ≤ 9223372036854775807) (hkd : kd < 256) (hnn : nn < 256) :
    Calls Tryz.prog 5 #[.agg #[vl, ve], .int .u8 kd, .int .u8 nn] w fun e w' => e = .returned (.bool true) ∧ Below w.heap.size w w' := by
  obtain ⟨Al, cl, rfl⟩ := IntsV.form hl
  obtain ⟨Ae, ce, rfl⟩ := he.form
  obtain ⟨n, hn⟩ : ∃ n, L.length = n := ⟨_, rfl⟩
  obtain ⟨m, hm⟩ : ∃ m, E.length = m := ⟨_, rfl⟩
  have hb1 : Below w.heap.size w (w.alloc (.cells #[.slice Al L.length cl, .slice Ae E.length ce] 45)) := (Below.refl _ _).alloc (Nat.le_refl _) _
  have hx := Whole.new w 45 #[.slice Al L.length cl, .slice Ae E.length ce]
  obtain ⟨w1, hw1⟩ : ∃ W, w.alloc (.cells #[.slice Al L.length cl, .slice Ae E.length ce] 45) = W := ⟨_, rfl⟩
  obtain ⟨xb, hxb⟩ : ∃ g, w.heap.size = g := ⟨_, rfl⟩
  rw [hw1] at hb1 hx
  rw [hxb] at hx
  have AL := Lib.hid (alive_ok w1 (hg.below hb1 (Nat.le_refl _)))
  have OF8 : Hid (∀ W, Below w.heap.size w W → Calls Tryz.prog 16 #[.agg #[.slice Al L.length cl, .slice Ae E.length ce]] W (OfTo E (.slice Al L.length cl) W)) := Lib.hid (fun W hb => of8_any E Al L.length cl _ W (he.below hb (Nat.le_refl _)) hE)
  have HB1 := Lib.hid hb1; have HX := Lib.hid hx; have HL := Lib.hid hl; have HE := Lib.hid he; have HN := Lib.hid hn; have HM := Lib.hid hm; have HW1 := Lib.hid hw1; have HXB := Lib.hid hxb
  rw [hn] at HX HL OF8 hL ⊢
  rw [hm] at HX HE OF8 hE ⊢
  clear hb1 hx hl he hn hm hw1 hxb hg
  go_enter Tryz.func5, Tryz.ntmps5
  go_upto_region 1 with fail
  rw [HN.out, HM.out] at HW1
  rw [HW1.out, HXB.out]
  go_wp2_with fail
  refine AL.out.mono ?_; rintro e w2 ⟨rfl, hb2⟩
  have hx2 := HX.out.below hb2 HX.out.lt
  have HB2 := Lib.hid (HB1.out.trans (hb2.mono HB1.out.size)); have HX2 := Lib.hid hx2
  have x0 : w2.cell? ⟨xb, 0, none⟩ = some (.slice Al n cl) := hx2.cell 0
  have x1 : w2.cell? ⟨xb, 1, none⟩ = some (.slice Ae m ce) := hx2.cell 1
  have HOF := Lib.hid (OF8.out w2 HB2.out)
  clear hb2 hx2
  go_wp2_with fail
  refine HOF.out.mono ?_; rintro e w3 ⟨A, c, rfl, hown, hb3⟩
  rw [HM.out] at hown ⊢
  have hx3 := (HX2.out.below hb3 HX2.out.lt).alloc (.cells #[.slice Al n cl, .slice A m c] 48)
  have hB3 := (HB2.out.trans (hb3.mono HB2.out.size)).alloc (HB2.out.trans (hb3.mono HB2.out.size)).size (.cells #[.slice Al n cl, .slice A m c] 48)
  have hy3 := Whole.new w3 48 #[.slice Al n cl, .slice A m c]
  have he3 := (own_edges hown).below ((Below.refl w3.heap.size w3).alloc (Nat.le_refl _) (.cells #[.slice Al n cl, .slice A m c] 48)) (Nat.le_refl _)
  have hl3 := HL.out.below hB3 (Nat.le_refl _)
  obtain ⟨w4, hw4⟩ : ∃ W, w3.alloc (.cells #[.slice Al n cl, .slice A m c] 48) = W := ⟨_, rfl⟩
  obtain ⟨yb, hyb⟩ : ∃ g, w3.heap.size = g := ⟨_, rfl⟩
  rw [hw4] at hx3 hB3 hy3 he3 hl3
  rw [hyb] at hy3
  have HC : Hid (∀ W, Below w4.heap.size w4 W → W.cell? ⟨xb, 0, none⟩ = some (.slice Al n cl) ∧ W.cell? ⟨xb, 1, none⟩ = some (.slice Ae m ce) ∧ W.cell? ⟨yb, 0, none⟩ = some (.slice Al n cl) ∧ W.cell? ⟨yb, 1, none⟩ = some (.slice A m c)) := Lib.hid (fun W hb =>
    ⟨(hx3.below hb hx3.lt).cell 0, (hx3.below hb hx3.lt).cell 1, (hy3.below hb hy3.lt).cell 0, (hy3.below hb hy3.lt).cell 1⟩)
  have HL4 := Lib.hid hl3; have HE4 := Lib.hid he3; have HB4 := Lib.hid hB3; have HW4 := Lib.hid hw4; have HYB := Lib.hid hyb
  clear hx3 hB3 hy3 he3 hl3 hw4 hyb hown hb3 x0 x1
  obtain ⟨c0, c1, c2, c3⟩ := HC.out w4 (Below.refl _ _)
  go_upto_region 4 with fail
  rw [HW4.out, HYB.out]
  by_cases h8 : 8 < n
  · have t1 : decide (8 < n) = true := decide_eq_true h8
    have t1' : decide ((8 : Int) < (n : Int)) = true := decide_eq_true (by omega)
    clear h8
    go_wp2_with fail
    go_ret
    exact ⟨rfl, HB4.out⟩
  · have t1 : decide (8 < n) = false := decide_eq_false h8
    have t1' : decide ((8 : Int) < (n : Int)) = false := decide_eq_false (by omega)
    have HN8 := Lib.hid h8
    clear h8
    by_cases h40 : 40 < m
    · have t2 : decide (40 < m) = true := decide_eq_true h40
      have t2' : decide ((40 : Int) < (m : Int)) = true := decide_eq_true (by omega)
      clear h40
      go_wp2_with fail
      go_ret
      exact ⟨rfl, HB4.out⟩
    · have t2 : decide (40 < m) = false := decide_eq_false h40
      have t2' : decide ((40 : Int) < (m : Int)) = false := decide_eq_false (by omega)
      have HM40 := Lib.hid h40
      have l1 : L.length ≤ 1000000 := by have := HN8.out; rw [HN.out]; omega
      have l2 : E.length ≤ 1000000 := by rw [HM.out]; omega
      have RT := right_any HL4.out HE4.out l1 l2
      have HRT := Lib.hid RT
      have HTE : Hid (∀ W a b, Below w4.heap.size w4 W → a ≠ 6 → a ≠ 8 → Calls Tryz.prog 21 #[.agg #[.int .i64 a, .int .i64 b], .agg #[.slice Al n cl, .slice A m c]] W fun e w' => e = .returned (.bool (testB (a, b) L E)) ∧ Below W.heap.size W w') := Lib.hid (fun W a b hb k6 k8 => test_any (HL4.out.below hb (Nat.le_refl _)) (HE4.out.below hb (Nat.le_refl _)) l1 l2 a b k6 k8)
      have HDG : Hid (∀ W (v : Int), Below w4.heap.size w4 W → Calls Tryz.prog 22 #[.agg #[.slice Al n cl, .slice A m c], .int .i64 v] W fun e w' => e = .returned (.int .i64 (degI E v)) ∧ Below W.heap.size W w') := Lib.hid (fun W v hb => degree_any (HE4.out.below hb (Nat.le_refl _)) rfl l2 v)
      have HKP : Hid (∀ W vo O, Below w4.heap.size w4 W → EdgesV W vo O → O.length ≤ 1000000 → Plain O → Calls Tryz.prog 18 #[vo, .agg #[.slice Al n cl, .slice A m c]] W fun e w' => e = .returned (.bool (keepsB O L E)) ∧ Below W.heap.size W w') := Lib.hid (fun W vo O hb ho h1 hp => keeps_any ho h1 hp (HL4.out.below hb (Nat.le_refl _)) (HE4.out.below hb (Nat.le_refl _)) l1 l2)
      have HFI : Hid (∀ W vo O, Below w4.heap.size w4 W → EdgesV W vo O → O.length ≤ 1000000 → Plain O → Calls Tryz.prog 19 #[vo, .agg #[.slice Al n cl, .slice A m c]] W fun e w' => e = .returned (.int .i64 (firstF O L E)) ∧ Below W.heap.size W w') := Lib.hid (fun W vo O hb ho h1 hp => first_any ho h1 hp (HL4.out.below hb (Nat.le_refl _)) (HE4.out.below hb (Nat.le_refl _)) l1 l2)
      clear h40 l1 l2 RT
      go_wp2_with fail
      refine HRT.out.mono ?_; rintro e w5 hto
      obtain ⟨o, ho⟩ : ∃ o, rightF L E = o := ⟨_, rfl⟩
      rw [ho] at hto
      rcases o with _ | ⟨cc, pp⟩
      · obtain ⟨rfl, hb5⟩ := hto.nil rfl
        have hRP := rightF_none.1 ho
        obtain ⟨k, hk⟩ : ∃ k : Nat, kd % 4 = k := ⟨_, rfl⟩
        obtain ⟨q, hq⟩ : ∃ q : Nat, nn % 255 = q := ⟨_, rfl⟩
        have u1 : ((kd : Nat) : Int).tmod 4 = (k : Int) := by rw [← hk]; exact Int.ofNat_tmod _ _ |>.symm
        have u2 : ((nn : Nat) : Int).tmod 255 = (q : Int) := by rw [← hq]; exact Int.ofNat_tmod _ _ |>.symm
        have u3 : k < 4 := by omega
        have u4 : q < 255 := by omega
        have HMONO : Hid (testB (2 + (k : Int), (q : Int)) L E = true → testB (2 + (k : Int), (q : Int) + 1) L E = true) := Lib.hid (fun h => test_mono (by omega) (by omega) (by omega) h)
        have HB5 := Lib.hid hb5; have HRP := Lib.hid hRP
        obtain ⟨d0, d1, d2, d3⟩ := HC.out w5 hb5
        have HT1 := Lib.hid (HTE.out w5 (2 + (k : Int)) (q : Int) hb5 (by omega) (by omega))
        obtain ⟨z1, hz1⟩ : ∃ z, testB (2 + (k : Int), (q : Int)) L E = z := ⟨_, rfl⟩
        obtain ⟨z2, hz2⟩ : ∃ z, testB (2 + (k : Int), (q : Int) + 1) L E = z := ⟨_, rfl⟩
        rw [hz1, hz2] at HMONO
        rw [hz1] at HT1
        have HZ2 := Lib.hid hz2
        clear c0 c1 c2 c3 hto ho hb5 hRP hk hq hz1 hz2
        go_wp2_with fail
        refine HT1.out.mono ?_; rintro e w6 ⟨rfl, hb6⟩
        have hb6 := HB5.out.trans (hb6.mono HB5.out.size)
        have HT2 := HTE.out w6 (2 + (k : Int)) ((q : Int) + 1) hb6 (by omega) (by omega)
        rw [HZ2.out] at HT2
        have HT2 := Lib.hid HT2
        have HB6 := Lib.hid hb6
        clear d0 d1 d2 d3
        obtain ⟨d0, d1, d2, d3⟩ := HC.out w6 hb6
        clear hb6
        go_wp2_with fail
        refine HT2.out.mono ?_; rintro e w7 ⟨rfl, hb7⟩
        have hb7 := HB6.out.trans (hb7.mono HB6.out.size)
        have HB7 := Lib.hid hb7
        clear hb7 d0 d1 d2 d3 u1 u2 u3 u4
        go_wp2_with fail
        go_loopg [11, 12, 13] n (fun g mv dv yv wr => ∃ j, j ≤ n ∧ g = n - j ∧ mv = .int .i64 (topTo (fun i => L.getD i 0) j) ∧ dv = .int .i64 (topTo (fun v => degI E (v : Nat)) j) ∧ yv = .int .i64 (j : Nat) ∧ Below w4.heap.size w4 wr)
        case atStart => exact ⟨0, Nat.zero_le _, rfl, rfl, rfl, rfl, HB7.out⟩
        case round =>
          obtain ⟨j, hj, rfl, rfl, rfl, rfl, hB⟩ := hrel
          obtain ⟨M, hM⟩ : ∃ z, topTo (fun i => L.getD i 0) j = z := ⟨_, rfl⟩
          obtain ⟨D, hD⟩ : ∃ z, topTo (fun v => degI E (v : Nat)) j = z := ⟨_, rfl⟩
          rw [hM, hD]
          obtain ⟨d0, d1, d2, d3⟩ := HC.out wr hB
          have HB := Lib.hid hB
          by_cases hlt : j < n
          · have hpos : ∃ b off, Al = some ⟨b, off, none⟩ ∧ wr.cell? ⟨b, off + j, none⟩ = some (.int .i64 (L.getD j 0)) := by
              have h := HL4.out.below hB (Nat.le_refl _)
              rcases h with ⟨h0, _⟩ | ⟨_, b, off, c', e, hc⟩
              · have := HN.out; omega
              · injection e with e1 e2 e3
                exact ⟨b, off, e1, hc j (by rw [HN.out]; exact hlt)⟩
            obtain ⟨b, off, rfl, hc⟩ := hpos
            obtain ⟨x, hxx⟩ : ∃ x, L.getD j 0 = x := ⟨_, rfl⟩
            rw [hxx] at hc
            obtain ⟨dd, hdd⟩ : ∃ d, degI E (j : Nat) = d := ⟨_, rfl⟩
            have HDJ : Hid (∀ W, Below w4.heap.size w4 W → Calls Tryz.prog 22 #[.agg #[.slice (some ⟨b, off, none⟩) n cl, .slice A m c], .int .i64 (j : Nat)] W fun e w' => e = .returned (.int .i64 dd) ∧ Below W.heap.size W w') := Lib.hid (fun W hb => by
              have h := HDG.out W (j : Nat) hb
              rw [hdd] at h
              exact h)
            have HM1 : Hid (topTo (fun i => L.getD i 0) (j + 1) = if M < x then x else M) := Lib.hid (by unfold topTo; rw [hM, hxx])
            have HD1 : Hid (topTo (fun v => degI E (v : Nat)) (j + 1) = if D < dd then dd else D) := Lib.hid (by unfold topTo; rw [hD, hdd])
            have HDW := Lib.hid (HDJ.out wr hB)
            have t3 : decide (j < n) = true := decide_eq_true hlt
            have j1 : (j : Int) < n := by omega
            have j2 : (0 : Int) ≤ j := by omega
            have HLT := Lib.hid hlt
            clear hlt hB hxx hdd hM hD
            by_cases hm1 : M < x
            · have t4 : decide (M < x) = true := decide_eq_true hm1
              have HMV : Hid (topTo (fun i => L.getD i 0) (j + 1) = x) := Lib.hid (by rw [HM1.out, if_pos hm1])
              clear hm1
              go_wp2_with fail
              refine HDW.out.mono ?_; rintro e wA ⟨rfl, hbA⟩
              have hbA := HB.out.trans (hbA.mono HB.out.size)
              have HBA := Lib.hid hbA
              have HDA := Lib.hid (HDJ.out wA hbA)
              clear d0 d1 d2 d3 hc
              obtain ⟨d0, d1, d2, d3⟩ := HC.out wA hbA
              clear hbA
              by_cases hd1 : D < dd
              · have t5 : decide (D < dd) = true := decide_eq_true hd1
                have HDV : Hid (topTo (fun v => degI E (v : Nat)) (j + 1) = dd) := Lib.hid (by rw [HD1.out, if_pos hd1])
                clear hd1
                go_wp2_with fail
                refine HDA.out.mono ?_; rintro e wB ⟨rfl, hbB⟩
                have HBB := Lib.hid (HBA.out.trans (hbB.mono HBA.out.size))
                clear hbB d0 d1 d2 d3
                go_wp2_with fail
                go_roundg (n - (j + 1))
                case rel => exact ⟨j + 1, HLT.out, rfl, by rw [HMV.out], by rw [HDV.out], by go_num, HBB.out⟩
                case measure => have := HLT.out; omega
              · have t5 : decide (D < dd) = false := decide_eq_false hd1
                have HDV : Hid (topTo (fun v => degI E (v : Nat)) (j + 1) = D) := Lib.hid (by rw [HD1.out, if_neg hd1])
                clear hd1 d0 d1 d2 d3
                go_wp2_with fail
                go_roundg (n - (j + 1))
                case rel => exact ⟨j + 1, HLT.out, rfl, by rw [HMV.out], by rw [HDV.out], by go_num, HBA.out⟩
                case measure => have := HLT.out; omega
            · have t4 : decide (M < x) = false := decide_eq_false hm1
              have HMV : Hid (topTo (fun i => L.getD i 0) (j + 1) = M) := Lib.hid (by rw [HM1.out, if_neg hm1])
              clear hm1
              go_wp2_with fail
              refine HDW.out.mono ?_; rintro e wA ⟨rfl, hbA⟩
              have hbA := HB.out.trans (hbA.mono HB.out.size)
              have HBA := Lib.hid hbA
              have HDA := Lib.hid (HDJ.out wA hbA)
              clear d0 d1 d2 d3 hc
              obtain ⟨d0, d1, d2, d3⟩ := HC.out wA hbA
              clear hbA
              by_cases hd1 : D < dd
              · have t5 : decide (D < dd) = true := decide_eq_true hd1
                have HDV : Hid (topTo (fun v => degI E (v : Nat)) (j + 1) = dd) := Lib.hid (by rw [HD1.out, if_pos hd1])
                clear hd1
                go_wp2_with fail
                refine HDA.out.mono ?_; rintro e wB ⟨rfl, hbB⟩
                have HBB := Lib.hid (HBA.out.trans (hbB.mono HBA.out.size))
                clear hbB d0 d1 d2 d3
                go_wp2_with fail
                go_roundg (n - (j + 1))
                case rel => exact ⟨j + 1, HLT.out, rfl, by rw [HMV.out], by rw [HDV.out], by go_num, HBB.out⟩
                case measure => have := HLT.out; omega
              · have t5 : decide (D < dd) = false := decide_eq_false hd1
                have HDV : Hid (topTo (fun v => degI E (v : Nat)) (j + 1) = D) := Lib.hid (by rw [HD1.out, if_neg hd1])
                clear hd1 d0 d1 d2 d3
                go_wp2_with fail
                go_roundg (n - (j + 1))
                case rel => exact ⟨j + 1, HLT.out, rfl, by rw [HMV.out], by rw [HDV.out], by go_num, HBA.out⟩
                case measure => have := HLT.out; omega
          · obtain rfl : j = n := by omega
            have t3 : decide (j < j) = false := by simp
            have HOL : Hid (∀ z : Int, ownL L E z = [(2, M), (3, D), (4, (j : Nat)), (5, z)]) := Lib.hid (fun z => by unfold ownL; rw [HN.out, hM, hD])
            have HK1 : Hid (keepsB [(2, M), (3, D), (4, ((j : Nat) : Int)), (5, ((m : Nat) : Int))] L E = true) := Lib.hid (by rw [← HOL.out, ← HM.out]; exact own_keeps HRP.out)
            have HK2 := own_less HRP.out
            rw [HM.out, HOL.out] at HK2
            have HK2 := Lib.hid HK2
            have hw0 := Whole.new wr 36 #[.int .i64 2, .int .i64 M, .int .i64 3, .int .i64 D, .int .i64 4, .int .i64 (j : Nat), .int .i64 5, .int .i64 (m : Nat)]
            have hbO := hB.alloc hB.size (.cells #[.int .i64 2, .int .i64 M, .int .i64 3, .int .i64 D, .int .i64 4, .int .i64 (j : Nat), .int .i64 5, .int .i64 (m : Nat)] 36)
            obtain ⟨wO, hwO⟩ : ∃ W, wr.alloc (.cells #[.int .i64 2, .int .i64 M, .int .i64 3, .int .i64 D, .int .i64 4, .int .i64 (j : Nat), .int .i64 5, .int .i64 (m : Nat)] 36) = W := ⟨_, rfl⟩
            obtain ⟨ob, hob⟩ : ∃ g, wr.heap.size = g := ⟨_, rfl⟩
            rw [hwO] at hw0 hbO
            rw [hob] at hw0
            have hobs : w4.heap.size ≤ ob := by rw [← hob]; exact hB.size
            have hpl : ∀ z : Int, Plain [(2, M), (3, D), (4, ((j : Nat) : Int)), (5, z)] := fun z o ho => by
              simp only [List.mem_cons, List.not_mem_nil, or_false] at ho
              rcases ho with rfl | rfl | rfl | rfl <;> simp
            have KP1 := HKP.out wO _ _ hbO (own_four hw0) (by simp) (hpl _)
            rw [HK1.out] at KP1
            have HKP1 := Lib.hid KP1; have HW0 := Lib.hid hw0; have HBO := Lib.hid hbO; have HWO := Lib.hid hwO; have HOB := Lib.hid hob; have HOBS := Lib.hid hobs; have HPL := Lib.hid hpl
            clear hM hD hlt hw0 hwO hob hobs hpl KP1
            go_upto_region 18 with fail
            rw [HWO.out, HOB.out]
            clear d0 d1 d2 d3
            obtain ⟨d0, d1, d2, d3⟩ := HC.out wO hbO
            clear hbO hB
            have hzz : (z1 = true ∧ z2 = true) ∨ z1 = false := by
              cases z1 with
              | true => exact Or.inl ⟨rfl, HMONO.out rfl⟩
              | false => exact Or.inr rfl
            rcases hzz with ⟨rfl, rfl⟩ | rfl
            · go_wp2_with fail
              refine HKP1.out.mono ?_; rintro e wK ⟨rfl, hbK⟩
              have hbK4 := HBO.out.trans (hbK.mono HBO.out.size)
              have hwK := HW0.out.below hbK HW0.out.lt
              have HWK := Lib.hid hwK; have HBK := Lib.hid hbK4
              clear d0 d1 d2 d3
              obtain ⟨d0, d1, d2, d3⟩ := HC.out wK hbK4
              by_cases hm0 : 0 < m
              · have t7 : decide (0 < m) = true := decide_eq_true hm0
                have t7' : decide ((0 : Int) < (m : Int)) = true := decide_eq_true (by omega)
                have e7 : wK.cell? ⟨ob, 7, none⟩ = some (.int .i64 (m : Nat)) := hwK.cell 7
                have f7 := hwK.free 7
                have hbS := hbK4.setCell (p := ⟨ob, 7, none⟩) (by have := HOBS.out; show w4.heap.size ≤ ob; omega) (.int .i64 ((m : Int) - 1))
                have hwS := hwK.put 7 (.int .i64 ((m : Int) - 1))
                obtain ⟨wS, hwSe⟩ : ∃ W, wK.setCell ⟨ob, 7, none⟩ (.int .i64 ((m : Int) - 1)) = W := ⟨_, rfl⟩
                rw [hwSe] at hbS hwS
                have HES := Lib.hid (own_four hwS)
                have KP2 := HKP.out wS _ _ hbS (own_four hwS) (by simp) (HPL.out _)
                rw [HK2.out.2] at KP2
                have HKP2 := Lib.hid KP2; have HBS := Lib.hid hbS; have HWSE := Lib.hid hwSe
                obtain ⟨s0, s1, s2, s3⟩ := HC.out wS hbS
                clear hm0 hbS hwS hwSe KP2 hbK hbK4 hwK
                go_upto_region 22 with fail
                rw [HWSE.out]
                clear d0 d1 d2 d3 e7 f7
                go_wp2_with fail
                refine HKP2.out.mono ?_; rintro e wT ⟨rfl, hbT⟩
                have hbT4 := HBS.out.trans (hbT.mono HBS.out.size)
                have FI2 := HFI.out wT _ _ hbT4 (HES.out.below hbT (Nat.le_refl _)) (by simp) (HPL.out _)
                rw [HK2.out.1] at FI2
                have HFI2 := Lib.hid FI2; have HBT := Lib.hid hbT4
                clear s0 s1 s2 s3
                obtain ⟨s0, s1, s2, s3⟩ := HC.out wT hbT4
                clear hbT hbT4 FI2
                go_wp2_with fail
                refine HFI2.out.mono ?_; rintro e wU ⟨rfl, hbU⟩
                have HEND := Lib.hid (HB4.out.trans ((HBT.out.trans (hbU.mono HBT.out.size)).mono HB4.out.size))
                clear hbU s0 s1 s2 s3
                go_wp2_with fail
                go_ret
                exact ⟨rfl, HEND.out⟩
              · have t7 : decide (0 < m) = false := decide_eq_false hm0
                have t7' : decide ((0 : Int) < (m : Int)) = false := decide_eq_false (by omega)
                have HEND := Lib.hid (HB4.out.trans (hbK4.mono HB4.out.size))
                clear hm0 hbK hbK4 hwK
                go_wp2_with fail
                go_ret
                exact ⟨rfl, HEND.out⟩
            · go_wp2_with fail
              refine HKP1.out.mono ?_; rintro e wK ⟨rfl, hbK⟩
              have hbK4 := HBO.out.trans (hbK.mono HBO.out.size)
              have hwK := HW0.out.below hbK HW0.out.lt
              have HWK := Lib.hid hwK; have HBK := Lib.hid hbK4
              clear d0 d1 d2 d3
              obtain ⟨d0, d1, d2, d3⟩ := HC.out wK hbK4
              by_cases hm0 : 0 < m
              · have t7 : decide (0 < m) = true := decide_eq_true hm0
                have t7' : decide ((0 : Int) < (m : Int)) = true := decide_eq_true (by omega)
                have e7 : wK.cell? ⟨ob, 7, none⟩ = some (.int .i64 (m : Nat)) := hwK.cell 7
                have f7 := hwK.free 7
                have hbS := hbK4.setCell (p := ⟨ob, 7, none⟩) (by have := HOBS.out; show w4.heap.size ≤ ob; omega) (.int .i64 ((m : Int) - 1))
                have hwS := hwK.put 7 (.int .i64 ((m : Int) - 1))
                obtain ⟨wS, hwSe⟩ : ∃ W, wK.setCell ⟨ob, 7, none⟩ (.int .i64 ((m : Int) - 1)) = W := ⟨_, rfl⟩
                rw [hwSe] at hbS hwS
                have HES := Lib.hid (own_four hwS)
                have KP2 := HKP.out wS _ _ hbS (own_four hwS) (by simp) (HPL.out _)
                rw [HK2.out.2] at KP2
                have HKP2 := Lib.hid KP2; have HBS := Lib.hid hbS; have HWSE := Lib.hid hwSe
                obtain ⟨s0, s1, s2, s3⟩ := HC.out wS hbS
                clear hm0 hbS hwS hwSe KP2 hbK hbK4 hwK
                go_upto_region 22 with fail
                rw [HWSE.out]
                clear d0 d1 d2 d3 e7 f7
                go_wp2_with fail
                refine HKP2.out.mono ?_; rintro e wT ⟨rfl, hbT⟩
                have hbT4 := HBS.out.trans (hbT.mono HBS.out.size)
                have FI2 := HFI.out wT _ _ hbT4 (HES.out.below hbT (Nat.le_refl _)) (by simp) (HPL.out _)
                rw [HK2.out.1] at FI2
                have HFI2 := Lib.hid FI2; have HBT := Lib.hid hbT4
                clear s0 s1 s2 s3
                obtain ⟨s0, s1, s2, s3⟩ := HC.out wT hbT4
                clear hbT hbT4 FI2
                go_wp2_with fail
                refine HFI2.out.mono ?_; rintro e wU ⟨rfl, hbU⟩
                have HEND := Lib.hid (HB4.out.trans ((HBT.out.trans (hbU.mono HBT.out.size)).mono HB4.out.size))
                clear hbU s0 s1 s2 s3
                go_wp2_with fail
                go_ret
                exact ⟨rfl, HEND.out⟩
              · have t7 : decide (0 < m) = false := decide_eq_false hm0
                have t7' : decide ((0 : Int) < (m : Int)) = false := decide_eq_false (by omega)
                have HEND := Lib.hid (HB4.out.trans (hbK4.mono HB4.out.size))
                clear hm0 hbK hbK4 hwK
                go_wp2_with fail
                go_ret
                exact ⟨rfl, HEND.out⟩
      · obtain ⟨fb, rfl, hf, hb5⟩ := hto.err rfl
        have HEND := Lib.hid (HB4.out.trans (hb5.mono HB4.out.size))
        clear hto hf hb5 ho c0 c1 c2 c3
        go_wp2_with fail
        go_ret
        exact ⟨rfl, HEND.out⟩
end Go.Proofs.YtiloomogkngflaaGreatDoor
