/- WireMarks: the law. -/
import Derived.Test.YtkpoeahnlldpgaaDoorBackLaw
namespace Go.Proofs.YtkpoeahnlldpgaaDoor
open Go.RowKit

set_option maxRecDepth 100000 in
set_option maxHeartbeats 8000000 in
theorem marks_law (kd : UInt8) (m : List UInt8) (n : Nat) (I : Nat → ItemR) (v u : Value) (w : World) (hg : ErrT w) (hm : BytesV w v m) (h : ItemsV w u n I) (hm9 : m.length ≤ 300) :
    Calls Tryd.prog 7 #[v, u, .int .u8 (kd.toNat : Int)] w fun e w' => e = .returned (.bool true) ∧ Below w.heap.size w w' := by
  obtain ⟨A, c, rfl⟩ := h.form
  obtain ⟨B, cb, rfl, _⟩ := hm.form
  have H := Lib.hid h; have HG := Lib.hid hg; have HM := Lib.hid hm
  have AL := Lib.hid (alive_ok w hg)
  have t1 : decide ((300 : Int) < m.length) = false := decide_eq_false (by omega)
  clear h hg hm
  by_cases hfar : farN I n = true
  · go_enter Tryd.func7, Tryd.ntmps7
    go_wp2_with fail
    refine AL.out.mono ?_; rintro e w1 ⟨rfl, hb1⟩
    have F1 := far_any n I _ w1 (H.out.below hb1 (Nat.le_refl _))
    rw [hfar] at F1
    have HF1 := Lib.hid F1; have HB1 := Lib.hid hb1
    clear F1 hb1 hfar
    go_wp2_with fail
    refine HF1.out.mono ?_; rintro e w2 ⟨rfl, hw2⟩; obtain rfl := hw2.symm
    go_wp2_with fail
    go_ret
    exact ⟨rfl, HB1.out⟩
  · have hfar' : farN I n = false := by simpa using hfar
    have hok : FarOk I n := farN_no hfar'
    have HOK := Lib.hid hok
    have hn40 := hok.1
    have HFAR := Lib.hid hfar'
    clear hfar hfar' hok
    go_enter Tryd.func7, Tryd.ntmps7
    go_wp2_with fail
    refine AL.out.mono ?_; rintro e w1 ⟨rfl, hb1⟩
    have F1 := far_any n I _ w1 (H.out.below hb1 (Nat.le_refl _))
    rw [HFAR.out] at F1
    have R1 := Lib.hid (reader_new m _ w1 (HM.out.below hb1 (Nat.le_refl _)) (by omega))
    have HF1 := Lib.hid F1; have HB1 := Lib.hid hb1
    clear F1 hb1
    go_wp2_with fail
    refine HF1.out.mono ?_; rintro e w2 ⟨rfl, hw2⟩; obtain rfl := hw2.symm
    go_wp2_with fail
    refine R1.out.mono ?_; rintro e w2 ⟨g, rfl, hgb, hr2, hb2⟩
    have hgw : w.heap.size ≤ g := Nat.le_trans HB1.out.size hgb
    have HR2 := Lib.hid (rdAt_of hr2)
    have HB2 := Lib.hid (HB1.out.trans (hb2.mono HB1.out.size))
    obtain ⟨M, hM⟩ : ∃ M, m.length = M := ⟨_, rfl⟩
    rw [hM] at hm9 t1 ⊢
    have HMM := Lib.hid hM
    have hmv := HM.out
    rw [hM] at hmv
    have HMv := Lib.hid hmv
    clear hgb hr2 hb2 hM hmv
    go_wp2_with fail
    go_loopg [8] 400 (fun t i wr => ∃ k, k ≤ 400 ∧ 4 * k ≤ M ∧ t = 400 - k ∧ i = .int .i64 (k : Nat) ∧ RdAt wr g m (4 * k) none ∧ Below w.heap.size w wr)
    case atStart => exact ⟨0, by omega, by omega, rfl, rfl, HR2.out, HB2.out⟩
    case round =>
      obtain ⟨k, hk, hk4, rfl, rfl, hr, hb⟩ := hrel
      have hk75 : k ≤ 75 := by omega
      have t2 : decide ((k : Int) < 400) = true := decide_eq_true (by omega)
      have L1 := left_any g (4 * k) m _ wr hr.none (by rw [HMM.out]; omega)
      rw [HMM.out] at L1
      obtain ⟨q, hq⟩ : ∃ q, M - 4 * k = q := ⟨_, rfl⟩
      rw [hq] at L1
      have HL1 := Lib.hid L1; have HR := Lib.hid hr; have HB := Lib.hid hb; have HQ := Lib.hid hq
      by_cases hlt : 4 ≤ q
      · have t3 : decide ((4 : Int) ≤ q) = true := decide_eq_true (by omega)
        have t3' : decide (4 ≤ q) = true := decide_eq_true hlt
        clear L1 hr hb hq
        go_wp2_with fail
        refine HL1.out.mono ?_; rintro e w3 ⟨rfl, d3, hw3⟩
        have hr3 : RdAt w3 g m (4 * k) none := by rw [hw3]; exact HR.out.drewN d3
        have hb3 : Below w.heap.size w w3 := by rw [hw3]; exact below_drewN' HB.out d3
        have N3 := Lib.hid (rnum_ok g (4 * k) m w3 hr3.none (by rw [HMM.out]; have := HQ.out; omega) (by rw [HMM.out]; omega))
        have HB3 := Lib.hid hb3
        have HS3 := Lib.hid hb3.size
        clear hw3 hr3 hb3 hlt
        go_wp2_with fail
        refine N3.out.mono ?_; rintro e w4 ⟨rfl, hr4, hg4⟩
        have HR4 := Lib.hid (rdAt_of hr4)
        have HB4 := Lib.hid (HB3.out.trans (grown_below' hg4 HS3.out hgw))
        obtain ⟨x4, hx4⟩ : ∃ x : Int, ((num (sub m (4 * k) 4) : Nat) : Int) = x := ⟨_, rfl⟩
        rw [hx4]
        clear hr4 hg4 hx4
        go_wp2_with fail
        go_roundg (400 - (k + 1))
        case rel => exact ⟨k + 1, by omega, by have := HQ.out; have h1 := of_decide_eq_true t3'; omega, rfl, by go_num, HR4.out, HB4.out⟩
        case measure => omega
      · have t3 : decide ((4 : Int) ≤ q) = false := decide_eq_false (by omega)
        have t3' : decide (4 ≤ q) = false := decide_eq_false hlt
        have hq4 : q < 4 := by omega
        clear L1 hr hb hq hlt
        go_wp2_with fail
        refine HL1.out.mono ?_; rintro e w3 ⟨rfl, d3, hw3⟩
        have hr3 : RdAt w3 g m (4 * k) none := by rw [hw3]; exact HR.out.drewN d3
        have hb3 : Below w.heap.size w w3 := by rw [hw3]; exact below_drewN' HB.out d3
        have L3 := left_any g (4 * k) m _ w3 hr3.none (by rw [HMM.out]; omega)
        rw [HMM.out, HQ.out] at L3
        have HL3 := Lib.hid L3; have HR3 := Lib.hid hr3; have HB3 := Lib.hid hb3
        clear hw3 hr3 hb3 L3
        go_wp2_with fail
        refine HL3.out.mono ?_; rintro e w4 ⟨rfl, d4, hw4⟩
        have hr4 : RdAt w4 g m (4 * k) none := by rw [hw4]; exact HR3.out.drewN d4
        have hb4 : Below w.heap.size w w4 := by rw [hw4]; exact below_drewN' HB3.out d4
        have L4 := Lib.hid (rlong_no g (4 * k) none m w4 hr4 (Or.inr (by rw [HMM.out]; have := HQ.out; omega)) (by rw [HMM.out]; omega))
        have HB4 := Lib.hid hb4; have HS4 := Lib.hid hb4.size
        clear hw4 hr4 hb4
        go_wp2_with fail
        refine L4.out.mono ?_; rintro e w5 ⟨rfl, hr5, hg5⟩
        have hr5' : RdAt w5 g m (4 * k) (some (9, 4 * k)) := hr5
        have hb5 : Below w.heap.size w w5 := HB4.out.trans (grown_below' hg5 HS4.out hgw)
        have E5 := rend_any g (4 * k) _ m w5 hr5' (by rw [HMM.out]; omega)
        have hE5 : endE (some (9, 4 * k)) (4 * k) m.length = some (9, 4 * k) := rfl
        rw [hE5] at E5
        have HE5 := Lib.hid E5; have HR5 := Lib.hid hr5'; have HB5 := Lib.hid hb5
        clear hr5 hg5 hr5' hb5 E5 hE5
        go_wp2_with fail
        refine HE5.out.mono ?_; rintro e w6 ⟨v6, rfl, ⟨b6, s6, rfl, hF6⟩, hb6⟩
        have HR6 := Lib.hid (HR5.out.below hb6); have HB6 := Lib.hid (HB5.out.trans (hb6.mono HB5.out.size)); have HF6 := Lib.hid hF6
        have HG6 := Lib.hid (hF6.lt)
        clear hb6 hF6
        obtain ⟨wo, rfl⟩ : ∃ wo : World, wo = wr := ⟨_, rfl⟩
        go_wp2_with fail
        go_loopg [11] n (fun t i wr => ∃ j, j ≤ n ∧ t = n - j ∧ i = .int .i64 (j : Nat) ∧ RdAt wr g m (4 * k) (some (9, 4 * k)) ∧ w6.grownBy wr (some g) ∧ Below w.heap.size w wr)
        case atStart => exact ⟨0, by omega, rfl, rfl, HR6.out, ⟨rfl, rfl, rfl, Nat.le_refl _, fun _ _ _ => rfl⟩, HB6.out⟩
        case round =>
          obtain ⟨j, hj, rfl, rfl, hrj, hgj, hbj⟩ := hrel
          by_cases hjl : j < n
          · obtain ⟨b, off, rfl, d0, d1, d2, d3'⟩ := H.out.pos hjl
            have hbl : b < w.heap.size := World.block_lt_of_cell? _ _ d0
            obtain ⟨f1, f2, f3, f4⟩ := HOK.out.2 j hjl
            obtain ⟨K, hK⟩ : ∃ K, (I j).K = K := ⟨_, rfl⟩
            obtain ⟨N, hN⟩ : ∃ N, (I j).N = N := ⟨_, rfl⟩
            obtain ⟨S, hS⟩ : ∃ S, (I j).S = S := ⟨_, rfl⟩
            obtain ⟨A', c', hform⟩ := (H.out.1 j hjl).form
            obtain ⟨li, hli⟩ : ∃ li, (I j).li = li := ⟨_, rfl⟩
            rw [hform] at d3'
            rw [hK] at d0 f3 f4
            rw [hN] at d1
            rw [hS] at d2
            rw [hli] at d3'
            have c0 := (hbj.cell (p := ⟨b, off + j * 4, none⟩) hbl).trans d0
            have c1 := (hbj.cell (p := ⟨b, off + j * 4 + 1, none⟩) hbl).trans d1
            have c2 := (hbj.cell (p := ⟨b, off + j * 4 + 2, none⟩) hbl).trans d2
            have c3 := (hbj.cell (p := ⟨b, off + j * 4 + 3, none⟩) hbl).trans d3'
            have i1 : (j : Int) < n := by omega
            have i2 : (0 : Int) ≤ j := by omega
            have t7 : decide (j < n) = true := decide_eq_true hjl
            have HJ := Lib.hid hjl; have HRJ := Lib.hid hrj; have HGJ := Lib.hid hgj; have HBJ := Lib.hid hbj
            have HSJ := Lib.hid hbj.size
            clear d0 d1 d2 d3' hK hN hS hform hli hjl hrj hgj hbj hbl f1 f2
            rcases (by omega : K = 0 ∨ K = 1 ∨ K = 2 ∨ K = 3) with rfl | rfl | rfl | rfl
            · have T1 := Lib.hid (ltake0_no g (4 * k) N S (.slice A' li c') m wr (some (9, 4 * k)) HRJ.out (by simp) (by rw [HMM.out]; omega))
              go_wp2_with fail
              refine T1.out.mono ?_; rintro e w7 ⟨N', S', u', rfl, ⟨rfl, rfl, rfl⟩, hr7, hg7⟩
              have hr7' : RdAt w7 g m (4 * k) (some (9, 4 * k)) := hr7
              have hb7 : Below w.heap.size w w7 := HBJ.out.trans (grown_below' hg7 HSJ.out hgw)
              have hg67 := grown_trans HGJ.out hg7
              have hA : Below w7.heap.size w7 (w7.alloc (.cells #[.int .i64 0, .int .i64 0, .string ⟨#[]⟩, .slice none 0 0] 40)) := (Below.refl _ _).alloc (Nat.le_refl _) _
              have hr8 := hr7'.below hA
              have L8 : Hid (Calls Tryd.prog 25 #[.pointer (some ⟨g, 0, none⟩)] (w7.alloc (.cells #[.int .i64 0, .int .i64 0, .string ⟨#[]⟩, .slice none 0 0] 40)) fun e w' => e = .returned (.int .i64 (q : Nat)) ∧ ∃ d, w' = (w7.alloc (.cells #[.int .i64 0, .int .i64 0, .string ⟨#[]⟩, .slice none 0 0] 40)).drewN d) := Lib.hid (by
                obtain ⟨v8, h8, _⟩ := hr8
                have := left_any g (4 * k) m _ _ h8 (by rw [HMM.out]; omega)
                rw [HMM.out, HQ.out] at this
                exact this)
              have HR8 := Lib.hid hr8
              have HG8 := Lib.hid (grown_trans hg67 (grown_below hA))
              have HB8 := Lib.hid (hb7.trans (hA.mono hb7.size))
              clear hr7 hg7 hr7' hb7 hg67 hA hr8
              go_wp2_with fail
              refine L8.out.mono ?_; rintro e w9 ⟨rfl, d9, hw9⟩
              have HR9 : Hid (RdAt w9 g m (4 * k) (some (9, 4 * k))) := Lib.hid (by rw [hw9]; exact HR8.out.drewN d9)
              have HG9 : Hid (w6.grownBy w9 (some g)) := Lib.hid (by rw [hw9]; exact grown_trans HG8.out ⟨rfl, rfl, rfl, Nat.le_refl _, fun _ _ _ => rfl⟩)
              have HB9 : Hid (Below w.heap.size w w9) := Lib.hid (by rw [hw9]; exact below_drewN' HB8.out d9)
              clear hw9
              go_wp2_with fail
              go_roundg (n - (j + 1))
              case rel => exact ⟨j + 1, HJ.out, rfl, by go_num, HR9.out, HG9.out, HB9.out⟩
              case measure => have := HJ.out; omega
            · have T1 := Lib.hid (ltake1_no g (4 * k) N S (.slice A' li c') m wr (some (9, 4 * k)) HRJ.out (by simp) (by rw [HMM.out]; omega))
              go_wp2_with fail
              refine T1.out.mono ?_; rintro e w7 ⟨N', S', u', rfl, ⟨rfl, rfl, rfl⟩, hr7, hg7⟩
              have hr7' : RdAt w7 g m (4 * k) (some (9, 4 * k)) := hr7
              have hb7 : Below w.heap.size w w7 := HBJ.out.trans (grown_below' hg7 HSJ.out hgw)
              have hg67 := grown_trans HGJ.out hg7
              have hA : Below w7.heap.size w7 (w7.alloc (.cells #[.int .i64 1, .int .i64 0, .string ⟨#[]⟩, .slice none 0 0] 40)) := (Below.refl _ _).alloc (Nat.le_refl _) _
              have hr8 := hr7'.below hA
              have L8 : Hid (Calls Tryd.prog 25 #[.pointer (some ⟨g, 0, none⟩)] (w7.alloc (.cells #[.int .i64 1, .int .i64 0, .string ⟨#[]⟩, .slice none 0 0] 40)) fun e w' => e = .returned (.int .i64 (q : Nat)) ∧ ∃ d, w' = (w7.alloc (.cells #[.int .i64 1, .int .i64 0, .string ⟨#[]⟩, .slice none 0 0] 40)).drewN d) := Lib.hid (by
                obtain ⟨v8, h8, _⟩ := hr8
                have := left_any g (4 * k) m _ _ h8 (by rw [HMM.out]; omega)
                rw [HMM.out, HQ.out] at this
                exact this)
              have HR8 := Lib.hid hr8
              have HG8 := Lib.hid (grown_trans hg67 (grown_below hA))
              have HB8 := Lib.hid (hb7.trans (hA.mono hb7.size))
              clear hr7 hg7 hr7' hb7 hg67 hA hr8
              go_wp2_with fail
              refine L8.out.mono ?_; rintro e w9 ⟨rfl, d9, hw9⟩
              have HR9 : Hid (RdAt w9 g m (4 * k) (some (9, 4 * k))) := Lib.hid (by rw [hw9]; exact HR8.out.drewN d9)
              have HG9 : Hid (w6.grownBy w9 (some g)) := Lib.hid (by rw [hw9]; exact grown_trans HG8.out ⟨rfl, rfl, rfl, Nat.le_refl _, fun _ _ _ => rfl⟩)
              have HB9 : Hid (Below w.heap.size w w9) := Lib.hid (by rw [hw9]; exact below_drewN' HB8.out d9)
              clear hw9
              go_wp2_with fail
              go_roundg (n - (j + 1))
              case rel => exact ⟨j + 1, HJ.out, rfl, by go_num, HR9.out, HG9.out, HB9.out⟩
              case measure => have := HJ.out; omega
            · have T1 := Lib.hid (ltake2_no g (4 * k) N S (.slice A' li c') m wr (some (9, 4 * k)) HRJ.out (by simp) (by rw [HMM.out]; omega))
              go_wp2_with fail
              refine T1.out.mono ?_; rintro e w7 ⟨N', S', u', rfl, ⟨rfl, rfl, rfl⟩, hr7, hg7⟩
              have hr7' : RdAt w7 g m (4 * k) (some (9, 4 * k)) := hr7
              have hb7 : Below w.heap.size w w7 := HBJ.out.trans (grown_below' hg7 HSJ.out hgw)
              have hg67 := grown_trans HGJ.out hg7
              have hA : Below w7.heap.size w7 (w7.alloc (.cells #[.int .i64 2, .int .i64 0, .string ⟨#[]⟩, .slice none 0 0] 40)) := (Below.refl _ _).alloc (Nat.le_refl _) _
              have hr8 := hr7'.below hA
              have L8 : Hid (Calls Tryd.prog 25 #[.pointer (some ⟨g, 0, none⟩)] (w7.alloc (.cells #[.int .i64 2, .int .i64 0, .string ⟨#[]⟩, .slice none 0 0] 40)) fun e w' => e = .returned (.int .i64 (q : Nat)) ∧ ∃ d, w' = (w7.alloc (.cells #[.int .i64 2, .int .i64 0, .string ⟨#[]⟩, .slice none 0 0] 40)).drewN d) := Lib.hid (by
                obtain ⟨v8, h8, _⟩ := hr8
                have := left_any g (4 * k) m _ _ h8 (by rw [HMM.out]; omega)
                rw [HMM.out, HQ.out] at this
                exact this)
              have HR8 := Lib.hid hr8
              have HG8 := Lib.hid (grown_trans hg67 (grown_below hA))
              have HB8 := Lib.hid (hb7.trans (hA.mono hb7.size))
              clear hr7 hg7 hr7' hb7 hg67 hA hr8
              go_wp2_with fail
              refine L8.out.mono ?_; rintro e w9 ⟨rfl, d9, hw9⟩
              have HR9 : Hid (RdAt w9 g m (4 * k) (some (9, 4 * k))) := Lib.hid (by rw [hw9]; exact HR8.out.drewN d9)
              have HG9 : Hid (w6.grownBy w9 (some g)) := Lib.hid (by rw [hw9]; exact grown_trans HG8.out ⟨rfl, rfl, rfl, Nat.le_refl _, fun _ _ _ => rfl⟩)
              have HB9 : Hid (Below w.heap.size w w9) := Lib.hid (by rw [hw9]; exact below_drewN' HB8.out d9)
              clear hw9
              go_wp2_with fail
              go_roundg (n - (j + 1))
              case rel => exact ⟨j + 1, HJ.out, rfl, by go_num, HR9.out, HG9.out, HB9.out⟩
              case measure => have := HJ.out; omega
            · have T1 := Lib.hid (ltake3_no g (4 * k) N S (.slice A' li c') m wr (some (9, 4 * k)) HRJ.out (by simp) (by rw [HMM.out]; omega))
              go_wp2_with fail
              refine T1.out.mono ?_; rintro e w7 ⟨N', S', u', rfl, ⟨rfl, rfl, rfl⟩, hr7, hg7⟩
              have hr7' : RdAt w7 g m (4 * k) (some (9, 4 * k)) := hr7
              have hb7 : Below w.heap.size w w7 := HBJ.out.trans (grown_below' hg7 HSJ.out hgw)
              have hg67 := grown_trans HGJ.out hg7
              have hA : Below w7.heap.size w7 (w7.alloc (.cells #[.int .i64 3, .int .i64 0, .string ⟨#[]⟩, .slice none 0 0] 40)) := (Below.refl _ _).alloc (Nat.le_refl _) _
              have hr8 := hr7'.below hA
              have L8 : Hid (Calls Tryd.prog 25 #[.pointer (some ⟨g, 0, none⟩)] (w7.alloc (.cells #[.int .i64 3, .int .i64 0, .string ⟨#[]⟩, .slice none 0 0] 40)) fun e w' => e = .returned (.int .i64 (q : Nat)) ∧ ∃ d, w' = (w7.alloc (.cells #[.int .i64 3, .int .i64 0, .string ⟨#[]⟩, .slice none 0 0] 40)).drewN d) := Lib.hid (by
                obtain ⟨v8, h8, _⟩ := hr8
                have := left_any g (4 * k) m _ _ h8 (by rw [HMM.out]; omega)
                rw [HMM.out, HQ.out] at this
                exact this)
              have HR8 := Lib.hid hr8
              have HG8 := Lib.hid (grown_trans hg67 (grown_below hA))
              have HB8 := Lib.hid (hb7.trans (hA.mono hb7.size))
              clear hr7 hg7 hr7' hb7 hg67 hA hr8
              go_wp2_with fail
              refine L8.out.mono ?_; rintro e w9 ⟨rfl, d9, hw9⟩
              have HR9 : Hid (RdAt w9 g m (4 * k) (some (9, 4 * k))) := Lib.hid (by rw [hw9]; exact HR8.out.drewN d9)
              have HG9 : Hid (w6.grownBy w9 (some g)) := Lib.hid (by rw [hw9]; exact grown_trans HG8.out ⟨rfl, rfl, rfl, Nat.le_refl _, fun _ _ _ => rfl⟩)
              have HB9 : Hid (Below w.heap.size w w9) := Lib.hid (by rw [hw9]; exact below_drewN' HB8.out d9)
              clear hw9
              go_wp2_with fail
              go_roundg (n - (j + 1))
              case rel => exact ⟨j + 1, HJ.out, rfl, by go_num, HR9.out, HG9.out, HB9.out⟩
              case measure => have := HJ.out; omega
          · obtain rfl : j = n := by omega
            have t7 : decide (j < j) = false := by simp
            have E8 := rend_any g (4 * k) _ m wr hrj (by rw [HMM.out]; omega)
            have hE8 : endE (some (9, 4 * k)) (4 * k) m.length = some (9, 4 * k) := rfl
            rw [hE8] at E8
            have HE8 := Lib.hid E8; have HBJ := Lib.hid hbj
            have HFJ := Lib.hid (HF6.out.grown hgj (by
              intro e
              have e' : b6 = g := by injection e
              obtain ⟨v8, ⟨_, A8, c8, hw8, _⟩, _⟩ := HR6.out
              exact whole_ne HF6.out hw8 (by decide) e'))
            clear E8 hE8 hrj hgj hbj hjl
            go_wp2_with fail
            refine HE8.out.mono ?_; rintro e x1 ⟨v1, rfl, ⟨b8, s8, rfl, hF8⟩, hbx1⟩
            have hBx1 := HBJ.out.trans (hbx1.mono HBJ.out.size)
            have P1 := Lib.hid (pack_any kd m _ x1 (HMv.out.below hBx1 (Nat.le_refl _)) (by rw [HMM.out]; omega))
            have HF8 := Lib.hid hF8; have HFX := Lib.hid (HFJ.out.below hbx1 HFJ.out.lt); have HBX1 := Lib.hid hBx1
            clear hF8 hbx1 hBx1
            go_wp2_with fail
            refine P1.out.mono ?_; rintro e x2 ⟨v2, rfl, ho2, hbx2⟩
            have hv2 := own_bytesV ho2
            have hlen2 : (parcel kd m).length ≤ 1000 := by rw [parcel_len, HMM.out]; omega
            have P2 := Lib.hid (pack_any kd (parcel kd m) _ x2 hv2 (by omega))
            have HF8 := Lib.hid (HF8.out.below hbx2 HF8.out.lt); have HFX := Lib.hid (HFX.out.below hbx2 HFX.out.lt)
            have HBX2 := Lib.hid (HBX1.out.trans (hbx2.mono HBX1.out.size))
            obtain ⟨A2, c2, rfl⟩ := own_form ho2
            have HLEN2 := Lib.hid hlen2
            clear ho2 hbx2 hv2 hlen2
            go_wp2_with fail
            refine P2.out.mono ?_; rintro e x3 ⟨v3, rfl, ho3, hbx3⟩
            have U3 := Lib.hid (unpack_parcel kd (parcel kd m) _ x3 (own_bytesV ho3) (by have := HLEN2.out; omega))
            have HF8 := Lib.hid (HF8.out.below hbx3 HF8.out.lt); have HFX := Lib.hid (HFX.out.below hbx3 HFX.out.lt)
            have HBX3 := Lib.hid (HBX2.out.trans (hbx3.mono HBX2.out.size))
            obtain ⟨A3, c3, rfl⟩ := own_form ho3
            clear ho3 hbx3
            go_wp2_with fail
            refine U3.out.mono ?_; rintro e x4 ⟨v4, rfl, ho4, hbx4⟩
            have U4 := Lib.hid (unpack_parcel kd m _ x4 (own_bytesV ho4) (by rw [HMM.out]; omega))
            have HF8 := Lib.hid (HF8.out.below hbx4 HF8.out.lt); have HFX := Lib.hid (HFX.out.below hbx4 HFX.out.lt)
            have HBX4 := Lib.hid (HBX3.out.trans (hbx4.mono HBX3.out.size))
            obtain ⟨A4, c4, rfl⟩ := own_form ho4
            clear ho4 hbx4
            go_wp2_with fail
            refine U4.out.mono ?_; rintro e x5 ⟨v5, rfl, ho5, hbx5⟩
            have HV5 := Lib.hid (own_bytesV ho5)
            have HF8 := Lib.hid (HF8.out.below hbx5 HF8.out.lt); have HFX := Lib.hid (HFX.out.below hbx5 HFX.out.lt)
            have hBx5 := HBX4.out.trans (hbx5.mono HBX4.out.size)
            have hg5 : ErrT x5 := HG.out.below hBx5 (Nat.le_refl _)
            have C5 := Lib.hid (code_hit b6 9 x5 hg5 (by rw [HFX.out.cell 0]; rfl))
            have HBX5 := Lib.hid hBx5
            obtain ⟨A5, c5, rfl⟩ := own_form ho5
            have tq : decide ((q : Int) < 4) = true := decide_eq_true (by omega)
            have tq' : decide (q < 4) = true := decide_eq_true hq4
            clear ho5 hbx5 hBx5 hg5
            go_wp2_with fail
            refine C5.out.mono ?_; rintro e x6 ⟨rfl, hbx6⟩
            have hBx6 := HBX5.out.trans (hbx6.mono HBX5.out.size)
            have HFX := Lib.hid (HFX.out.below hbx6 HFX.out.lt); have HF8 := Lib.hid (HF8.out.below hbx6 HF8.out.lt); have HV6 := Lib.hid (HV5.out.below hbx6 (Nat.le_refl _))
            have A6 := Lib.hid (at_hit b6 ((4 * k : Nat) : Int) x6 (HG.out.below hBx6 (Nat.le_refl _)) (by rw [HFX.out.cell 1]; rfl))
            have HBX6 := Lib.hid hBx6
            obtain ⟨p4, hp4⟩ : ∃ p : Int, ((4 * k : Nat) : Int) = p := ⟨_, rfl⟩
            rw [hp4] at A6
            have tp : (p4 == (M : Int) - (q : Int)) = true := by rw [beq_iff_eq]; have := HQ.out; omega
            clear hbx6 hBx6 hp4
            go_wp2_with fail
            refine A6.out.mono ?_; rintro e x7 ⟨rfl, hbx7⟩
            have hBx7 := HBX6.out.trans (hbx7.mono HBX6.out.size)
            have HF8 := Lib.hid (HF8.out.below hbx7 HF8.out.lt); have HV7 := Lib.hid (HV6.out.below hbx7 (Nat.le_refl _))
            have C7 := Lib.hid (code_hit b8 9 x7 (HG.out.below hBx7 (Nat.le_refl _)) (by rw [HF8.out.cell 0]; rfl))
            have HBX7 := Lib.hid hBx7
            clear hbx7 hBx7
            go_wp2_with fail
            refine C7.out.mono ?_; rintro e x8 ⟨rfl, hbx8⟩
            have hBx8 := HBX7.out.trans (hbx8.mono HBX7.out.size)
            have S8 := Lib.hid (refSame_true m _ _ x8 (HV7.out.below hbx8 (Nat.le_refl _)) (HMv.out.below hBx8 (Nat.le_refl _)) (by rw [HMM.out]; omega))
            have HBX8 := Lib.hid hBx8
            rw [HMM.out] at S8 ⊢
            have tk : ((kd.toNat : Int) == kd.toNat) = true := by simp
            clear hbx8 hBx8
            go_wp2_with fail
            refine S8.out.mono ?_; rintro e x9 ⟨rfl, d9, hx9⟩
            have HBX9 : Hid (Below w.heap.size w x9) := Lib.hid (by rw [hx9]; exact below_drewN' HBX8.out d9)
            clear hx9
            go_wp2_with fail
            go_ret
            exact ⟨rfl, HBX9.out⟩

set_option maxRecDepth 100000 in
theorem marks_far (kd : UInt8) (m : List UInt8) (n : Nat) (I : Nat → ItemR) (v u : Value) (w : World) (hg : ErrT w) (hm : BytesV w v m) (h : ItemsV w u n I) (hm9 : 300 < m.length) :
    Calls Tryd.prog 7 #[v, u, .int .u8 (kd.toNat : Int)] w fun e w' => e = .returned (.bool true) ∧ Below w.heap.size w w' := by
  obtain ⟨A, c, rfl⟩ := h.form
  obtain ⟨B, cb, rfl, _⟩ := hm.form
  have AL := Lib.hid (alive_ok w hg)
  have t1 : decide ((300 : Int) < m.length) = true := decide_eq_true (by omega)
  clear h hg hm
  go_enter Tryd.func7, Tryd.ntmps7
  go_wp2_with fail
  refine AL.out.mono ?_; rintro e w1 ⟨rfl, hb1⟩
  have HB1 := Lib.hid hb1
  clear hb1
  go_wp2_with fail
  go_ret
  exact ⟨rfl, HB1.out⟩
end Go.Proofs.YtkpoeahnlldpgaaDoor
