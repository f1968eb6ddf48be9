/- conf: Text, whole. Written by gen_text22b.py. -/
import Derived.Test.YtbbdammdiplagaaGreatDoorConfT
namespace Go.Proofs.YtbbdammdiplagaaGreatDoor
open Go.RowKit

theorem lineB_len (wd v : List UInt8) : (lineB wd v).length = wd.length + v.length + 2 := by unfold lineB; simp; omega
set_option maxRecDepth 100000 in
set_option maxHeartbeats 8000000 in
theorem confText_any (kd : Int) (sz su wk cp : Nat) (O : List (Int × Int)) (kv : Value) (w : World) (hg : GT w) (hk : EdgesV w kv O) (hr : rightKB ⟨⟨kd, sz, su, wk, cp⟩, O⟩ = true) (hkd : kd = 1 ∨ kd = 2 ∨ kd = 3) (b1 : sz ≤ 8) (b2 : su ≤ 1000000) (b3 : wk ≤ 64) (b4 : cp ≤ 1000000) (b5 : O.length ≤ 15) (b6 : progF O = none) :
    Calls Tryz.prog 12 #[.agg (cV ⟨kd, sz, su, wk, cp⟩ kv)] w fun e w' => e = .returned (.string (str (confT ⟨⟨kd, sz, su, wk, cp⟩, O⟩))) ∧ Below w.heap.size w w' := by
  obtain ⟨A, c, rfl⟩ := hk.form
  have hb1 : Below w.heap.size w (w.alloc (.cells (cV ⟨kd, sz, su, wk, cp⟩ (.slice A O.length c)) 29)) := (Below.refl _ _).alloc (Nat.le_refl _) _
  have hx := Whole.new w 29 (cV ⟨kd, sz, su, wk, cp⟩ (.slice A O.length c))
  obtain ⟨w1, hw1⟩ : ∃ W, w.alloc (.cells (cV ⟨kd, sz, su, wk, cp⟩ (.slice A O.length c)) 29) = W := ⟨_, rfl⟩
  obtain ⟨xb, hxb⟩ : ∃ g, w.heap.size = g := ⟨_, rfl⟩
  rw [hw1] at hb1 hx
  rw [hxb] at hx
  have CR := confRight_any ⟨⟨kd, sz, su, wk, cp⟩, O⟩ (.slice A O.length c) w1 (hk.below hb1 (Nat.le_refl _)) (by show O.length ≤ _; omega)
  rw [rightC_yes hr] at CR
  have HSM : Hid (∀ o ∈ O, 0 ≤ o.2 ∧ o.2 < 1000000) := Lib.hid (fun o ho => by have := wrongF_zero ((progF_none.1 b6).2 o ho); omega)
  have hpl : (progT O).length ≤ 1000 := by
    have := joinB_le (b := 59) (P := O.map opT) (c := 13) (fun p hp => by
      obtain ⟨x, hx, rfl⟩ := List.mem_map.1 hp
      exact opT_len (HSM.out x hx))
    rw [List.length_map] at this
    show (joinB 59 (O.map opT)).length ≤ _
    omega
  have HCR := Lib.hid CR; have HB1 := Lib.hid hb1; have HW1 := Lib.hid hw1; have HXB := Lib.hid hxb; have HX := Lib.hid hx; have HK := Lib.hid hk; have HG := Lib.hid hg; have HPL := Lib.hid hpl
  have x0 : w1.cell? ⟨xb, 0, none⟩ = some (.int .i64 kd) := hx.cell 0
  have x1 : w1.cell? ⟨xb, 1, none⟩ = some (.int .i64 (sz : Nat)) := hx.cell 1
  have x2 : w1.cell? ⟨xb, 2, none⟩ = some (.int .i64 (su : Nat)) := hx.cell 2
  have x3 : w1.cell? ⟨xb, 3, none⟩ = some (.int .i64 (wk : Nat)) := hx.cell 3
  have x4 : w1.cell? ⟨xb, 4, none⟩ = some (.int .i64 (cp : Nat)) := hx.cell 4
  have x5 : w1.cell? ⟨xb, 5, none⟩ = some (.slice A O.length c) := hx.cell 5
  have HD : Hid (∀ n : Nat, n ≤ 9999999 → (Lib.decDigits n).length ≤ 7) := Lib.hid (fun n hn => (dec_len_iff n 7 (by decide)).2 (by omega))
  clear hb1 hx hw1 hxb CR hr hg hk hpl
  go_enter Tryz.func12, Tryz.ntmps12
  go_upto_region 1 with fail
  rw [HW1.out, HXB.out]
  go_wp2_with fail
  refine HCR.out.mono ?_; rintro e w2 hto
  obtain ⟨rfl, hb2⟩ := hto.nil rfl
  have hx2 := HX.out.below hb2 HX.out.lt
  have hB2 := HB1.out.trans (hb2.mono HB1.out.size)
  have hk2 := HK.out.below hB2 (Nat.le_refl _)
  have hg2 := HG.out.below hB2 (Nat.le_refl _)
  have hw3 := Whole.new w2 71 #[.pointer none, .slice none 0 0]
  have hb3 := (Below.refl w2.heap.size w2).alloc (Nat.le_refl _) (.cells #[.pointer none, .slice none 0 0] 71)
  have hI3 : Lib.IsBuilder 71 5 w2.heap.size w2.heap.size (Lib.byteCells []) (w2.alloc (.cells #[.pointer none, .slice none 0 0] 71)) := Or.inl ⟨Nat.le_refl _, _, fresh_heap _ _ _, World.ownsRow_nil _ _ _ 1, by simp [Value.ownBlock]⟩
  have hxlt : xb < w2.heap.size := hx2.lt
  obtain ⟨w3, hw3e⟩ : ∃ W, w2.alloc (.cells #[.pointer none, .slice none 0 0] 71) = W := ⟨_, rfl⟩
  obtain ⟨bb, hbb⟩ : ∃ g, w2.heap.size = g := ⟨_, rfl⟩
  rw [hw3e] at hb3 hI3
  have HC : Hid (∀ W, Below bb w2 W → W.cell? ⟨xb, 0, none⟩ = some (.int .i64 kd) ∧ W.cell? ⟨xb, 1, none⟩ = some (.int .i64 (sz : Nat)) ∧ W.cell? ⟨xb, 2, none⟩ = some (.int .i64 (su : Nat)) ∧ W.cell? ⟨xb, 3, none⟩ = some (.int .i64 (wk : Nat)) ∧ W.cell? ⟨xb, 4, none⟩ = some (.int .i64 (cp : Nat)) ∧ W.cell? ⟨xb, 5, none⟩ = some (.slice A O.length c)) := Lib.hid (fun W hb => by
    have h := hx2.below hb (by rw [← hbb]; exact hxlt)
    exact ⟨h.cell 0, h.cell 1, h.cell 2, h.cell 3, h.cell 4, h.cell 5⟩)
  have HGW : Hid (∀ W, Below bb w2 W → GT W) := Lib.hid (fun W hb => hg2.below hb (Nat.le_of_eq hbb))
  have HKW : Hid (∀ W, Below bb w2 W → EdgesV W (.slice A O.length c) O) := Lib.hid (fun W hb => hk2.below hb (Nat.le_of_eq hbb))
  rw [hbb] at hb3 hI3
  have HSZ : Hid (∀ W, Below bb w2 W → bb ≤ W.heap.size) := Lib.hid (fun W hb => by rw [← hbb]; exact hb.size)
  have HEND : Hid (∀ W, Below bb w2 W → Below w.heap.size w W) := Lib.hid (fun W hb => hB2.trans (hb.mono (by rw [← hbb]; exact hB2.size)))
  have HB0 := Lib.hid hb3; have HI0 := Lib.hid hI3; have HW3 := Lib.hid hw3e; have HBB := Lib.hid hbb
  have hl0 : ([] : List UInt8).length ≤ 0 := Nat.le_refl _
  clear hto hb2 hx2 hB2 hk2 hg2 hw3 hb3 hI3 hw3e hbb hxlt x0 x1 x2 x3 x4 x5
  obtain ⟨x0, x1, x2, x3, x4, x5⟩ := HC.out w3 HB0.out
  obtain ⟨q, hq⟩ : ∃ q, O.length = q := ⟨_, rfl⟩
  rw [hq] at HC HKW x5 b5
  have HQ := Lib.hid hq
  clear hq
  go_upto_region 4 with fail
  rw [HW3.out, HBB.out]
  have HFIN : Hid (∀ l W, Lib.IsBuilder 71 5 bb bb (Lib.byteCells l) W → Below bb w2 W → Calls Tryz.prog 32 #[.pointer (some ⟨bb, 0, none⟩)] W fun e w' => e = .returned (.string (str l)) ∧ Below bb W w') := Lib.hid (fun l W h hb => string_any bb bb l W h (HSZ.out W hb))
  rcases hkd with rfl | rfl | rfl
  · by_cases hq0 : q = 0
    · have t9 : decide (0 < q) = false := decide_eq_false (by omega)
      have t9' : decide ((0 : Int) < (q : Int)) = false := decide_eq_false (by omega)
      have HT0 : Hid (Calls Tryz.prog 23 #[.int .i64 1] w3 fun e w' => e = .returned (.string ⟨#[109, 111, 116, 105, 102, 115]⟩) ∧ w' = w3) := Lib.hid (kname_any 1 (by decide) (by decide) w3)
      go_wp2_with fail
      refine HT0.out.mono ?_; rintro e u ⟨rfl, hw⟩; obtain rfl := hw.symm
      clear hw
      have HL0 : Hid (Calls Tryz.prog 29 #[.string ⟨#[106, 111, 98]⟩, .string ⟨#[109, 111, 116, 105, 102, 115]⟩, .pointer (some ⟨bb, 0, none⟩)] w3 (LineTo bb bb [] wJob (kname 1) w3)) := Lib.hid (by
        have h := line_any bb bb [] wJob (kname 1) w3 HI0.out (by omega) (by decide) (by first | decide | omega) (HSZ.out w3 HB0.out)
        exact h)
      have hl1 : ([] ++ lineB wJob (kname 1)).length ≤ 11 := by rw [List.length_append, lineB_len]; have h1 : wJob.length = 3 := rfl; have h2 : (kname 1).length ≤ 6 := (by decide); omega
      go_wp2_with fail
      refine HL0.out.mono ?_; rintro e v1 ⟨rfl, hI, hb, -⟩
      have HB1 := Lib.hid (HB0.out.trans hb)
      have HI1 := Lib.hid hI
      clear hI hb hl0
      clear x0 x1 x2 x3 x4 x5
      obtain ⟨x0, x1, x2, x3, x4, x5⟩ := HC.out v1 HB1.out
      have HT1 := itoa_at sz (by omega) v1 (HGW.out v1 HB1.out)
      have hv1 : (Lib.decDigits sz).length ≤ 7 := HD.out sz (by omega)
      obtain ⟨s1, hs1⟩ : ∃ s, str (Lib.decDigits sz) = s := ⟨_, rfl⟩
      rw [hs1] at HT1
      have HS1 := Lib.hid hs1; have HT1 := Lib.hid HT1
      clear hs1
      go_wp2_with fail
      refine HT1.out.mono ?_; rintro e v2 ⟨rfl, hb⟩
      have HB2 := Lib.hid (HB1.out.trans (hb.mono (HSZ.out v1 HB1.out)))
      have HI2 := Lib.hid (isBuilder_below HI1.out hb)
      clear hb
      clear x0 x1 x2 x3 x4 x5
      obtain ⟨x0, x1, x2, x3, x4, x5⟩ := HC.out v2 HB2.out
      have HL2 : Hid (Calls Tryz.prog 29 #[.string ⟨#[115, 105, 122, 101]⟩, .string s1, .pointer (some ⟨bb, 0, none⟩)] v2 (LineTo bb bb ([] ++ lineB wJob (kname 1)) wSize (Lib.decDigits sz) v2)) := Lib.hid (by
        have h := line_any bb bb ([] ++ lineB wJob (kname 1)) wSize (Lib.decDigits sz) v2 HI2.out (by omega) (by decide) (by first | decide | omega) (HSZ.out v2 HB2.out)
        rw [HS1.out] at h
        exact h)
      have hl3 : (([] ++ lineB wJob (kname 1)) ++ lineB wSize (Lib.decDigits sz)).length ≤ 24 := by rw [List.length_append, lineB_len]; have h1 : wSize.length = 4 := rfl; have h2 : (Lib.decDigits sz).length ≤ 7 := hv1; omega
      go_wp2_with fail
      refine HL2.out.mono ?_; rintro e v3 ⟨rfl, hI, hb, -⟩
      have HB3 := Lib.hid (HB2.out.trans hb)
      have HI3 := Lib.hid hI
      clear hI hb hl1
      clear x0 x1 x2 x3 x4 x5
      obtain ⟨x0, x1, x2, x3, x4, x5⟩ := HC.out v3 HB3.out
      have HT3 := itoa_at wk (by omega) v3 (HGW.out v3 HB3.out)
      have hv3 : (Lib.decDigits wk).length ≤ 7 := HD.out wk (by omega)
      obtain ⟨s3, hs3⟩ : ∃ s, str (Lib.decDigits wk) = s := ⟨_, rfl⟩
      rw [hs3] at HT3
      have HS3 := Lib.hid hs3; have HT3 := Lib.hid HT3
      clear hs3
      go_wp2_with fail
      refine HT3.out.mono ?_; rintro e v4 ⟨rfl, hb⟩
      have HB4 := Lib.hid (HB3.out.trans (hb.mono (HSZ.out v3 HB3.out)))
      have HI4 := Lib.hid (isBuilder_below HI3.out hb)
      clear hb
      clear x0 x1 x2 x3 x4 x5
      obtain ⟨x0, x1, x2, x3, x4, x5⟩ := HC.out v4 HB4.out
      have HL4 : Hid (Calls Tryz.prog 29 #[.string ⟨#[119, 111, 114, 107, 101, 114, 115]⟩, .string s3, .pointer (some ⟨bb, 0, none⟩)] v4 (LineTo bb bb (([] ++ lineB wJob (kname 1)) ++ lineB wSize (Lib.decDigits sz)) wWork (Lib.decDigits wk) v4)) := Lib.hid (by
        have h := line_any bb bb (([] ++ lineB wJob (kname 1)) ++ lineB wSize (Lib.decDigits sz)) wWork (Lib.decDigits wk) v4 HI4.out (by omega) (by decide) (by first | decide | omega) (HSZ.out v4 HB4.out)
        rw [HS3.out] at h
        exact h)
      have hl5 : ((([] ++ lineB wJob (kname 1)) ++ lineB wSize (Lib.decDigits sz)) ++ lineB wWork (Lib.decDigits wk)).length ≤ 40 := by rw [List.length_append, lineB_len]; have h1 : wWork.length = 7 := rfl; have h2 : (Lib.decDigits wk).length ≤ 7 := hv3; omega
      go_wp2_with fail
      refine HL4.out.mono ?_; rintro e v5 ⟨rfl, hI, hb, -⟩
      have HB5 := Lib.hid (HB4.out.trans hb)
      have HI5 := Lib.hid hI
      clear hI hb hl3
      clear x0 x1 x2 x3 x4 x5
      obtain ⟨x0, x1, x2, x3, x4, x5⟩ := HC.out v5 HB5.out
      have HT5 := itoa_at cp (by omega) v5 (HGW.out v5 HB5.out)
      have hv5 : (Lib.decDigits cp).length ≤ 7 := HD.out cp (by omega)
      obtain ⟨s5, hs5⟩ : ∃ s, str (Lib.decDigits cp) = s := ⟨_, rfl⟩
      rw [hs5] at HT5
      have HS5 := Lib.hid hs5; have HT5 := Lib.hid HT5
      clear hs5
      go_wp2_with fail
      refine HT5.out.mono ?_; rintro e v6 ⟨rfl, hb⟩
      have HB6 := Lib.hid (HB5.out.trans (hb.mono (HSZ.out v5 HB5.out)))
      have HI6 := Lib.hid (isBuilder_below HI5.out hb)
      clear hb
      clear x0 x1 x2 x3 x4 x5
      obtain ⟨x0, x1, x2, x3, x4, x5⟩ := HC.out v6 HB6.out
      have HL6 : Hid (Calls Tryz.prog 29 #[.string ⟨#[99, 97, 112]⟩, .string s5, .pointer (some ⟨bb, 0, none⟩)] v6 (LineTo bb bb ((([] ++ lineB wJob (kname 1)) ++ lineB wSize (Lib.decDigits sz)) ++ lineB wWork (Lib.decDigits wk)) wCap (Lib.decDigits cp) v6)) := Lib.hid (by
        have h := line_any bb bb ((([] ++ lineB wJob (kname 1)) ++ lineB wSize (Lib.decDigits sz)) ++ lineB wWork (Lib.decDigits wk)) wCap (Lib.decDigits cp) v6 HI6.out (by omega) (by decide) (by first | decide | omega) (HSZ.out v6 HB6.out)
        rw [HS5.out] at h
        exact h)
      have hl7 : (((([] ++ lineB wJob (kname 1)) ++ lineB wSize (Lib.decDigits sz)) ++ lineB wWork (Lib.decDigits wk)) ++ lineB wCap (Lib.decDigits cp)).length ≤ 52 := by rw [List.length_append, lineB_len]; have h1 : wCap.length = 3 := rfl; have h2 : (Lib.decDigits cp).length ≤ 7 := hv5; omega
      go_wp2_with fail
      refine HL6.out.mono ?_; rintro e v7 ⟨rfl, hI, hb, -⟩
      have HB7 := Lib.hid (HB6.out.trans hb)
      have HI7 := Lib.hid hI
      clear hI hb hl5
      clear x0 x1 x2 x3 x4 x5
      obtain ⟨x0, x1, x2, x3, x4, x5⟩ := HC.out v7 HB7.out
      have HST := HFIN.out (((([] ++ lineB wJob (kname 1)) ++ lineB wSize (Lib.decDigits sz)) ++ lineB wWork (Lib.decDigits wk)) ++ lineB wCap (Lib.decDigits cp)) v7 HI7.out HB7.out
      have HE : Hid ((((([] ++ lineB wJob (kname 1)) ++ lineB wSize (Lib.decDigits sz)) ++ lineB wWork (Lib.decDigits wk)) ++ lineB wCap (Lib.decDigits cp)) = confT ⟨⟨1, sz, su, wk, cp⟩, O⟩) := Lib.hid (by
        unfold confT decB
        simp only [HQ.out, Int.toNat_natCast]
        rw [if_pos hq0]
        simp)
      obtain ⟨sf, hsf⟩ : ∃ s, str (((([] ++ lineB wJob (kname 1)) ++ lineB wSize (Lib.decDigits sz)) ++ lineB wWork (Lib.decDigits wk)) ++ lineB wCap (Lib.decDigits cp)) = s := ⟨_, rfl⟩
      rw [hsf] at HST
      have HST := Lib.hid HST; have HSF := Lib.hid hsf
      clear hsf x0 x1 x2 x3 x4 x5
      go_wp2_with fail
      refine HST.out.mono ?_; rintro e vz ⟨rfl, hb⟩
      have HBZ := Lib.hid (HEND.out _ (HB7.out.trans hb))
      clear hb
      go_wp2_with fail
      go_ret
      exact ⟨by rw [← HE.out, HSF.out]; rfl, HBZ.out⟩
    · have t9 : decide (0 < q) = true := decide_eq_true (by omega)
      have t9' : decide ((0 : Int) < (q : Int)) = true := decide_eq_true (by omega)
      have HT0 : Hid (Calls Tryz.prog 23 #[.int .i64 1] w3 fun e w' => e = .returned (.string ⟨#[109, 111, 116, 105, 102, 115]⟩) ∧ w' = w3) := Lib.hid (kname_any 1 (by decide) (by decide) w3)
      go_wp2_with fail
      refine HT0.out.mono ?_; rintro e u ⟨rfl, hw⟩; obtain rfl := hw.symm
      clear hw
      have HL0 : Hid (Calls Tryz.prog 29 #[.string ⟨#[106, 111, 98]⟩, .string ⟨#[109, 111, 116, 105, 102, 115]⟩, .pointer (some ⟨bb, 0, none⟩)] w3 (LineTo bb bb [] wJob (kname 1) w3)) := Lib.hid (by
        have h := line_any bb bb [] wJob (kname 1) w3 HI0.out (by omega) (by decide) (by first | decide | omega) (HSZ.out w3 HB0.out)
        exact h)
      have hl1 : ([] ++ lineB wJob (kname 1)).length ≤ 11 := by rw [List.length_append, lineB_len]; have h1 : wJob.length = 3 := rfl; have h2 : (kname 1).length ≤ 6 := (by decide); omega
      go_wp2_with fail
      refine HL0.out.mono ?_; rintro e v1 ⟨rfl, hI, hb, -⟩
      have HB1 := Lib.hid (HB0.out.trans hb)
      have HI1 := Lib.hid hI
      clear hI hb hl0
      clear x0 x1 x2 x3 x4 x5
      obtain ⟨x0, x1, x2, x3, x4, x5⟩ := HC.out v1 HB1.out
      have HT1 := itoa_at sz (by omega) v1 (HGW.out v1 HB1.out)
      have hv1 : (Lib.decDigits sz).length ≤ 7 := HD.out sz (by omega)
      obtain ⟨s1, hs1⟩ : ∃ s, str (Lib.decDigits sz) = s := ⟨_, rfl⟩
      rw [hs1] at HT1
      have HS1 := Lib.hid hs1; have HT1 := Lib.hid HT1
      clear hs1
      go_wp2_with fail
      refine HT1.out.mono ?_; rintro e v2 ⟨rfl, hb⟩
      have HB2 := Lib.hid (HB1.out.trans (hb.mono (HSZ.out v1 HB1.out)))
      have HI2 := Lib.hid (isBuilder_below HI1.out hb)
      clear hb
      clear x0 x1 x2 x3 x4 x5
      obtain ⟨x0, x1, x2, x3, x4, x5⟩ := HC.out v2 HB2.out
      have HL2 : Hid (Calls Tryz.prog 29 #[.string ⟨#[115, 105, 122, 101]⟩, .string s1, .pointer (some ⟨bb, 0, none⟩)] v2 (LineTo bb bb ([] ++ lineB wJob (kname 1)) wSize (Lib.decDigits sz) v2)) := Lib.hid (by
        have h := line_any bb bb ([] ++ lineB wJob (kname 1)) wSize (Lib.decDigits sz) v2 HI2.out (by omega) (by decide) (by first | decide | omega) (HSZ.out v2 HB2.out)
        rw [HS1.out] at h
        exact h)
      have hl3 : (([] ++ lineB wJob (kname 1)) ++ lineB wSize (Lib.decDigits sz)).length ≤ 24 := by rw [List.length_append, lineB_len]; have h1 : wSize.length = 4 := rfl; have h2 : (Lib.decDigits sz).length ≤ 7 := hv1; omega
      go_wp2_with fail
      refine HL2.out.mono ?_; rintro e v3 ⟨rfl, hI, hb, -⟩
      have HB3 := Lib.hid (HB2.out.trans hb)
      have HI3 := Lib.hid hI
      clear hI hb hl1
      clear x0 x1 x2 x3 x4 x5
      obtain ⟨x0, x1, x2, x3, x4, x5⟩ := HC.out v3 HB3.out
      have HT3 := progText_any (HGW.out v3 HB3.out) (HKW.out v3 HB3.out) (by rw [HQ.out]; omega) HSM.out
      have hv3 : (progT O).length ≤ 1000 := HPL.out
      obtain ⟨s3, hs3⟩ : ∃ s, str (progT O) = s := ⟨_, rfl⟩
      rw [hs3] at HT3
      have HS3 := Lib.hid hs3; have HT3 := Lib.hid HT3
      clear hs3
      go_wp2_with fail
      refine HT3.out.mono ?_; rintro e v4 ⟨rfl, hb⟩
      have HB4 := Lib.hid (HB3.out.trans (hb.mono (HSZ.out v3 HB3.out)))
      have HI4 := Lib.hid (isBuilder_below HI3.out hb)
      clear hb
      clear x0 x1 x2 x3 x4 x5
      obtain ⟨x0, x1, x2, x3, x4, x5⟩ := HC.out v4 HB4.out
      have HL4 : Hid (Calls Tryz.prog 29 #[.string ⟨#[107, 101, 101, 112]⟩, .string s3, .pointer (some ⟨bb, 0, none⟩)] v4 (LineTo bb bb (([] ++ lineB wJob (kname 1)) ++ lineB wSize (Lib.decDigits sz)) wKeep (progT O) v4)) := Lib.hid (by
        have h := line_any bb bb (([] ++ lineB wJob (kname 1)) ++ lineB wSize (Lib.decDigits sz)) wKeep (progT O) v4 HI4.out (by omega) (by decide) (by first | decide | omega) (HSZ.out v4 HB4.out)
        rw [HS3.out] at h
        exact h)
      have hl5 : ((([] ++ lineB wJob (kname 1)) ++ lineB wSize (Lib.decDigits sz)) ++ lineB wKeep (progT O)).length ≤ 1030 := by rw [List.length_append, lineB_len]; have h1 : wKeep.length = 4 := rfl; have h2 : (progT O).length ≤ 1000 := hv3; omega
      go_wp2_with fail
      refine HL4.out.mono ?_; rintro e v5 ⟨rfl, hI, hb, -⟩
      have HB5 := Lib.hid (HB4.out.trans hb)
      have HI5 := Lib.hid hI
      clear hI hb hl3
      clear x0 x1 x2 x3 x4 x5
      obtain ⟨x0, x1, x2, x3, x4, x5⟩ := HC.out v5 HB5.out
      have HT5 := itoa_at wk (by omega) v5 (HGW.out v5 HB5.out)
      have hv5 : (Lib.decDigits wk).length ≤ 7 := HD.out wk (by omega)
      obtain ⟨s5, hs5⟩ : ∃ s, str (Lib.decDigits wk) = s := ⟨_, rfl⟩
      rw [hs5] at HT5
      have HS5 := Lib.hid hs5; have HT5 := Lib.hid HT5
      clear hs5
      go_wp2_with fail
      refine HT5.out.mono ?_; rintro e v6 ⟨rfl, hb⟩
      have HB6 := Lib.hid (HB5.out.trans (hb.mono (HSZ.out v5 HB5.out)))
      have HI6 := Lib.hid (isBuilder_below HI5.out hb)
      clear hb
      clear x0 x1 x2 x3 x4 x5
      obtain ⟨x0, x1, x2, x3, x4, x5⟩ := HC.out v6 HB6.out
      have HL6 : Hid (Calls Tryz.prog 29 #[.string ⟨#[119, 111, 114, 107, 101, 114, 115]⟩, .string s5, .pointer (some ⟨bb, 0, none⟩)] v6 (LineTo bb bb ((([] ++ lineB wJob (kname 1)) ++ lineB wSize (Lib.decDigits sz)) ++ lineB wKeep (progT O)) wWork (Lib.decDigits wk) v6)) := Lib.hid (by
        have h := line_any bb bb ((([] ++ lineB wJob (kname 1)) ++ lineB wSize (Lib.decDigits sz)) ++ lineB wKeep (progT O)) wWork (Lib.decDigits wk) v6 HI6.out (by omega) (by decide) (by first | decide | omega) (HSZ.out v6 HB6.out)
        rw [HS5.out] at h
        exact h)
      have hl7 : (((([] ++ lineB wJob (kname 1)) ++ lineB wSize (Lib.decDigits sz)) ++ lineB wKeep (progT O)) ++ lineB wWork (Lib.decDigits wk)).length ≤ 1046 := by rw [List.length_append, lineB_len]; have h1 : wWork.length = 7 := rfl; have h2 : (Lib.decDigits wk).length ≤ 7 := hv5; omega
      go_wp2_with fail
      refine HL6.out.mono ?_; rintro e v7 ⟨rfl, hI, hb, -⟩
      have HB7 := Lib.hid (HB6.out.trans hb)
      have HI7 := Lib.hid hI
      clear hI hb hl5
      clear x0 x1 x2 x3 x4 x5
      obtain ⟨x0, x1, x2, x3, x4, x5⟩ := HC.out v7 HB7.out
      have HT7 := itoa_at cp (by omega) v7 (HGW.out v7 HB7.out)
      have hv7 : (Lib.decDigits cp).length ≤ 7 := HD.out cp (by omega)
      obtain ⟨s7, hs7⟩ : ∃ s, str (Lib.decDigits cp) = s := ⟨_, rfl⟩
      rw [hs7] at HT7
      have HS7 := Lib.hid hs7; have HT7 := Lib.hid HT7
      clear hs7
      go_wp2_with fail
      refine HT7.out.mono ?_; rintro e v8 ⟨rfl, hb⟩
      have HB8 := Lib.hid (HB7.out.trans (hb.mono (HSZ.out v7 HB7.out)))
      have HI8 := Lib.hid (isBuilder_below HI7.out hb)
      clear hb
      clear x0 x1 x2 x3 x4 x5
      obtain ⟨x0, x1, x2, x3, x4, x5⟩ := HC.out v8 HB8.out
      have HL8 : Hid (Calls Tryz.prog 29 #[.string ⟨#[99, 97, 112]⟩, .string s7, .pointer (some ⟨bb, 0, none⟩)] v8 (LineTo bb bb (((([] ++ lineB wJob (kname 1)) ++ lineB wSize (Lib.decDigits sz)) ++ lineB wKeep (progT O)) ++ lineB wWork (Lib.decDigits wk)) wCap (Lib.decDigits cp) v8)) := Lib.hid (by
        have h := line_any bb bb (((([] ++ lineB wJob (kname 1)) ++ lineB wSize (Lib.decDigits sz)) ++ lineB wKeep (progT O)) ++ lineB wWork (Lib.decDigits wk)) wCap (Lib.decDigits cp) v8 HI8.out (by omega) (by decide) (by first | decide | omega) (HSZ.out v8 HB8.out)
        rw [HS7.out] at h
        exact h)
      have hl9 : ((((([] ++ lineB wJob (kname 1)) ++ lineB wSize (Lib.decDigits sz)) ++ lineB wKeep (progT O)) ++ lineB wWork (Lib.decDigits wk)) ++ lineB wCap (Lib.decDigits cp)).length ≤ 1058 := by rw [List.length_append, lineB_len]; have h1 : wCap.length = 3 := rfl; have h2 : (Lib.decDigits cp).length ≤ 7 := hv7; omega
      go_wp2_with fail
      refine HL8.out.mono ?_; rintro e v9 ⟨rfl, hI, hb, -⟩
      have HB9 := Lib.hid (HB8.out.trans hb)
      have HI9 := Lib.hid hI
      clear hI hb hl7
      clear x0 x1 x2 x3 x4 x5
      obtain ⟨x0, x1, x2, x3, x4, x5⟩ := HC.out v9 HB9.out
      have HST := HFIN.out ((((([] ++ lineB wJob (kname 1)) ++ lineB wSize (Lib.decDigits sz)) ++ lineB wKeep (progT O)) ++ lineB wWork (Lib.decDigits wk)) ++ lineB wCap (Lib.decDigits cp)) v9 HI9.out HB9.out
      have HE : Hid (((((([] ++ lineB wJob (kname 1)) ++ lineB wSize (Lib.decDigits sz)) ++ lineB wKeep (progT O)) ++ lineB wWork (Lib.decDigits wk)) ++ lineB wCap (Lib.decDigits cp)) = confT ⟨⟨1, sz, su, wk, cp⟩, O⟩) := Lib.hid (by
        unfold confT decB
        simp only [HQ.out, Int.toNat_natCast]
        rw [if_neg (show ¬ q = 0 by omega)]
        simp)
      obtain ⟨sf, hsf⟩ : ∃ s, str ((((([] ++ lineB wJob (kname 1)) ++ lineB wSize (Lib.decDigits sz)) ++ lineB wKeep (progT O)) ++ lineB wWork (Lib.decDigits wk)) ++ lineB wCap (Lib.decDigits cp)) = s := ⟨_, rfl⟩
      rw [hsf] at HST
      have HST := Lib.hid HST; have HSF := Lib.hid hsf
      clear hsf x0 x1 x2 x3 x4 x5
      go_wp2_with fail
      refine HST.out.mono ?_; rintro e vz ⟨rfl, hb⟩
      have HBZ := Lib.hid (HEND.out _ (HB9.out.trans hb))
      clear hb
      go_wp2_with fail
      go_ret
      exact ⟨by rw [← HE.out, HSF.out]; rfl, HBZ.out⟩
  · by_cases hq0 : q = 0
    · have t9 : decide (0 < q) = false := decide_eq_false (by omega)
      have t9' : decide ((0 : Int) < (q : Int)) = false := decide_eq_false (by omega)
      have HT0 : Hid (Calls Tryz.prog 23 #[.int .i64 2] w3 fun e w' => e = .returned (.string ⟨#[99, 108, 105, 113, 117, 101, 115]⟩) ∧ w' = w3) := Lib.hid (kname_any 2 (by decide) (by decide) w3)
      go_wp2_with fail
      refine HT0.out.mono ?_; rintro e u ⟨rfl, hw⟩; obtain rfl := hw.symm
      clear hw
      have HL0 : Hid (Calls Tryz.prog 29 #[.string ⟨#[106, 111, 98]⟩, .string ⟨#[99, 108, 105, 113, 117, 101, 115]⟩, .pointer (some ⟨bb, 0, none⟩)] w3 (LineTo bb bb [] wJob (kname 2) w3)) := Lib.hid (by
        have h := line_any bb bb [] wJob (kname 2) w3 HI0.out (by omega) (by decide) (by first | decide | omega) (HSZ.out w3 HB0.out)
        exact h)
      have hl1 : ([] ++ lineB wJob (kname 2)).length ≤ 12 := by rw [List.length_append, lineB_len]; have h1 : wJob.length = 3 := rfl; have h2 : (kname 2).length ≤ 7 := (by decide); omega
      go_wp2_with fail
      refine HL0.out.mono ?_; rintro e v1 ⟨rfl, hI, hb, -⟩
      have HB1 := Lib.hid (HB0.out.trans hb)
      have HI1 := Lib.hid hI
      clear hI hb hl0
      clear x0 x1 x2 x3 x4 x5
      obtain ⟨x0, x1, x2, x3, x4, x5⟩ := HC.out v1 HB1.out
      have HT1 := itoa_at sz (by omega) v1 (HGW.out v1 HB1.out)
      have hv1 : (Lib.decDigits sz).length ≤ 7 := HD.out sz (by omega)
      obtain ⟨s1, hs1⟩ : ∃ s, str (Lib.decDigits sz) = s := ⟨_, rfl⟩
      rw [hs1] at HT1
      have HS1 := Lib.hid hs1; have HT1 := Lib.hid HT1
      clear hs1
      go_wp2_with fail
      refine HT1.out.mono ?_; rintro e v2 ⟨rfl, hb⟩
      have HB2 := Lib.hid (HB1.out.trans (hb.mono (HSZ.out v1 HB1.out)))
      have HI2 := Lib.hid (isBuilder_below HI1.out hb)
      clear hb
      clear x0 x1 x2 x3 x4 x5
      obtain ⟨x0, x1, x2, x3, x4, x5⟩ := HC.out v2 HB2.out
      have HL2 : Hid (Calls Tryz.prog 29 #[.string ⟨#[115, 105, 122, 101]⟩, .string s1, .pointer (some ⟨bb, 0, none⟩)] v2 (LineTo bb bb ([] ++ lineB wJob (kname 2)) wSize (Lib.decDigits sz) v2)) := Lib.hid (by
        have h := line_any bb bb ([] ++ lineB wJob (kname 2)) wSize (Lib.decDigits sz) v2 HI2.out (by omega) (by decide) (by first | decide | omega) (HSZ.out v2 HB2.out)
        rw [HS1.out] at h
        exact h)
      have hl3 : (([] ++ lineB wJob (kname 2)) ++ lineB wSize (Lib.decDigits sz)).length ≤ 25 := by rw [List.length_append, lineB_len]; have h1 : wSize.length = 4 := rfl; have h2 : (Lib.decDigits sz).length ≤ 7 := hv1; omega
      go_wp2_with fail
      refine HL2.out.mono ?_; rintro e v3 ⟨rfl, hI, hb, -⟩
      have HB3 := Lib.hid (HB2.out.trans hb)
      have HI3 := Lib.hid hI
      clear hI hb hl1
      clear x0 x1 x2 x3 x4 x5
      obtain ⟨x0, x1, x2, x3, x4, x5⟩ := HC.out v3 HB3.out
      have HT3 := itoa_at wk (by omega) v3 (HGW.out v3 HB3.out)
      have hv3 : (Lib.decDigits wk).length ≤ 7 := HD.out wk (by omega)
      obtain ⟨s3, hs3⟩ : ∃ s, str (Lib.decDigits wk) = s := ⟨_, rfl⟩
      rw [hs3] at HT3
      have HS3 := Lib.hid hs3; have HT3 := Lib.hid HT3
      clear hs3
      go_wp2_with fail
      refine HT3.out.mono ?_; rintro e v4 ⟨rfl, hb⟩
      have HB4 := Lib.hid (HB3.out.trans (hb.mono (HSZ.out v3 HB3.out)))
      have HI4 := Lib.hid (isBuilder_below HI3.out hb)
      clear hb
      clear x0 x1 x2 x3 x4 x5
      obtain ⟨x0, x1, x2, x3, x4, x5⟩ := HC.out v4 HB4.out
      have HL4 : Hid (Calls Tryz.prog 29 #[.string ⟨#[119, 111, 114, 107, 101, 114, 115]⟩, .string s3, .pointer (some ⟨bb, 0, none⟩)] v4 (LineTo bb bb (([] ++ lineB wJob (kname 2)) ++ lineB wSize (Lib.decDigits sz)) wWork (Lib.decDigits wk) v4)) := Lib.hid (by
        have h := line_any bb bb (([] ++ lineB wJob (kname 2)) ++ lineB wSize (Lib.decDigits sz)) wWork (Lib.decDigits wk) v4 HI4.out (by omega) (by decide) (by first | decide | omega) (HSZ.out v4 HB4.out)
        rw [HS3.out] at h
        exact h)
      have hl5 : ((([] ++ lineB wJob (kname 2)) ++ lineB wSize (Lib.decDigits sz)) ++ lineB wWork (Lib.decDigits wk)).length ≤ 41 := by rw [List.length_append, lineB_len]; have h1 : wWork.length = 7 := rfl; have h2 : (Lib.decDigits wk).length ≤ 7 := hv3; omega
      go_wp2_with fail
      refine HL4.out.mono ?_; rintro e v5 ⟨rfl, hI, hb, -⟩
      have HB5 := Lib.hid (HB4.out.trans hb)
      have HI5 := Lib.hid hI
      clear hI hb hl3
      clear x0 x1 x2 x3 x4 x5
      obtain ⟨x0, x1, x2, x3, x4, x5⟩ := HC.out v5 HB5.out
      have HT5 := itoa_at cp (by omega) v5 (HGW.out v5 HB5.out)
      have hv5 : (Lib.decDigits cp).length ≤ 7 := HD.out cp (by omega)
      obtain ⟨s5, hs5⟩ : ∃ s, str (Lib.decDigits cp) = s := ⟨_, rfl⟩
      rw [hs5] at HT5
      have HS5 := Lib.hid hs5; have HT5 := Lib.hid HT5
      clear hs5
      go_wp2_with fail
      refine HT5.out.mono ?_; rintro e v6 ⟨rfl, hb⟩
      have HB6 := Lib.hid (HB5.out.trans (hb.mono (HSZ.out v5 HB5.out)))
      have HI6 := Lib.hid (isBuilder_below HI5.out hb)
      clear hb
      clear x0 x1 x2 x3 x4 x5
      obtain ⟨x0, x1, x2, x3, x4, x5⟩ := HC.out v6 HB6.out
      have HL6 : Hid (Calls Tryz.prog 29 #[.string ⟨#[99, 97, 112]⟩, .string s5, .pointer (some ⟨bb, 0, none⟩)] v6 (LineTo bb bb ((([] ++ lineB wJob (kname 2)) ++ lineB wSize (Lib.decDigits sz)) ++ lineB wWork (Lib.decDigits wk)) wCap (Lib.decDigits cp) v6)) := Lib.hid (by
        have h := line_any bb bb ((([] ++ lineB wJob (kname 2)) ++ lineB wSize (Lib.decDigits sz)) ++ lineB wWork (Lib.decDigits wk)) wCap (Lib.decDigits cp) v6 HI6.out (by omega) (by decide) (by first | decide | omega) (HSZ.out v6 HB6.out)
        rw [HS5.out] at h
        exact h)
      have hl7 : (((([] ++ lineB wJob (kname 2)) ++ lineB wSize (Lib.decDigits sz)) ++ lineB wWork (Lib.decDigits wk)) ++ lineB wCap (Lib.decDigits cp)).length ≤ 53 := by rw [List.length_append, lineB_len]; have h1 : wCap.length = 3 := rfl; have h2 : (Lib.decDigits cp).length ≤ 7 := hv5; omega
      go_wp2_with fail
      refine HL6.out.mono ?_; rintro e v7 ⟨rfl, hI, hb, -⟩
      have HB7 := Lib.hid (HB6.out.trans hb)
      have HI7 := Lib.hid hI
      clear hI hb hl5
      clear x0 x1 x2 x3 x4 x5
      obtain ⟨x0, x1, x2, x3, x4, x5⟩ := HC.out v7 HB7.out
      have HST := HFIN.out (((([] ++ lineB wJob (kname 2)) ++ lineB wSize (Lib.decDigits sz)) ++ lineB wWork (Lib.decDigits wk)) ++ lineB wCap (Lib.decDigits cp)) v7 HI7.out HB7.out
      have HE : Hid ((((([] ++ lineB wJob (kname 2)) ++ lineB wSize (Lib.decDigits sz)) ++ lineB wWork (Lib.decDigits wk)) ++ lineB wCap (Lib.decDigits cp)) = confT ⟨⟨2, sz, su, wk, cp⟩, O⟩) := Lib.hid (by
        unfold confT decB
        simp only [HQ.out, Int.toNat_natCast]
        rw [if_pos hq0]
        simp)
      obtain ⟨sf, hsf⟩ : ∃ s, str (((([] ++ lineB wJob (kname 2)) ++ lineB wSize (Lib.decDigits sz)) ++ lineB wWork (Lib.decDigits wk)) ++ lineB wCap (Lib.decDigits cp)) = s := ⟨_, rfl⟩
      rw [hsf] at HST
      have HST := Lib.hid HST; have HSF := Lib.hid hsf
      clear hsf x0 x1 x2 x3 x4 x5
      go_wp2_with fail
      refine HST.out.mono ?_; rintro e vz ⟨rfl, hb⟩
      have HBZ := Lib.hid (HEND.out _ (HB7.out.trans hb))
      clear hb
      go_wp2_with fail
      go_ret
      exact ⟨by rw [← HE.out, HSF.out]; rfl, HBZ.out⟩
    · have t9 : decide (0 < q) = true := decide_eq_true (by omega)
      have t9' : decide ((0 : Int) < (q : Int)) = true := decide_eq_true (by omega)
      have HT0 : Hid (Calls Tryz.prog 23 #[.int .i64 2] w3 fun e w' => e = .returned (.string ⟨#[99, 108, 105, 113, 117, 101, 115]⟩) ∧ w' = w3) := Lib.hid (kname_any 2 (by decide) (by decide) w3)
      go_wp2_with fail
      refine HT0.out.mono ?_; rintro e u ⟨rfl, hw⟩; obtain rfl := hw.symm
      clear hw
      have HL0 : Hid (Calls Tryz.prog 29 #[.string ⟨#[106, 111, 98]⟩, .string ⟨#[99, 108, 105, 113, 117, 101, 115]⟩, .pointer (some ⟨bb, 0, none⟩)] w3 (LineTo bb bb [] wJob (kname 2) w3)) := Lib.hid (by
        have h := line_any bb bb [] wJob (kname 2) w3 HI0.out (by omega) (by decide) (by first | decide | omega) (HSZ.out w3 HB0.out)
        exact h)
      have hl1 : ([] ++ lineB wJob (kname 2)).length ≤ 12 := by rw [List.length_append, lineB_len]; have h1 : wJob.length = 3 := rfl; have h2 : (kname 2).length ≤ 7 := (by decide); omega
      go_wp2_with fail
      refine HL0.out.mono ?_; rintro e v1 ⟨rfl, hI, hb, -⟩
      have HB1 := Lib.hid (HB0.out.trans hb)
      have HI1 := Lib.hid hI
      clear hI hb hl0
      clear x0 x1 x2 x3 x4 x5
      obtain ⟨x0, x1, x2, x3, x4, x5⟩ := HC.out v1 HB1.out
      have HT1 := itoa_at sz (by omega) v1 (HGW.out v1 HB1.out)
      have hv1 : (Lib.decDigits sz).length ≤ 7 := HD.out sz (by omega)
      obtain ⟨s1, hs1⟩ : ∃ s, str (Lib.decDigits sz) = s := ⟨_, rfl⟩
      rw [hs1] at HT1
      have HS1 := Lib.hid hs1; have HT1 := Lib.hid HT1
      clear hs1
      go_wp2_with fail
      refine HT1.out.mono ?_; rintro e v2 ⟨rfl, hb⟩
      have HB2 := Lib.hid (HB1.out.trans (hb.mono (HSZ.out v1 HB1.out)))
      have HI2 := Lib.hid (isBuilder_below HI1.out hb)
      clear hb
      clear x0 x1 x2 x3 x4 x5
      obtain ⟨x0, x1, x2, x3, x4, x5⟩ := HC.out v2 HB2.out
      have HL2 : Hid (Calls Tryz.prog 29 #[.string ⟨#[115, 105, 122, 101]⟩, .string s1, .pointer (some ⟨bb, 0, none⟩)] v2 (LineTo bb bb ([] ++ lineB wJob (kname 2)) wSize (Lib.decDigits sz) v2)) := Lib.hid (by
        have h := line_any bb bb ([] ++ lineB wJob (kname 2)) wSize (Lib.decDigits sz) v2 HI2.out (by omega) (by decide) (by first | decide | omega) (HSZ.out v2 HB2.out)
        rw [HS1.out] at h
        exact h)
      have hl3 : (([] ++ lineB wJob (kname 2)) ++ lineB wSize (Lib.decDigits sz)).length ≤ 25 := by rw [List.length_append, lineB_len]; have h1 : wSize.length = 4 := rfl; have h2 : (Lib.decDigits sz).length ≤ 7 := hv1; omega
      go_wp2_with fail
      refine HL2.out.mono ?_; rintro e v3 ⟨rfl, hI, hb, -⟩
      have HB3 := Lib.hid (HB2.out.trans hb)
      have HI3 := Lib.hid hI
      clear hI hb hl1
      clear x0 x1 x2 x3 x4 x5
      obtain ⟨x0, x1, x2, x3, x4, x5⟩ := HC.out v3 HB3.out
      have HT3 := progText_any (HGW.out v3 HB3.out) (HKW.out v3 HB3.out) (by rw [HQ.out]; omega) HSM.out
      have hv3 : (progT O).length ≤ 1000 := HPL.out
      obtain ⟨s3, hs3⟩ : ∃ s, str (progT O) = s := ⟨_, rfl⟩
      rw [hs3] at HT3
      have HS3 := Lib.hid hs3; have HT3 := Lib.hid HT3
      clear hs3
      go_wp2_with fail
      refine HT3.out.mono ?_; rintro e v4 ⟨rfl, hb⟩
      have HB4 := Lib.hid (HB3.out.trans (hb.mono (HSZ.out v3 HB3.out)))
      have HI4 := Lib.hid (isBuilder_below HI3.out hb)
      clear hb
      clear x0 x1 x2 x3 x4 x5
      obtain ⟨x0, x1, x2, x3, x4, x5⟩ := HC.out v4 HB4.out
      have HL4 : Hid (Calls Tryz.prog 29 #[.string ⟨#[107, 101, 101, 112]⟩, .string s3, .pointer (some ⟨bb, 0, none⟩)] v4 (LineTo bb bb (([] ++ lineB wJob (kname 2)) ++ lineB wSize (Lib.decDigits sz)) wKeep (progT O) v4)) := Lib.hid (by
        have h := line_any bb bb (([] ++ lineB wJob (kname 2)) ++ lineB wSize (Lib.decDigits sz)) wKeep (progT O) v4 HI4.out (by omega) (by decide) (by first | decide | omega) (HSZ.out v4 HB4.out)
        rw [HS3.out] at h
        exact h)
      have hl5 : ((([] ++ lineB wJob (kname 2)) ++ lineB wSize (Lib.decDigits sz)) ++ lineB wKeep (progT O)).length ≤ 1031 := by rw [List.length_append, lineB_len]; have h1 : wKeep.length = 4 := rfl; have h2 : (progT O).length ≤ 1000 := hv3; omega
      go_wp2_with fail
      refine HL4.out.mono ?_; rintro e v5 ⟨rfl, hI, hb, -⟩
      have HB5 := Lib.hid (HB4.out.trans hb)
      have HI5 := Lib.hid hI
      clear hI hb hl3
      clear x0 x1 x2 x3 x4 x5
      obtain ⟨x0, x1, x2, x3, x4, x5⟩ := HC.out v5 HB5.out
      have HT5 := itoa_at wk (by omega) v5 (HGW.out v5 HB5.out)
      have hv5 : (Lib.decDigits wk).length ≤ 7 := HD.out wk (by omega)
      obtain ⟨s5, hs5⟩ : ∃ s, str (Lib.decDigits wk) = s := ⟨_, rfl⟩
      rw [hs5] at HT5
      have HS5 := Lib.hid hs5; have HT5 := Lib.hid HT5
      clear hs5
      go_wp2_with fail
      refine HT5.out.mono ?_; rintro e v6 ⟨rfl, hb⟩
      have HB6 := Lib.hid (HB5.out.trans (hb.mono (HSZ.out v5 HB5.out)))
      have HI6 := Lib.hid (isBuilder_below HI5.out hb)
      clear hb
      clear x0 x1 x2 x3 x4 x5
      obtain ⟨x0, x1, x2, x3, x4, x5⟩ := HC.out v6 HB6.out
      have HL6 : Hid (Calls Tryz.prog 29 #[.string ⟨#[119, 111, 114, 107, 101, 114, 115]⟩, .string s5, .pointer (some ⟨bb, 0, none⟩)] v6 (LineTo bb bb ((([] ++ lineB wJob (kname 2)) ++ lineB wSize (Lib.decDigits sz)) ++ lineB wKeep (progT O)) wWork (Lib.decDigits wk) v6)) := Lib.hid (by
        have h := line_any bb bb ((([] ++ lineB wJob (kname 2)) ++ lineB wSize (Lib.decDigits sz)) ++ lineB wKeep (progT O)) wWork (Lib.decDigits wk) v6 HI6.out (by omega) (by decide) (by first | decide | omega) (HSZ.out v6 HB6.out)
        rw [HS5.out] at h
        exact h)
      have hl7 : (((([] ++ lineB wJob (kname 2)) ++ lineB wSize (Lib.decDigits sz)) ++ lineB wKeep (progT O)) ++ lineB wWork (Lib.decDigits wk)).length ≤ 1047 := by rw [List.length_append, lineB_len]; have h1 : wWork.length = 7 := rfl; have h2 : (Lib.decDigits wk).length ≤ 7 := hv5; omega
      go_wp2_with fail
      refine HL6.out.mono ?_; rintro e v7 ⟨rfl, hI, hb, -⟩
      have HB7 := Lib.hid (HB6.out.trans hb)
      have HI7 := Lib.hid hI
      clear hI hb hl5
      clear x0 x1 x2 x3 x4 x5
      obtain ⟨x0, x1, x2, x3, x4, x5⟩ := HC.out v7 HB7.out
      have HT7 := itoa_at cp (by omega) v7 (HGW.out v7 HB7.out)
      have hv7 : (Lib.decDigits cp).length ≤ 7 := HD.out cp (by omega)
      obtain ⟨s7, hs7⟩ : ∃ s, str (Lib.decDigits cp) = s := ⟨_, rfl⟩
      rw [hs7] at HT7
      have HS7 := Lib.hid hs7; have HT7 := Lib.hid HT7
      clear hs7
      go_wp2_with fail
      refine HT7.out.mono ?_; rintro e v8 ⟨rfl, hb⟩
      have HB8 := Lib.hid (HB7.out.trans (hb.mono (HSZ.out v7 HB7.out)))
      have HI8 := Lib.hid (isBuilder_below HI7.out hb)
      clear hb
      clear x0 x1 x2 x3 x4 x5
      obtain ⟨x0, x1, x2, x3, x4, x5⟩ := HC.out v8 HB8.out
      have HL8 : Hid (Calls Tryz.prog 29 #[.string ⟨#[99, 97, 112]⟩, .string s7, .pointer (some ⟨bb, 0, none⟩)] v8 (LineTo bb bb (((([] ++ lineB wJob (kname 2)) ++ lineB wSize (Lib.decDigits sz)) ++ lineB wKeep (progT O)) ++ lineB wWork (Lib.decDigits wk)) wCap (Lib.decDigits cp) v8)) := Lib.hid (by
        have h := line_any bb bb (((([] ++ lineB wJob (kname 2)) ++ lineB wSize (Lib.decDigits sz)) ++ lineB wKeep (progT O)) ++ lineB wWork (Lib.decDigits wk)) wCap (Lib.decDigits cp) v8 HI8.out (by omega) (by decide) (by first | decide | omega) (HSZ.out v8 HB8.out)
        rw [HS7.out] at h
        exact h)
      have hl9 : ((((([] ++ lineB wJob (kname 2)) ++ lineB wSize (Lib.decDigits sz)) ++ lineB wKeep (progT O)) ++ lineB wWork (Lib.decDigits wk)) ++ lineB wCap (Lib.decDigits cp)).length ≤ 1059 := by rw [List.length_append, lineB_len]; have h1 : wCap.length = 3 := rfl; have h2 : (Lib.decDigits cp).length ≤ 7 := hv7; omega
      go_wp2_with fail
      refine HL8.out.mono ?_; rintro e v9 ⟨rfl, hI, hb, -⟩
      have HB9 := Lib.hid (HB8.out.trans hb)
      have HI9 := Lib.hid hI
      clear hI hb hl7
      clear x0 x1 x2 x3 x4 x5
      obtain ⟨x0, x1, x2, x3, x4, x5⟩ := HC.out v9 HB9.out
      have HST := HFIN.out ((((([] ++ lineB wJob (kname 2)) ++ lineB wSize (Lib.decDigits sz)) ++ lineB wKeep (progT O)) ++ lineB wWork (Lib.decDigits wk)) ++ lineB wCap (Lib.decDigits cp)) v9 HI9.out HB9.out
      have HE : Hid (((((([] ++ lineB wJob (kname 2)) ++ lineB wSize (Lib.decDigits sz)) ++ lineB wKeep (progT O)) ++ lineB wWork (Lib.decDigits wk)) ++ lineB wCap (Lib.decDigits cp)) = confT ⟨⟨2, sz, su, wk, cp⟩, O⟩) := Lib.hid (by
        unfold confT decB
        simp only [HQ.out, Int.toNat_natCast]
        rw [if_neg (show ¬ q = 0 by omega)]
        simp)
      obtain ⟨sf, hsf⟩ : ∃ s, str ((((([] ++ lineB wJob (kname 2)) ++ lineB wSize (Lib.decDigits sz)) ++ lineB wKeep (progT O)) ++ lineB wWork (Lib.decDigits wk)) ++ lineB wCap (Lib.decDigits cp)) = s := ⟨_, rfl⟩
      rw [hsf] at HST
      have HST := Lib.hid HST; have HSF := Lib.hid hsf
      clear hsf x0 x1 x2 x3 x4 x5
      go_wp2_with fail
      refine HST.out.mono ?_; rintro e vz ⟨rfl, hb⟩
      have HBZ := Lib.hid (HEND.out _ (HB9.out.trans hb))
      clear hb
      go_wp2_with fail
      go_ret
      exact ⟨by rw [← HE.out, HSF.out]; rfl, HBZ.out⟩
  · by_cases hq0 : q = 0
    · have t9 : decide (0 < q) = false := decide_eq_false (by omega)
      have t9' : decide ((0 : Int) < (q : Int)) = false := decide_eq_false (by omega)
      have HT0 : Hid (Calls Tryz.prog 23 #[.int .i64 3] w3 fun e w' => e = .returned (.string ⟨#[102, 115, 109]⟩) ∧ w' = w3) := Lib.hid (kname_any 3 (by decide) (by decide) w3)
      go_wp2_with fail
      refine HT0.out.mono ?_; rintro e u ⟨rfl, hw⟩; obtain rfl := hw.symm
      clear hw
      have HL0 : Hid (Calls Tryz.prog 29 #[.string ⟨#[106, 111, 98]⟩, .string ⟨#[102, 115, 109]⟩, .pointer (some ⟨bb, 0, none⟩)] w3 (LineTo bb bb [] wJob (kname 3) w3)) := Lib.hid (by
        have h := line_any bb bb [] wJob (kname 3) w3 HI0.out (by omega) (by decide) (by first | decide | omega) (HSZ.out w3 HB0.out)
        exact h)
      have hl1 : ([] ++ lineB wJob (kname 3)).length ≤ 8 := by rw [List.length_append, lineB_len]; have h1 : wJob.length = 3 := rfl; have h2 : (kname 3).length ≤ 3 := (by decide); omega
      go_wp2_with fail
      refine HL0.out.mono ?_; rintro e v1 ⟨rfl, hI, hb, -⟩
      have HB1 := Lib.hid (HB0.out.trans hb)
      have HI1 := Lib.hid hI
      clear hI hb hl0
      clear x0 x1 x2 x3 x4 x5
      obtain ⟨x0, x1, x2, x3, x4, x5⟩ := HC.out v1 HB1.out
      have HT1 := itoa_at sz (by omega) v1 (HGW.out v1 HB1.out)
      have hv1 : (Lib.decDigits sz).length ≤ 7 := HD.out sz (by omega)
      obtain ⟨s1, hs1⟩ : ∃ s, str (Lib.decDigits sz) = s := ⟨_, rfl⟩
      rw [hs1] at HT1
      have HS1 := Lib.hid hs1; have HT1 := Lib.hid HT1
      clear hs1
      go_wp2_with fail
      refine HT1.out.mono ?_; rintro e v2 ⟨rfl, hb⟩
      have HB2 := Lib.hid (HB1.out.trans (hb.mono (HSZ.out v1 HB1.out)))
      have HI2 := Lib.hid (isBuilder_below HI1.out hb)
      clear hb
      clear x0 x1 x2 x3 x4 x5
      obtain ⟨x0, x1, x2, x3, x4, x5⟩ := HC.out v2 HB2.out
      have HL2 : Hid (Calls Tryz.prog 29 #[.string ⟨#[115, 105, 122, 101]⟩, .string s1, .pointer (some ⟨bb, 0, none⟩)] v2 (LineTo bb bb ([] ++ lineB wJob (kname 3)) wSize (Lib.decDigits sz) v2)) := Lib.hid (by
        have h := line_any bb bb ([] ++ lineB wJob (kname 3)) wSize (Lib.decDigits sz) v2 HI2.out (by omega) (by decide) (by first | decide | omega) (HSZ.out v2 HB2.out)
        rw [HS1.out] at h
        exact h)
      have hl3 : (([] ++ lineB wJob (kname 3)) ++ lineB wSize (Lib.decDigits sz)).length ≤ 21 := by rw [List.length_append, lineB_len]; have h1 : wSize.length = 4 := rfl; have h2 : (Lib.decDigits sz).length ≤ 7 := hv1; omega
      go_wp2_with fail
      refine HL2.out.mono ?_; rintro e v3 ⟨rfl, hI, hb, -⟩
      have HB3 := Lib.hid (HB2.out.trans hb)
      have HI3 := Lib.hid hI
      clear hI hb hl1
      clear x0 x1 x2 x3 x4 x5
      obtain ⟨x0, x1, x2, x3, x4, x5⟩ := HC.out v3 HB3.out
      have HT3 := itoa_at su (by omega) v3 (HGW.out v3 HB3.out)
      have hv3 : (Lib.decDigits su).length ≤ 7 := HD.out su (by omega)
      obtain ⟨s3, hs3⟩ : ∃ s, str (Lib.decDigits su) = s := ⟨_, rfl⟩
      rw [hs3] at HT3
      have HS3 := Lib.hid hs3; have HT3 := Lib.hid HT3
      clear hs3
      go_wp2_with fail
      refine HT3.out.mono ?_; rintro e v4 ⟨rfl, hb⟩
      have HB4 := Lib.hid (HB3.out.trans (hb.mono (HSZ.out v3 HB3.out)))
      have HI4 := Lib.hid (isBuilder_below HI3.out hb)
      clear hb
      clear x0 x1 x2 x3 x4 x5
      obtain ⟨x0, x1, x2, x3, x4, x5⟩ := HC.out v4 HB4.out
      have HL4 : Hid (Calls Tryz.prog 29 #[.string ⟨#[115, 117, 112, 112, 111, 114, 116]⟩, .string s3, .pointer (some ⟨bb, 0, none⟩)] v4 (LineTo bb bb (([] ++ lineB wJob (kname 3)) ++ lineB wSize (Lib.decDigits sz)) wSup (Lib.decDigits su) v4)) := Lib.hid (by
        have h := line_any bb bb (([] ++ lineB wJob (kname 3)) ++ lineB wSize (Lib.decDigits sz)) wSup (Lib.decDigits su) v4 HI4.out (by omega) (by decide) (by first | decide | omega) (HSZ.out v4 HB4.out)
        rw [HS3.out] at h
        exact h)
      have hl5 : ((([] ++ lineB wJob (kname 3)) ++ lineB wSize (Lib.decDigits sz)) ++ lineB wSup (Lib.decDigits su)).length ≤ 37 := by rw [List.length_append, lineB_len]; have h1 : wSup.length = 7 := rfl; have h2 : (Lib.decDigits su).length ≤ 7 := hv3; omega
      go_wp2_with fail
      refine HL4.out.mono ?_; rintro e v5 ⟨rfl, hI, hb, -⟩
      have HB5 := Lib.hid (HB4.out.trans hb)
      have HI5 := Lib.hid hI
      clear hI hb hl3
      clear x0 x1 x2 x3 x4 x5
      obtain ⟨x0, x1, x2, x3, x4, x5⟩ := HC.out v5 HB5.out
      have HT5 := itoa_at wk (by omega) v5 (HGW.out v5 HB5.out)
      have hv5 : (Lib.decDigits wk).length ≤ 7 := HD.out wk (by omega)
      obtain ⟨s5, hs5⟩ : ∃ s, str (Lib.decDigits wk) = s := ⟨_, rfl⟩
      rw [hs5] at HT5
      have HS5 := Lib.hid hs5; have HT5 := Lib.hid HT5
      clear hs5
      go_wp2_with fail
      refine HT5.out.mono ?_; rintro e v6 ⟨rfl, hb⟩
      have HB6 := Lib.hid (HB5.out.trans (hb.mono (HSZ.out v5 HB5.out)))
      have HI6 := Lib.hid (isBuilder_below HI5.out hb)
      clear hb
      clear x0 x1 x2 x3 x4 x5
      obtain ⟨x0, x1, x2, x3, x4, x5⟩ := HC.out v6 HB6.out
      have HL6 : Hid (Calls Tryz.prog 29 #[.string ⟨#[119, 111, 114, 107, 101, 114, 115]⟩, .string s5, .pointer (some ⟨bb, 0, none⟩)] v6 (LineTo bb bb ((([] ++ lineB wJob (kname 3)) ++ lineB wSize (Lib.decDigits sz)) ++ lineB wSup (Lib.decDigits su)) wWork (Lib.decDigits wk) v6)) := Lib.hid (by
        have h := line_any bb bb ((([] ++ lineB wJob (kname 3)) ++ lineB wSize (Lib.decDigits sz)) ++ lineB wSup (Lib.decDigits su)) wWork (Lib.decDigits wk) v6 HI6.out (by omega) (by decide) (by first | decide | omega) (HSZ.out v6 HB6.out)
        rw [HS5.out] at h
        exact h)
      have hl7 : (((([] ++ lineB wJob (kname 3)) ++ lineB wSize (Lib.decDigits sz)) ++ lineB wSup (Lib.decDigits su)) ++ lineB wWork (Lib.decDigits wk)).length ≤ 53 := by rw [List.length_append, lineB_len]; have h1 : wWork.length = 7 := rfl; have h2 : (Lib.decDigits wk).length ≤ 7 := hv5; omega
      go_wp2_with fail
      refine HL6.out.mono ?_; rintro e v7 ⟨rfl, hI, hb, -⟩
      have HB7 := Lib.hid (HB6.out.trans hb)
      have HI7 := Lib.hid hI
      clear hI hb hl5
      clear x0 x1 x2 x3 x4 x5
      obtain ⟨x0, x1, x2, x3, x4, x5⟩ := HC.out v7 HB7.out
      have HT7 := itoa_at cp (by omega) v7 (HGW.out v7 HB7.out)
      have hv7 : (Lib.decDigits cp).length ≤ 7 := HD.out cp (by omega)
      obtain ⟨s7, hs7⟩ : ∃ s, str (Lib.decDigits cp) = s := ⟨_, rfl⟩
      rw [hs7] at HT7
      have HS7 := Lib.hid hs7; have HT7 := Lib.hid HT7
      clear hs7
      go_wp2_with fail
      refine HT7.out.mono ?_; rintro e v8 ⟨rfl, hb⟩
      have HB8 := Lib.hid (HB7.out.trans (hb.mono (HSZ.out v7 HB7.out)))
      have HI8 := Lib.hid (isBuilder_below HI7.out hb)
      clear hb
      clear x0 x1 x2 x3 x4 x5
      obtain ⟨x0, x1, x2, x3, x4, x5⟩ := HC.out v8 HB8.out
      have HL8 : Hid (Calls Tryz.prog 29 #[.string ⟨#[99, 97, 112]⟩, .string s7, .pointer (some ⟨bb, 0, none⟩)] v8 (LineTo bb bb (((([] ++ lineB wJob (kname 3)) ++ lineB wSize (Lib.decDigits sz)) ++ lineB wSup (Lib.decDigits su)) ++ lineB wWork (Lib.decDigits wk)) wCap (Lib.decDigits cp) v8)) := Lib.hid (by
        have h := line_any bb bb (((([] ++ lineB wJob (kname 3)) ++ lineB wSize (Lib.decDigits sz)) ++ lineB wSup (Lib.decDigits su)) ++ lineB wWork (Lib.decDigits wk)) wCap (Lib.decDigits cp) v8 HI8.out (by omega) (by decide) (by first | decide | omega) (HSZ.out v8 HB8.out)
        rw [HS7.out] at h
        exact h)
      have hl9 : ((((([] ++ lineB wJob (kname 3)) ++ lineB wSize (Lib.decDigits sz)) ++ lineB wSup (Lib.decDigits su)) ++ lineB wWork (Lib.decDigits wk)) ++ lineB wCap (Lib.decDigits cp)).length ≤ 65 := by rw [List.length_append, lineB_len]; have h1 : wCap.length = 3 := rfl; have h2 : (Lib.decDigits cp).length ≤ 7 := hv7; omega
      go_wp2_with fail
      refine HL8.out.mono ?_; rintro e v9 ⟨rfl, hI, hb, -⟩
      have HB9 := Lib.hid (HB8.out.trans hb)
      have HI9 := Lib.hid hI
      clear hI hb hl7
      clear x0 x1 x2 x3 x4 x5
      obtain ⟨x0, x1, x2, x3, x4, x5⟩ := HC.out v9 HB9.out
      have HST := HFIN.out ((((([] ++ lineB wJob (kname 3)) ++ lineB wSize (Lib.decDigits sz)) ++ lineB wSup (Lib.decDigits su)) ++ lineB wWork (Lib.decDigits wk)) ++ lineB wCap (Lib.decDigits cp)) v9 HI9.out HB9.out
      have HE : Hid (((((([] ++ lineB wJob (kname 3)) ++ lineB wSize (Lib.decDigits sz)) ++ lineB wSup (Lib.decDigits su)) ++ lineB wWork (Lib.decDigits wk)) ++ lineB wCap (Lib.decDigits cp)) = confT ⟨⟨3, sz, su, wk, cp⟩, O⟩) := Lib.hid (by
        unfold confT decB
        simp only [HQ.out, Int.toNat_natCast]
        rw [if_pos hq0]
        simp)
      obtain ⟨sf, hsf⟩ : ∃ s, str ((((([] ++ lineB wJob (kname 3)) ++ lineB wSize (Lib.decDigits sz)) ++ lineB wSup (Lib.decDigits su)) ++ lineB wWork (Lib.decDigits wk)) ++ lineB wCap (Lib.decDigits cp)) = s := ⟨_, rfl⟩
      rw [hsf] at HST
      have HST := Lib.hid HST; have HSF := Lib.hid hsf
      clear hsf x0 x1 x2 x3 x4 x5
      go_wp2_with fail
      refine HST.out.mono ?_; rintro e vz ⟨rfl, hb⟩
      have HBZ := Lib.hid (HEND.out _ (HB9.out.trans hb))
      clear hb
      go_wp2_with fail
      go_ret
      exact ⟨by rw [← HE.out, HSF.out]; rfl, HBZ.out⟩
    · have t9 : decide (0 < q) = true := decide_eq_true (by omega)
      have t9' : decide ((0 : Int) < (q : Int)) = true := decide_eq_true (by omega)
      have HT0 : Hid (Calls Tryz.prog 23 #[.int .i64 3] w3 fun e w' => e = .returned (.string ⟨#[102, 115, 109]⟩) ∧ w' = w3) := Lib.hid (kname_any 3 (by decide) (by decide) w3)
      go_wp2_with fail
      refine HT0.out.mono ?_; rintro e u ⟨rfl, hw⟩; obtain rfl := hw.symm
      clear hw
      have HL0 : Hid (Calls Tryz.prog 29 #[.string ⟨#[106, 111, 98]⟩, .string ⟨#[102, 115, 109]⟩, .pointer (some ⟨bb, 0, none⟩)] w3 (LineTo bb bb [] wJob (kname 3) w3)) := Lib.hid (by
        have h := line_any bb bb [] wJob (kname 3) w3 HI0.out (by omega) (by decide) (by first | decide | omega) (HSZ.out w3 HB0.out)
        exact h)
      have hl1 : ([] ++ lineB wJob (kname 3)).length ≤ 8 := by rw [List.length_append, lineB_len]; have h1 : wJob.length = 3 := rfl; have h2 : (kname 3).length ≤ 3 := (by decide); omega
      go_wp2_with fail
      refine HL0.out.mono ?_; rintro e v1 ⟨rfl, hI, hb, -⟩
      have HB1 := Lib.hid (HB0.out.trans hb)
      have HI1 := Lib.hid hI
      clear hI hb hl0
      clear x0 x1 x2 x3 x4 x5
      obtain ⟨x0, x1, x2, x3, x4, x5⟩ := HC.out v1 HB1.out
      have HT1 := itoa_at sz (by omega) v1 (HGW.out v1 HB1.out)
      have hv1 : (Lib.decDigits sz).length ≤ 7 := HD.out sz (by omega)
      obtain ⟨s1, hs1⟩ : ∃ s, str (Lib.decDigits sz) = s := ⟨_, rfl⟩
      rw [hs1] at HT1
      have HS1 := Lib.hid hs1; have HT1 := Lib.hid HT1
      clear hs1
      go_wp2_with fail
      refine HT1.out.mono ?_; rintro e v2 ⟨rfl, hb⟩
      have HB2 := Lib.hid (HB1.out.trans (hb.mono (HSZ.out v1 HB1.out)))
      have HI2 := Lib.hid (isBuilder_below HI1.out hb)
      clear hb
      clear x0 x1 x2 x3 x4 x5
      obtain ⟨x0, x1, x2, x3, x4, x5⟩ := HC.out v2 HB2.out
      have HL2 : Hid (Calls Tryz.prog 29 #[.string ⟨#[115, 105, 122, 101]⟩, .string s1, .pointer (some ⟨bb, 0, none⟩)] v2 (LineTo bb bb ([] ++ lineB wJob (kname 3)) wSize (Lib.decDigits sz) v2)) := Lib.hid (by
        have h := line_any bb bb ([] ++ lineB wJob (kname 3)) wSize (Lib.decDigits sz) v2 HI2.out (by omega) (by decide) (by first | decide | omega) (HSZ.out v2 HB2.out)
        rw [HS1.out] at h
        exact h)
      have hl3 : (([] ++ lineB wJob (kname 3)) ++ lineB wSize (Lib.decDigits sz)).length ≤ 21 := by rw [List.length_append, lineB_len]; have h1 : wSize.length = 4 := rfl; have h2 : (Lib.decDigits sz).length ≤ 7 := hv1; omega
      go_wp2_with fail
      refine HL2.out.mono ?_; rintro e v3 ⟨rfl, hI, hb, -⟩
      have HB3 := Lib.hid (HB2.out.trans hb)
      have HI3 := Lib.hid hI
      clear hI hb hl1
      clear x0 x1 x2 x3 x4 x5
      obtain ⟨x0, x1, x2, x3, x4, x5⟩ := HC.out v3 HB3.out
      have HT3 := itoa_at su (by omega) v3 (HGW.out v3 HB3.out)
      have hv3 : (Lib.decDigits su).length ≤ 7 := HD.out su (by omega)
      obtain ⟨s3, hs3⟩ : ∃ s, str (Lib.decDigits su) = s := ⟨_, rfl⟩
      rw [hs3] at HT3
      have HS3 := Lib.hid hs3; have HT3 := Lib.hid HT3
      clear hs3
      go_wp2_with fail
      refine HT3.out.mono ?_; rintro e v4 ⟨rfl, hb⟩
      have HB4 := Lib.hid (HB3.out.trans (hb.mono (HSZ.out v3 HB3.out)))
      have HI4 := Lib.hid (isBuilder_below HI3.out hb)
      clear hb
      clear x0 x1 x2 x3 x4 x5
      obtain ⟨x0, x1, x2, x3, x4, x5⟩ := HC.out v4 HB4.out
      have HL4 : Hid (Calls Tryz.prog 29 #[.string ⟨#[115, 117, 112, 112, 111, 114, 116]⟩, .string s3, .pointer (some ⟨bb, 0, none⟩)] v4 (LineTo bb bb (([] ++ lineB wJob (kname 3)) ++ lineB wSize (Lib.decDigits sz)) wSup (Lib.decDigits su) v4)) := Lib.hid (by
        have h := line_any bb bb (([] ++ lineB wJob (kname 3)) ++ lineB wSize (Lib.decDigits sz)) wSup (Lib.decDigits su) v4 HI4.out (by omega) (by decide) (by first | decide | omega) (HSZ.out v4 HB4.out)
        rw [HS3.out] at h
        exact h)
      have hl5 : ((([] ++ lineB wJob (kname 3)) ++ lineB wSize (Lib.decDigits sz)) ++ lineB wSup (Lib.decDigits su)).length ≤ 37 := by rw [List.length_append, lineB_len]; have h1 : wSup.length = 7 := rfl; have h2 : (Lib.decDigits su).length ≤ 7 := hv3; omega
      go_wp2_with fail
      refine HL4.out.mono ?_; rintro e v5 ⟨rfl, hI, hb, -⟩
      have HB5 := Lib.hid (HB4.out.trans hb)
      have HI5 := Lib.hid hI
      clear hI hb hl3
      clear x0 x1 x2 x3 x4 x5
      obtain ⟨x0, x1, x2, x3, x4, x5⟩ := HC.out v5 HB5.out
      have HT5 := progText_any (HGW.out v5 HB5.out) (HKW.out v5 HB5.out) (by rw [HQ.out]; omega) HSM.out
      have hv5 : (progT O).length ≤ 1000 := HPL.out
      obtain ⟨s5, hs5⟩ : ∃ s, str (progT O) = s := ⟨_, rfl⟩
      rw [hs5] at HT5
      have HS5 := Lib.hid hs5; have HT5 := Lib.hid HT5
      clear hs5
      go_wp2_with fail
      refine HT5.out.mono ?_; rintro e v6 ⟨rfl, hb⟩
      have HB6 := Lib.hid (HB5.out.trans (hb.mono (HSZ.out v5 HB5.out)))
      have HI6 := Lib.hid (isBuilder_below HI5.out hb)
      clear hb
      clear x0 x1 x2 x3 x4 x5
      obtain ⟨x0, x1, x2, x3, x4, x5⟩ := HC.out v6 HB6.out
      have HL6 : Hid (Calls Tryz.prog 29 #[.string ⟨#[107, 101, 101, 112]⟩, .string s5, .pointer (some ⟨bb, 0, none⟩)] v6 (LineTo bb bb ((([] ++ lineB wJob (kname 3)) ++ lineB wSize (Lib.decDigits sz)) ++ lineB wSup (Lib.decDigits su)) wKeep (progT O) v6)) := Lib.hid (by
        have h := line_any bb bb ((([] ++ lineB wJob (kname 3)) ++ lineB wSize (Lib.decDigits sz)) ++ lineB wSup (Lib.decDigits su)) wKeep (progT O) v6 HI6.out (by omega) (by decide) (by first | decide | omega) (HSZ.out v6 HB6.out)
        rw [HS5.out] at h
        exact h)
      have hl7 : (((([] ++ lineB wJob (kname 3)) ++ lineB wSize (Lib.decDigits sz)) ++ lineB wSup (Lib.decDigits su)) ++ lineB wKeep (progT O)).length ≤ 1043 := by rw [List.length_append, lineB_len]; have h1 : wKeep.length = 4 := rfl; have h2 : (progT O).length ≤ 1000 := hv5; omega
      go_wp2_with fail
      refine HL6.out.mono ?_; rintro e v7 ⟨rfl, hI, hb, -⟩
      have HB7 := Lib.hid (HB6.out.trans hb)
      have HI7 := Lib.hid hI
      clear hI hb hl5
      clear x0 x1 x2 x3 x4 x5
      obtain ⟨x0, x1, x2, x3, x4, x5⟩ := HC.out v7 HB7.out
      have HT7 := itoa_at wk (by omega) v7 (HGW.out v7 HB7.out)
      have hv7 : (Lib.decDigits wk).length ≤ 7 := HD.out wk (by omega)
      obtain ⟨s7, hs7⟩ : ∃ s, str (Lib.decDigits wk) = s := ⟨_, rfl⟩
      rw [hs7] at HT7
      have HS7 := Lib.hid hs7; have HT7 := Lib.hid HT7
      clear hs7
      go_wp2_with fail
      refine HT7.out.mono ?_; rintro e v8 ⟨rfl, hb⟩
      have HB8 := Lib.hid (HB7.out.trans (hb.mono (HSZ.out v7 HB7.out)))
      have HI8 := Lib.hid (isBuilder_below HI7.out hb)
      clear hb
      clear x0 x1 x2 x3 x4 x5
      obtain ⟨x0, x1, x2, x3, x4, x5⟩ := HC.out v8 HB8.out
      have HL8 : Hid (Calls Tryz.prog 29 #[.string ⟨#[119, 111, 114, 107, 101, 114, 115]⟩, .string s7, .pointer (some ⟨bb, 0, none⟩)] v8 (LineTo bb bb (((([] ++ lineB wJob (kname 3)) ++ lineB wSize (Lib.decDigits sz)) ++ lineB wSup (Lib.decDigits su)) ++ lineB wKeep (progT O)) wWork (Lib.decDigits wk) v8)) := Lib.hid (by
        have h := line_any bb bb (((([] ++ lineB wJob (kname 3)) ++ lineB wSize (Lib.decDigits sz)) ++ lineB wSup (Lib.decDigits su)) ++ lineB wKeep (progT O)) wWork (Lib.decDigits wk) v8 HI8.out (by omega) (by decide) (by first | decide | omega) (HSZ.out v8 HB8.out)
        rw [HS7.out] at h
        exact h)
      have hl9 : ((((([] ++ lineB wJob (kname 3)) ++ lineB wSize (Lib.decDigits sz)) ++ lineB wSup (Lib.decDigits su)) ++ lineB wKeep (progT O)) ++ lineB wWork (Lib.decDigits wk)).length ≤ 1059 := by rw [List.length_append, lineB_len]; have h1 : wWork.length = 7 := rfl; have h2 : (Lib.decDigits wk).length ≤ 7 := hv7; omega
      go_wp2_with fail
      refine HL8.out.mono ?_; rintro e v9 ⟨rfl, hI, hb, -⟩
      have HB9 := Lib.hid (HB8.out.trans hb)
      have HI9 := Lib.hid hI
      clear hI hb hl7
      clear x0 x1 x2 x3 x4 x5
      obtain ⟨x0, x1, x2, x3, x4, x5⟩ := HC.out v9 HB9.out
      have HT9 := itoa_at cp (by omega) v9 (HGW.out v9 HB9.out)
      have hv9 : (Lib.decDigits cp).length ≤ 7 := HD.out cp (by omega)
      obtain ⟨s9, hs9⟩ : ∃ s, str (Lib.decDigits cp) = s := ⟨_, rfl⟩
      rw [hs9] at HT9
      have HS9 := Lib.hid hs9; have HT9 := Lib.hid HT9
      clear hs9
      go_wp2_with fail
      refine HT9.out.mono ?_; rintro e v10 ⟨rfl, hb⟩
      have HB10 := Lib.hid (HB9.out.trans (hb.mono (HSZ.out v9 HB9.out)))
      have HI10 := Lib.hid (isBuilder_below HI9.out hb)
      clear hb
      clear x0 x1 x2 x3 x4 x5
      obtain ⟨x0, x1, x2, x3, x4, x5⟩ := HC.out v10 HB10.out
      have HL10 : Hid (Calls Tryz.prog 29 #[.string ⟨#[99, 97, 112]⟩, .string s9, .pointer (some ⟨bb, 0, none⟩)] v10 (LineTo bb bb ((((([] ++ lineB wJob (kname 3)) ++ lineB wSize (Lib.decDigits sz)) ++ lineB wSup (Lib.decDigits su)) ++ lineB wKeep (progT O)) ++ lineB wWork (Lib.decDigits wk)) wCap (Lib.decDigits cp) v10)) := Lib.hid (by
        have h := line_any bb bb ((((([] ++ lineB wJob (kname 3)) ++ lineB wSize (Lib.decDigits sz)) ++ lineB wSup (Lib.decDigits su)) ++ lineB wKeep (progT O)) ++ lineB wWork (Lib.decDigits wk)) wCap (Lib.decDigits cp) v10 HI10.out (by omega) (by decide) (by first | decide | omega) (HSZ.out v10 HB10.out)
        rw [HS9.out] at h
        exact h)
      have hl11 : (((((([] ++ lineB wJob (kname 3)) ++ lineB wSize (Lib.decDigits sz)) ++ lineB wSup (Lib.decDigits su)) ++ lineB wKeep (progT O)) ++ lineB wWork (Lib.decDigits wk)) ++ lineB wCap (Lib.decDigits cp)).length ≤ 1071 := by rw [List.length_append, lineB_len]; have h1 : wCap.length = 3 := rfl; have h2 : (Lib.decDigits cp).length ≤ 7 := hv9; omega
      go_wp2_with fail
      refine HL10.out.mono ?_; rintro e v11 ⟨rfl, hI, hb, -⟩
      have HB11 := Lib.hid (HB10.out.trans hb)
      have HI11 := Lib.hid hI
      clear hI hb hl9
      clear x0 x1 x2 x3 x4 x5
      obtain ⟨x0, x1, x2, x3, x4, x5⟩ := HC.out v11 HB11.out
      have HST := HFIN.out (((((([] ++ lineB wJob (kname 3)) ++ lineB wSize (Lib.decDigits sz)) ++ lineB wSup (Lib.decDigits su)) ++ lineB wKeep (progT O)) ++ lineB wWork (Lib.decDigits wk)) ++ lineB wCap (Lib.decDigits cp)) v11 HI11.out HB11.out
      have HE : Hid ((((((([] ++ lineB wJob (kname 3)) ++ lineB wSize (Lib.decDigits sz)) ++ lineB wSup (Lib.decDigits su)) ++ lineB wKeep (progT O)) ++ lineB wWork (Lib.decDigits wk)) ++ lineB wCap (Lib.decDigits cp)) = confT ⟨⟨3, sz, su, wk, cp⟩, O⟩) := Lib.hid (by
        unfold confT decB
        simp only [HQ.out, Int.toNat_natCast]
        rw [if_neg (show ¬ q = 0 by omega)]
        simp)
      obtain ⟨sf, hsf⟩ : ∃ s, str (((((([] ++ lineB wJob (kname 3)) ++ lineB wSize (Lib.decDigits sz)) ++ lineB wSup (Lib.decDigits su)) ++ lineB wKeep (progT O)) ++ lineB wWork (Lib.decDigits wk)) ++ lineB wCap (Lib.decDigits cp)) = s := ⟨_, rfl⟩
      rw [hsf] at HST
      have HST := Lib.hid HST; have HSF := Lib.hid hsf
      clear hsf x0 x1 x2 x3 x4 x5
      go_wp2_with fail
      refine HST.out.mono ?_; rintro e vz ⟨rfl, hb⟩
      have HBZ := Lib.hid (HEND.out _ (HB11.out.trans hb))
      clear hb
      go_wp2_with fail
      go_ret
      exact ⟨by rw [← HE.out, HSF.out]; rfl, HBZ.out⟩
end Go.Proofs.YtbbdammdiplagaaGreatDoor
