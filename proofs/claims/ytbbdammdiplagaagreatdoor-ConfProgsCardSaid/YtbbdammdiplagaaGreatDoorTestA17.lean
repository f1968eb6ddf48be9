/- prog: Test, all kinds. -/
import Derived.Test.YtbbdammdiplagaaGreatDoorTest17
import Derived.Test.YtbbdammdiplagaaGreatDoorHas17
import Derived.Test.YtbbdammdiplagaaGreatDoorUniq17
namespace Go.Proofs.YtbbdammdiplagaaGreatDoor
open Go.RowKit

set_option maxRecDepth 100000 in
theorem cl_free (a b : Int) (pb : Nat) (w : World) (Al : Option Addr) (nl cl : Nat) (ve : Value) (E : List (Int × Int)) (hp : Whole w pb 52 #[.slice Al nl cl, ve]) (he : EdgesV w ve E) (hl : E.length ≤ 1000000) (hn : nl ≤ 1000000) :
    Calls Tryz.prog 86 #[.agg #[.int .i64 a, .int .i64 b], .pointer (some ⟨pb, 0, none⟩)] w fun e w' => e = .returned (.bool (closedB nl E (a, b))) ∧ Below w.heap.size w w' := by
  obtain ⟨Ae, ce, rfl⟩ := he.form
  have hb1 : Below w.heap.size w (w.alloc (.cells #[.int .i64 a, .int .i64 b] 54)) := (Below.refl _ _).alloc (Nat.le_refl _) _
  have hx := Whole.new w 54 #[.int .i64 a, .int .i64 b]
  obtain ⟨w1, hw1⟩ : ∃ W, w.alloc (.cells #[.int .i64 a, .int .i64 b] 54) = W := ⟨_, rfl⟩
  obtain ⟨xb, hxb⟩ : ∃ g, w.heap.size = g := ⟨_, rfl⟩
  rw [hw1] at hb1 hx
  rw [hxb] at hx
  have hp1 := hp.below hb1 hp.lt
  have HCL := Lib.hid (closed_any Al nl cl (he.below hb1 (Nat.le_refl _)) hl hn a b)
  have x0 : w1.cell? ⟨xb, 0, none⟩ = some (.int .i64 a) := hx.cell 0
  have x1 : w1.cell? ⟨xb, 1, none⟩ = some (.int .i64 b) := hx.cell 1
  have p0 : w1.cell? ⟨pb, 0, none⟩ = some (.slice Al nl cl) := hp1.cell 0
  have p1 : w1.cell? ⟨pb, 1, none⟩ = some (.slice Ae E.length ce) := hp1.cell 1
  obtain ⟨z, hz⟩ : ∃ z, closedB nl E (a, b) = z := ⟨_, rfl⟩
  rw [hz] at HCL ⊢
  generalize E.length = m at *
  have HW1 := Lib.hid hw1; have HXB := Lib.hid hxb; have HB1 := Lib.hid hb1
  clear hp he hl hn hb1 hx hp1 hw1 hxb hz
  go_enter Tryz.func86, Tryz.ntmps86
  go_upto_region 1 with fail
  rw [HW1.out, HXB.out]
  go_wp2_with fail
  refine HCL.out.mono ?_; rintro e w2 ⟨rfl, hb2⟩
  have HBB := Lib.hid (HB1.out.trans (hb2.mono HB1.out.size))
  clear hb2 x0 x1 p0 p1
  go_wp2_with fail
  go_ret
  exact ⟨rfl, HBB.out⟩
set_option maxRecDepth 100000 in
set_option maxHeartbeats 8000000 in
theorem test_68 {w : World} {vl ve : Value} {L : List Int} {E : List (Int × Int)} (hl : SeqV w vl L) (he : EdgesV w ve E) (h1 : L.length ≤ 1000000) (h2 : E.length ≤ 1000000) (a b : Int) (h68 : a = 6 ∨ a = 8) :
    Calls Tryz.prog 63 #[.agg #[.int .i64 a, .int .i64 b], .agg #[vl, ve]] w fun e w' => e = .returned (.bool (testB (a, b) L E)) ∧ Below w.heap.size w w' := by
  obtain ⟨Al, cl, rfl⟩ := IntsV.form hl
  obtain ⟨Ae, ce, rfl⟩ := he.form
  have hb1 : Below w.heap.size w ((w.alloc (.cells #[.int .i64 a, .int .i64 b] 44)).alloc (.cells #[.slice Al L.length cl, .slice Ae E.length ce] 52)) := ((Below.refl _ _).alloc (Nat.le_refl _) _).alloc (by simp) _
  have ho := (Whole.new w 44 #[.int .i64 a, .int .i64 b]).alloc (.cells #[.slice Al L.length cl, .slice Ae E.length ce] 52)
  have hp := Whole.new (w.alloc (.cells #[.int .i64 a, .int .i64 b] 44)) 52 #[.slice Al L.length cl, .slice Ae E.length ce]
  rw [World.size_alloc] at hp
  obtain ⟨w1, hw1⟩ : ∃ W, (w.alloc (.cells #[.int .i64 a, .int .i64 b] 44)).alloc (.cells #[.slice Al L.length cl, .slice Ae E.length ce] 52) = W := ⟨_, rfl⟩
  obtain ⟨ob, hob⟩ : ∃ g, w.heap.size = g := ⟨_, rfl⟩
  rw [hw1] at hb1 ho hp
  rw [hob] at ho hp
  obtain ⟨pb, hpb⟩ : ∃ g, ob + 1 = g := ⟨_, rfl⟩
  rw [hpb] at hp
  have hl1 := hl.below hb1 (Nat.le_refl _)
  have he1 := he.below hb1 (Nat.le_refl _)
  have HRT : Hid (∀ W, Below w1.heap.size w1 W → Calls Tryz.prog 43 #[.agg #[.slice Al L.length cl, .slice Ae E.length ce]] W (ErrTo (rightF L E) W)) := Lib.hid (fun W hb => right_any (hl1.below hb (Nat.le_refl _)) (he1.below hb (Nat.le_refl _)) h1 h2)
  have HFREE : Hid (∀ W, Below w1.heap.size w1 W → Calls Tryz.prog 79 #[.slice Ae E.length ce, .func (.func 86) #[] #[.pointer (some ⟨pb, 0, none⟩)]] W fun e w' => e = .returned (.bool (E.any (closedB L.length E))) ∧ Below W.heap.size W w') := Lib.hid (fun W hb =>
    cont_free E _ (closedB L.length E) _ W (he1.below hb (Nat.le_refl _)) h2 (fun x y V hV => (cl_free x y pb V Al L.length cl _ E ((hp.below hb hp.lt).below hV (hp.below hb hp.lt).lt) ((he1.below hb (Nat.le_refl _)).below hV (Nat.le_refl _)) h2 h1).mono fun e w' ⟨h1, h2⟩ => ⟨h1, hV.trans (h2.mono hV.size)⟩))
  have HCLO : Hid (∀ W, Below w1.heap.size w1 W → L.length ≤ 8 → Calls Tryz.prog 82 #[.slice Al L.length cl] W fun e w' => ∃ A' c', e = .returned (.slice A' L.length c') ∧ RowI W.heap.size w' A' c' L ∧ Below W.heap.size W w') := Lib.hid (fun W hb h8 => clone17 (hl1.below hb (Nat.le_refl _)) rfl (by omega))
  have HUQ : Hid (∀ k, (Lib.compact (L.mergeSort fun x y => decide (x ≤ y))).length = k → ((k : Int) == (L.length : Int)) = decide L.Nodup) := Lib.hid (fun k hk => by
    rw [Bool.eq_iff_iff, beq_iff_eq, decide_eq_true_iff, ← uniq_len L, hk]
    omega)
  have HTL : Hid ((L.mergeSort fun x y => decide (x ≤ y)).length = L.length) := Lib.hid (List.length_mergeSort ..)
  have HC : Hid (∀ W, Below w1.heap.size w1 W → W.cell? ⟨ob, 0, none⟩ = some (.int .i64 a) ∧ W.cell? ⟨ob, 1, none⟩ = some (.int .i64 b) ∧ W.cell? ⟨pb, 0, none⟩ = some (.slice Al L.length cl) ∧ W.cell? ⟨pb, 1, none⟩ = some (.slice Ae E.length ce)) := Lib.hid (fun W hb =>
    ⟨(ho.below hb ho.lt).cell 0, (ho.below hb ho.lt).cell 1, (hp.below hb hp.lt).cell 0, (hp.below hb hp.lt).cell 1⟩)
  have HWR := Lib.hid (wrong_any a b w1)
  have HLN : Hid (rightF L E = none → L.length ≤ 8) := Lib.hid (fun h => (rightF_none.1 h).len)
  have HTR : Hid (∀ z, testR (a, b) L E = z → wrongF (a, b) = 0 → rightF L E = none → testB (a, b) L E = z) := Lib.hid (fun z h k l => by rw [testB_of k l, h])
  have HU : Hid (testR (a, b) L E = if a = 1 then decide (E.length = L.length * (L.length - 1) / 2)
    else if a = 2 then !(L.any fun x => decide (b < x))
    else if a = 3 then !(E.any fun e => decide (b < max (degI E e.1) (degI E e.2)))
    else if a = 4 then decide ((L.length : Int) ≤ b)
    else if a = 5 then decide ((E.length : Int) ≤ b)
    else if a = 6 then decide L.Nodup
    else if a = 7 then !(L.any fun x => decide (x ≠ b))
    else !(E.any (closedB L.length E))) := Lib.hid rfl
  obtain ⟨zf, hzf⟩ : ∃ z, E.any (closedB L.length E) = z := ⟨_, rfl⟩
  obtain ⟨zu, hzu⟩ : ∃ z, decide L.Nodup = z := ⟨_, rfl⟩
  rw [hzf] at HFREE HU
  rw [hzu] at HUQ HU
  obtain ⟨c0, c1, c2, c3⟩ := HC.out w1 (Below.refl _ _)
  have HB1 := Lib.hid hb1; have HOB := Lib.hid hob; have HPB := Lib.hid hpb
  obtain ⟨z, hz⟩ : ∃ z, wrongF (a, b) = z := ⟨_, rfl⟩
  rw [hz] at HWR
  have HZ := Lib.hid hz
  obtain ⟨n, hnn⟩ : ∃ n, L.length = n := ⟨_, rfl⟩
  have HNL := Lib.hid hnn
  rw [hnn] at HRT HCLO HUQ HTL HC HLN HU hw1 c2 ⊢
  have HW1 := Lib.hid hw1
  generalize E.length = m at *
  clear hl he h1 h2 hb1 ho hp hw1 hob hpb hl1 he1 hzf hzu hz hnn
  by_cases hz0 : z = 0
  · obtain ⟨k1, k8, b0, b255, -⟩ := wrongF_zero (HZ.out.trans hz0)
    have t1 : (z != 0) = false := by simpa using hz0
    have HW0 : Hid (wrongF (a, b) = 0) := Lib.hid (HZ.out.trans hz0)
    simp only at k1 k8 b0 b255
    have HKK := Lib.hid h68
    clear hz0 k1 k8 h68
    go_enter Tryz.func63, Tryz.ntmps63
    go_upto_region 1 with fail
    rw [HW1.out, HOB.out, HPB.out]
    go_wp2_with fail
    refine HWR.out.mono ?_; rintro e w2 ⟨rfl, hb2⟩
    obtain ⟨d0, d1, d2, d3⟩ := HC.out w2 hb2
    have HRR := Lib.hid (HRT.out w2 hb2)
    have HB2 := Lib.hid hb2
    clear c0 c1 c2 c3 hb2
    go_wp2_with fail
    refine HRR.out.mono ?_; rintro e w3 hto
    obtain ⟨o, ho⟩ : ∃ o, rightF L E = o := ⟨_, rfl⟩
    rw [ho] at hto
    rcases o with _ | ⟨c, p⟩
    · obtain ⟨rfl, hb3⟩ := hto.nil rfl
      have hb3 := HB2.out.trans (hb3.mono HB2.out.size)
      obtain ⟨e0, e1, e2, e3⟩ := HC.out w3 hb3
      have HRN := Lib.hid ho
      have HB3 := Lib.hid hb3
      have HBB : Hid (Below w.heap.size w w3) := Lib.hid (HB1.out.trans (hb3.mono HB1.out.size))
      have hn8 := HLN.out HRN.out
      have HA1 := Lib.hid (HFREE.out w3 hb3)
      have HA2 := Lib.hid (HCLO.out w3 hb3 hn8)
      clear d0 d1 d2 d3 hto hb3 ho
      rcases HKK.out with rfl | rfl
      · have HF : Hid (testB (6, b) L E = zu) := Lib.hid (HTR.out _ (by rw [HU.out, if_neg (by decide), if_neg (by decide), if_neg (by decide), if_neg (by decide), if_neg (by decide), if_pos rfl]) HW0.out HRN.out)
        clear HKK HFREE HCLO HU
        go_wp2_with fail
        refine HA2.out.mono ?_; rintro e w4 ⟨A4, c4, rfl, hr4, hb4⟩
        have HSO := Lib.hid (sort17 hr4 hb4 hb4.size HNL.out (by omega))
        clear hr4 hb4 e0 e1 e2 e3
        go_wp2_with fail
        refine HSO.out.mono ?_; rintro e w5 ⟨rfl, hr5, hb5⟩
        have HCO := compact17 hr5 hb5 hb5.size HTL.out (by omega)
        obtain ⟨q, hq⟩ : ∃ q, (Lib.compact (L.mergeSort fun x y => decide (x ≤ y))).length = q := ⟨_, rfl⟩
        rw [hq] at HCO
        have u1 := HUQ.out q hq
        have HCO := Lib.hid HCO
        clear hr5 hb5 hq
        go_wp2_with fail
        refine HCO.out.mono ?_; rintro e w6 ⟨rfl, hb6⟩
        have HBF := Lib.hid (HBB.out.trans (hb6.mono HBB.out.size))
        clear hb6
        go_wp2_with fail
        go_ret
        exact ⟨by rw [HF.out]; rfl, HBF.out⟩
      · have HF : Hid (testB (8, b) L E = !zf) := Lib.hid (HTR.out _ (by rw [HU.out, if_neg (by decide), if_neg (by decide), if_neg (by decide), if_neg (by decide), if_neg (by decide), if_neg (by decide), if_neg (by decide)]) HW0.out HRN.out)
        clear HKK HFREE HCLO HU
        go_wp2_with fail
        refine HA1.out.mono ?_; rintro e w4 ⟨rfl, hb4⟩
        have HB4 := Lib.hid hb4
        clear hb4 e0 e1 e2 e3
        go_wp2_with fail
        go_ret
        exact ⟨by rw [HF.out]; rfl, HBB.out.trans (HB4.out.mono HBB.out.size)⟩
    · obtain ⟨fb, rfl, hf, hb3⟩ := hto.err rfl
      have HF : Hid (testB (a, b) L E = false) := Lib.hid (testB_bad ho)
      have HBB : Hid (Below w.heap.size w w3) := Lib.hid (HB1.out.trans ((HB2.out.trans (hb3.mono HB2.out.size)).mono HB1.out.size))
      clear d0 d1 d2 d3 hto hf hb3 ho
      go_wp2_with fail
      go_ret
      exact ⟨by rw [HF.out]; rfl, HBB.out⟩
  · have t1 : (z != 0) = true := by simpa using hz0
    have HF : Hid (testB (a, b) L E = false) := Lib.hid (testB_wrong (by rw [HZ.out]; exact hz0))
    clear hz0
    go_enter Tryz.func63, Tryz.ntmps63
    go_upto_region 1 with fail
    rw [HW1.out, HOB.out, HPB.out]
    go_wp2_with fail
    refine HWR.out.mono ?_; rintro e w2 ⟨rfl, hb2⟩
    have HBB : Hid (Below w.heap.size w w2) := Lib.hid (HB1.out.trans (hb2.mono HB1.out.size))
    clear c0 c1 c2 c3 hb2
    go_wp2_with fail
    go_ret
    exact ⟨by rw [HF.out]; rfl, HBB.out⟩
end Go.Proofs.YtbbdammdiplagaaGreatDoor
