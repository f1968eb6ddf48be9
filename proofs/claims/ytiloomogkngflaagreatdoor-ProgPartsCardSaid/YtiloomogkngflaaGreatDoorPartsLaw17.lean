/- ProgParts: the law's walk. Written by gen_parts17.py. -/
import Derived.Test.YtiloomogkngflaaGreatDoorOf17
import Derived.Test.YtiloomogkngflaaGreatDoorAlive17
import Derived.Test.YtiloomogkngflaaGreatDoorKeepsA17
namespace Go.Proofs.YtiloomogkngflaaGreatDoor
open Go.RowKit

theorem own_fours {w : World} {g : Nat} {t : TypeId} {a b c d e f h i : Int} (hw : Whole w g t #[.int .i64 a, .int .i64 b, .int .i64 c, .int .i64 d, .int .i64 e, .int .i64 f, .int .i64 h, .int .i64 i]) : EdgesV w (.slice (some ⟨g, 0, none⟩) 4 4) [(a, b), (c, d), (e, f), (h, i)] := by
  refine Or.inr ⟨by simp, g, 0, 4, rfl, fun j hj => ?_⟩
  match j, hj with
  | 0, _ => exact ⟨hw.cell 0, hw.cell 1⟩
  | 1, _ => exact ⟨hw.cell 2, hw.cell 3⟩
  | 2, _ => exact ⟨hw.cell 4, hw.cell 5⟩
  | 3, _ => exact ⟨hw.cell 6, hw.cell 7⟩
theorem own_none2 (W : World) (base : Nat) (t : TypeId) (hb : base ≤ W.heap.size) : (W.alloc (.cells #[] t)).ownsRow base t 2 (.slice (some ⟨W.heap.size, 0, none⟩) 0 0) 0 [] :=
  World.ownsRow_lit (size := 2) W #[] 0 hb (by decide) rfl
theorem first_app {A B : List (Int × Int)} {L : List Int} {E : List (Int × Int)} (ha : progF A = none) (hb : progF B = none) (hl : A.length + B.length ≤ 16) (hr : rightF L E = none) : decide (firstF (A ++ B) L E < 0) = (keepsB A L E && keepsB B L E) := by
  rw [← keepsB_app ha hb hl]
  have h1 := progF_none.1 ha
  have h2 := progF_none.1 hb
  have hab : progF (A ++ B) = none := progF_none.2 ⟨by rw [List.length_append]; omega, fun o ho => by
    rcases List.mem_append.1 ho with h | h
    · exact h1.2 o h
    · exact h2.2 o h⟩
  unfold keepsB
  rw [hab, hr]
  rfl
theorem falls_app (A B : List (Int × Int)) : fallsB (A ++ B) = (fallsB A && fallsB B) := by
  unfold fallsB
  rw [List.any_append, Bool.not_or]
theorem keeps_nil {L : List Int} {E : List (Int × Int)} (hr : rightF L E = none) : keepsB [] L E = true := keepsB_iff.2 ⟨by decide, hr, fun o ho => by cases ho⟩
set_option maxRecDepth 100000 in
set_option maxHeartbeats 32000000 in
theorem parts_law (A B : List (Int × Int)) (L : List Int) (E : List (Int × Int)) (va vb vl ve : Value) (w : World) (hg : GT w) (ha : EdgesV w va A) (hb : EdgesV w vb B) (hl : SeqV w vl L) (he : EdgesV w ve E) (hA : A.length * 16 ≤ 140737488351232) (hB : B.length * 16 ≤ 140737488351232) (hE : E.length * 16 ≤ 140737488351232) (hL : L.length ≤ 9223372036854775807) :
    Calls Tryz.prog 4 #[va, vb, .agg #[vl, ve]] w fun e w' => e = .returned (.bool true) ∧ Below w.heap.size w w' := by
  obtain ⟨j0, hj0, hz0, hz1, hz2⟩ := info_parts Tryz.infoOp17
  obtain ⟨Aa, ca, rfl⟩ := ha.form
  obtain ⟨Ab, cb, rfl⟩ := hb.form
  obtain ⟨Al, cl, rfl⟩ := IntsV.form hl
  obtain ⟨Ae, ce, rfl⟩ := he.form
  obtain ⟨na, hna⟩ : ∃ n, A.length = n := ⟨_, rfl⟩
  obtain ⟨nb, hnb⟩ : ∃ n, B.length = n := ⟨_, rfl⟩
  obtain ⟨n, hn⟩ : ∃ n, L.length = n := ⟨_, rfl⟩
  obtain ⟨m, hm⟩ : ∃ m, E.length = m := ⟨_, rfl⟩
  rw [hna] at ha hA ⊢
  rw [hnb] at hb hB ⊢
  rw [hn] at hl hL ⊢
  rw [hm] at he hE ⊢
  have hb1 : Below w.heap.size w (w.alloc (.cells #[.slice Al n cl, .slice Ae m ce] 45)) := (Below.refl _ _).alloc (Nat.le_refl _) _
  have hx := Whole.new w 45 #[.slice Al n cl, .slice Ae m ce]
  obtain ⟨w1, hw1⟩ : ∃ W, w.alloc (.cells #[.slice Al n cl, .slice Ae m ce] 45) = W := ⟨_, rfl⟩
  obtain ⟨xb, hxb⟩ : ∃ g, w.heap.size = g := ⟨_, rfl⟩
  rw [hw1] at hb1 hx
  rw [hxb] at hx
  have AL := Lib.hid (alive_ok w1 (hg.below hb1 (Nat.le_refl _)))
  have OF8 : Hid (∀ W, Below w.heap.size w W → Calls Tryz.prog 16 #[.agg #[.slice Al n cl, .slice Ae m ce]] W (OfTo E (.slice Al n cl) W)) := Lib.hid (fun W h => of8_any E Al n cl _ W (he.below h (Nat.le_refl _)) (by rw [hm]; exact hE))
  have OFA : Hid (∀ W, Below w.heap.size w W → Calls Tryz.prog 8 #[.slice Aa na ca] W fun e w' => ∃ A1 c1, e = .returned (.slice A1 na c1) ∧ w'.ownsRow W.heap.size 36 2 (.slice A1 na c1) na (eL A) ∧ Below W.heap.size W w') := Lib.hid (fun W h => by
    have h := of17_any A _ W (ha.below h (Nat.le_refl _)) (by rw [hna]; exact hA)
    rw [hna] at h
    exact h)
  have OFB : Hid (∀ W, Below w.heap.size w W → Calls Tryz.prog 8 #[.slice Ab nb cb] W fun e w' => ∃ A1 c1, e = .returned (.slice A1 nb c1) ∧ w'.ownsRow W.heap.size 36 2 (.slice A1 nb c1) nb (eL B) ∧ Below W.heap.size W w') := Lib.hid (fun W h => by
    have h := of17_any B _ W (hb.below h (Nat.le_refl _)) (by rw [hnb]; exact hB)
    rw [hnb] at h
    exact h)
  have HB1 := Lib.hid hb1; have HX := Lib.hid hx; have HL := Lib.hid hl; have HNA := Lib.hid hna; have HNB := Lib.hid hnb; have HN := Lib.hid hn; have HM := Lib.hid hm; have HW1 := Lib.hid hw1; have HXB := Lib.hid hxb
  clear hb1 hx ha hb hl he hna hnb hn hm hw1 hxb hg hA hB hE
  go_enter Tryz.func4, Tryz.ntmps4
  go_upto_region 1 with fail
  rw [HW1.out, HXB.out]
  go_wp2_with fail
  refine AL.out.mono ?_; rintro e w2 ⟨rfl, hb2⟩
  have hx2 := HX.out.below hb2 HX.out.lt
  have HB2 := Lib.hid (HB1.out.trans (hb2.mono HB1.out.size)); have HX2 := Lib.hid hx2
  have x0 : w2.cell? ⟨xb, 0, none⟩ = some (.slice Al n cl) := hx2.cell 0
  have x1 : w2.cell? ⟨xb, 1, none⟩ = some (.slice Ae m ce) := hx2.cell 1
  have HOF := Lib.hid (OF8.out w2 HB2.out)
  clear hb2 hx2
  by_cases hna : 8 < na
  · have tna : decide (8 < na) = true := decide_eq_true hna
    have tna' : decide ((8 : Int) < (na : Int)) = true := decide_eq_true (by omega)
    clear hna
    go_wp2_with fail
    go_ret
    exact ⟨rfl, HB2.out⟩
  have tna : decide (8 < na) = false := decide_eq_false hna
  have tna' : decide ((8 : Int) < (na : Int)) = false := decide_eq_false (by omega)
  have HNA8 := Lib.hid hna
  clear hna
  by_cases hnb : 8 < nb
  · have tnb : decide (8 < nb) = true := decide_eq_true hnb
    have tnb' : decide ((8 : Int) < (nb : Int)) = true := decide_eq_true (by omega)
    clear hnb
    go_wp2_with fail
    go_ret
    exact ⟨rfl, HB2.out⟩
  have tnb : decide (8 < nb) = false := decide_eq_false hnb
  have tnb' : decide ((8 : Int) < (nb : Int)) = false := decide_eq_false (by omega)
  have HNB8 := Lib.hid hnb
  clear hnb
  by_cases hn : 8 < n
  · have tn : decide (8 < n) = true := decide_eq_true hn
    have tn' : decide ((8 : Int) < (n : Int)) = true := decide_eq_true (by omega)
    clear hn
    go_wp2_with fail
    go_ret
    exact ⟨rfl, HB2.out⟩
  have tn : decide (8 < n) = false := decide_eq_false hn
  have tn' : decide ((8 : Int) < (n : Int)) = false := decide_eq_false (by omega)
  have HN8 := Lib.hid hn
  clear hn
  by_cases hm : 40 < m
  · have tm : decide (40 < m) = true := decide_eq_true hm
    have tm' : decide ((40 : Int) < (m : Int)) = true := decide_eq_true (by omega)
    clear hm
    go_wp2_with fail
    go_ret
    exact ⟨rfl, HB2.out⟩
  have tm : decide (40 < m) = false := decide_eq_false hm
  have tm' : decide ((40 : Int) < (m : Int)) = false := decide_eq_false (by omega)
  have HM8 := Lib.hid hm
  clear hm
  go_wp2_with fail
  refine HOF.out.mono ?_; rintro e w3 ⟨A3, c3, rfl, hown, hb3⟩
  rw [HM.out] at hown ⊢
  have hB4 := (HB2.out.trans (hb3.mono HB2.out.size)).alloc (HB2.out.trans (hb3.mono HB2.out.size)).size (.cells #[.slice Al n cl, .slice A3 m c3] 48)
  have hy4 := Whole.new w3 48 #[.slice Al n cl, .slice A3 m c3]
  have he4 := (own_edges hown).below ((Below.refl w3.heap.size w3).alloc (Nat.le_refl _) (.cells #[.slice Al n cl, .slice A3 m c3] 48)) (Nat.le_refl _)
  obtain ⟨w4, hw4⟩ : ∃ W, w3.alloc (.cells #[.slice Al n cl, .slice A3 m c3] 48) = W := ⟨_, rfl⟩
  obtain ⟨yb, hyb⟩ : ∃ g, w3.heap.size = g := ⟨_, rfl⟩
  rw [hw4] at hB4 hy4 he4
  rw [hyb] at hy4
  have HB4 := Lib.hid hB4; have HY4 := Lib.hid hy4; have HE4 := Lib.hid he4; have HW4 := Lib.hid hw4; have HYB := Lib.hid hyb
  have HFA := Lib.hid (OFA.out w4 hB4)
  clear hown hb3 hB4 hy4 he4 hw4 hyb x0 x1
  go_upto_region 6 with fail
  rw [HW4.out, HYB.out]
  go_wp2_with fail
  refine HFA.out.mono ?_; rintro e w5 ⟨A5, c5, rfl, ho5, hb5⟩
  have hb5w := HB4.out.trans (hb5.mono HB4.out.size)
  have HFB := Lib.hid (OFB.out w5 hb5w)
  have HB45 := Lib.hid hb5; have HO5 := Lib.hid ho5
  clear ho5 hb5 hb5w
  go_wp2_with fail
  refine HFB.out.mono ?_; rintro e w6 ⟨A6, c6, rfl, ho6, hb6⟩
  have hb46 := HB45.out.trans (hb6.mono HB45.out.size)
  have HB6 := Lib.hid (HB4.out.trans (hb46.mono HB4.out.size))
  have HEF := Lib.hid ((own_edges HO5.out).below hb6 (Nat.le_refl _))
  have HEG := Lib.hid (own_edges ho6)
  have hy6 := HY4.out.below hb46 HY4.out.lt
  have he6 := HE4.out.below hb46 (Nat.le_refl _)
  have hl6 := HL.out.below HB6.out (Nat.le_refl _)
  have HC : Hid (∀ W, Below w6.heap.size w6 W → W.cell? ⟨yb, 0, none⟩ = some (.slice Al n cl) ∧ W.cell? ⟨yb, 1, none⟩ = some (.slice A3 m c3)) := Lib.hid (fun W hb => ⟨(hy6.below hb hy6.lt).cell 0, (hy6.below hb hy6.lt).cell 1⟩)
  have l1 : L.length ≤ 1000000 := by have := HN8.out; rw [HN.out]; omega
  have l2 : E.length ≤ 1000000 := by have := HM8.out; rw [HM.out]; omega
  have HRT : Hid (∀ W, Below w6.heap.size w6 W → Calls Tryz.prog 17 #[.agg #[.slice Al n cl, .slice A3 m c3]] W (ErrTo (rightF L E) W)) := Lib.hid (fun W hb => right_any (hl6.below hb (Nat.le_refl _)) (he6.below hb (Nat.le_refl _)) l1 l2)
  have HKP : Hid (∀ W vo O, Below w6.heap.size w6 W → EdgesV W vo O → O.length ≤ 1000000 → Calls Tryz.prog 18 #[vo, .agg #[.slice Al n cl, .slice A3 m c3]] W fun e w' => e = .returned (.bool (keepsB O L E)) ∧ Below W.heap.size W w') := Lib.hid (fun W vo O hb ho h1 => keeps_all ho h1 (hl6.below hb (Nat.le_refl _)) (he6.below hb (Nat.le_refl _)) l1 l2)
  have HFI : Hid (∀ W vo O, Below w6.heap.size w6 W → EdgesV W vo O → O.length ≤ 1000000 → Calls Tryz.prog 19 #[vo, .agg #[.slice Al n cl, .slice A3 m c3]] W fun e w' => e = .returned (.int .i64 (firstF O L E)) ∧ Below W.heap.size W w') := Lib.hid (fun W vo O hb ho h1 => first_all ho h1 (hl6.below hb (Nat.le_refl _)) (he6.below hb (Nat.le_refl _)) l1 l2)
  have RA := progRight_any HEF.out (by rw [HNA.out]; have := HNA8.out; omega)
  have HRA := Lib.hid RA
  have HRB : Hid (∀ W, Below w6.heap.size w6 W → Calls Tryz.prog 15 #[.slice A6 nb c6] W (ErrTo (progF B) W)) := Lib.hid (fun W hb => progRight_any (HEG.out.below hb (Nat.le_refl _)) (by rw [HNB.out]; have := HNB8.out; omega))
  have HPRE : Hid (progF A = none → progF B = none → rightF L E = none → keepsB (A ++ B) L E = (keepsB A L E && keepsB B L E) ∧ keepsB (B ++ A) L E = (keepsB A L E && keepsB B L E) ∧ decide (firstF (A ++ B) L E < 0) = (keepsB A L E && keepsB B L E) ∧ fallsB (A ++ B) = (fallsB A && fallsB B) ∧ keepsB [(2, 255), (3, 7), (4, 8), (5, 28)] L E = true ∧ keepsB [] L E = true) := Lib.hid (fun h1 h2 h3 => by
    have h4 : A.length + B.length ≤ 16 := by rw [HNA.out, HNB.out]; have := HNA8.out; have := HNB8.out; omega
    exact ⟨keepsB_app h1 h2 h4, by rw [keepsB_app h2 h1 (by omega), Bool.and_comm], first_app h1 h2 h4 h3, falls_app A B, mild_keeps (rightF_none.1 h3), keeps_nil h3⟩)
  clear ho6 hb6 hb46 hy6 he6 hl6 l1 l2 RA
  obtain ⟨d0, d1⟩ := HC.out w6 (Below.refl _ _)
  go_wp2_with fail
  refine HRA.out.mono ?_; rintro e w7 hto
  obtain ⟨oa, hoa⟩ : ∃ o, progF A = o := ⟨_, rfl⟩
  rw [hoa] at hto
  rcases oa with _ | ⟨cc, pp⟩
  case some =>
    obtain ⟨fb, rfl, hf, hb7⟩ := hto.err rfl
    have HEND := Lib.hid (HB6.out.trans (hb7.mono HB6.out.size))
    clear hto hf hb7 hoa d0 d1
    go_wp2_with fail
    go_ret
    exact ⟨rfl, HEND.out⟩
  obtain ⟨rfl, hb7⟩ := hto.nil rfl
  have HOA := Lib.hid hoa; have HB7 := Lib.hid hb7
  have HRBW := Lib.hid (HRB.out w7 hb7)
  clear hto hoa hb7 d0 d1
  go_wp2_with fail
  refine HRBW.out.mono ?_; rintro e w8 hto
  obtain ⟨oa, hoa⟩ : ∃ o, progF B = o := ⟨_, rfl⟩
  rw [hoa] at hto
  rcases oa with _ | ⟨cc, pp⟩
  case some =>
    obtain ⟨fb, rfl, hf, hb8⟩ := hto.err rfl
    have HEND := Lib.hid (HB6.out.trans ((HB7.out.trans (hb8.mono HB7.out.size)).mono HB6.out.size))
    clear hto hf hb8 hoa
    go_wp2_with fail
    go_ret
    exact ⟨rfl, HEND.out⟩
  obtain ⟨rfl, hb8⟩ := hto.nil rfl
  have hb8 := HB7.out.trans (hb8.mono HB7.out.size)
  have HOB := Lib.hid hoa; have HB8 := Lib.hid hb8
  have HRTW := Lib.hid (HRT.out w8 hb8)
  obtain ⟨d0, d1⟩ := HC.out w8 hb8
  clear hto hoa hb8
  go_wp2_with fail
  refine HRTW.out.mono ?_; rintro e w9 hto
  obtain ⟨oa, hoa⟩ : ∃ o, rightF L E = o := ⟨_, rfl⟩
  rw [hoa] at hto
  rcases oa with _ | ⟨cc, pp⟩
  case some =>
    obtain ⟨fb, rfl, hf, hb9⟩ := hto.err rfl
    have HEND := Lib.hid (HB6.out.trans ((HB8.out.trans (hb9.mono HB8.out.size)).mono HB6.out.size))
    clear hto hf hb9 hoa d0 d1
    go_wp2_with fail
    go_ret
    exact ⟨rfl, HEND.out⟩
  obtain ⟨rfl, hb9⟩ := hto.nil rfl
  have hb9 := HB8.out.trans (hb9.mono HB8.out.size)
  obtain ⟨q1, q2, q3, q4, q5, q6⟩ := HPRE.out HOA.out HOB.out hoa
  have HQ1 := Lib.hid q1; have HQ2 := Lib.hid q2; have HQ3 := Lib.hid q3; have HQ4 := Lib.hid q4; have HQ5 := Lib.hid q5; have HQ6 := Lib.hid q6
  have HB9 := Lib.hid hb9
  clear hto hoa hb9 q1 q2 q3 q4 q5 q6 d0 d1
  have hzp := (Below.refl w9.heap.size w9).alloc (Nat.le_refl _) (.cells #[] 36)
  have HZp := Lib.hid hzp
  have HOZp := Lib.hid (own_none2 w9 w9.heap.size 36 (Nat.le_refl _))
  have HUp := Lib.hid (HEF.out.below (HB9.out.trans (hzp.mono HB9.out.size)) (Nat.le_refl _))
  have szp := hzp.size
  clear hzp
  go_wp2_with (at_builtin; refine wpList_appEdges _ rfl _ _ 27 36 rfl w9.heap.size j0 (.agg #[.int .i64 0, .int .i64 0]) Tryz.underlying27 hj0 hz0 rfl hz1 hz2 _ 0 _ rfl HOZp.out _ A rfl HUp.out (by rw [HNA.out]; have := HNA8.out; omega) szp ?_)
  intro Avp cvp wvp hovp hgvp
  rw [HNA.out] at hovp hgvp ⊢
  have hbvp := hgvp.below HOZp.out HZp.out (Nat.le_refl _) szp
  have HOVp := Lib.hid hovp
  have HVp := Lib.hid (HEG.out.below (HB9.out.trans (hbvp.mono HB9.out.size)) (Nat.le_refl _))
  have HBVp := Lib.hid hbvp
  have svp := hbvp.size
  clear hovp hgvp hbvp szp
  go_wp2_with (at_builtin; refine wpList_appEdges _ rfl _ _ 27 36 rfl w9.heap.size j0 (.agg #[.int .i64 0, .int .i64 0]) Tryz.underlying27 hj0 hz0 rfl hz1 hz2 _ na _ rfl HOVp.out _ B rfl HVp.out (by rw [HNB.out]; have := HNA8.out; have := HNB8.out; omega) svp ?_)
  intro Ap cp w10 hop hgp
  rw [HNB.out] at hop hgp ⊢
  have hbp := hgp.below HOVp.out HBVp.out (Nat.le_refl _) svp
  have HSp := Lib.hid (own_edges (E := A ++ B) (by rw [eL_app]; exact hop))
  have HB10 := Lib.hid (HB9.out.trans (hbp.mono HB9.out.size))
  have HDp := Lib.hid hbp
  clear hop hgp hbp svp
  have hzq := (Below.refl w10.heap.size w10).alloc (Nat.le_refl _) (.cells #[] 36)
  have HZq := Lib.hid hzq
  have HOZq := Lib.hid (own_none2 w10 w10.heap.size 36 (Nat.le_refl _))
  have HUq := Lib.hid (HEG.out.below (HB10.out.trans (hzq.mono HB10.out.size)) (Nat.le_refl _))
  have szq := hzq.size
  clear hzq
  go_wp2_with (at_builtin; refine wpList_appEdges _ rfl _ _ 27 36 rfl w10.heap.size j0 (.agg #[.int .i64 0, .int .i64 0]) Tryz.underlying27 hj0 hz0 rfl hz1 hz2 _ 0 _ rfl HOZq.out _ B rfl HUq.out (by rw [HNB.out]; have := HNB8.out; omega) szq ?_)
  intro Avq cvq wvq hovq hgvq
  rw [HNB.out] at hovq hgvq ⊢
  have hbvq := hgvq.below HOZq.out HZq.out (Nat.le_refl _) szq
  have HOVq := Lib.hid hovq
  have HVq := Lib.hid (HEF.out.below (HB10.out.trans (hbvq.mono HB10.out.size)) (Nat.le_refl _))
  have HBVq := Lib.hid hbvq
  have svq := hbvq.size
  clear hovq hgvq hbvq szq
  go_wp2_with (at_builtin; refine wpList_appEdges _ rfl _ _ 27 36 rfl w10.heap.size j0 (.agg #[.int .i64 0, .int .i64 0]) Tryz.underlying27 hj0 hz0 rfl hz1 hz2 _ nb _ rfl HOVq.out _ A rfl HVq.out (by rw [HNA.out]; have := HNB8.out; have := HNA8.out; omega) svq ?_)
  intro Aq cq w11 hoq hgq
  rw [HNA.out] at hoq hgq ⊢
  have hbq := hgq.below HOVq.out HBVq.out (Nat.le_refl _) svq
  have HSq := Lib.hid (own_edges (E := B ++ A) (by rw [eL_app]; exact hoq))
  have HB11 := Lib.hid (HB10.out.trans (hbq.mono HB10.out.size))
  have HDq := Lib.hid hbq
  clear hoq hgq hbq svq
  have hw12 := Whole.new w11 36 #[.int .i64 2, .int .i64 255, .int .i64 3, .int .i64 7, .int .i64 4, .int .i64 8, .int .i64 5, .int .i64 28]
  have hb12 := (Below.refl w11.heap.size w11).alloc (Nat.le_refl _) (.cells #[.int .i64 2, .int .i64 255, .int .i64 3, .int .i64 7, .int .i64 4, .int .i64 8, .int .i64 5, .int .i64 28] 36)
  obtain ⟨w12, hw12e⟩ : ∃ W, w11.alloc (.cells #[.int .i64 2, .int .i64 255, .int .i64 3, .int .i64 7, .int .i64 4, .int .i64 8, .int .i64 5, .int .i64 28] 36) = W := ⟨_, rfl⟩
  obtain ⟨mb, hmb⟩ : ∃ g, w11.heap.size = g := ⟨_, rfl⟩
  rw [hw12e] at hw12 hb12
  rw [hmb] at hw12
  have hb6x := HB11.out.trans (hb12.mono HB11.out.size)
  have S1 := Lib.hid ((HSp.out.below HDq.out (Nat.le_refl _)).below hb12 (Nat.le_refl _))
  have S2 := Lib.hid (HSq.out.below hb12 (Nat.le_refl _))
  have S3 := Lib.hid (own_fours hw12)
  have S4 := Lib.hid (HEF.out.below hb6x (Nat.le_refl _))
  have S5 := Lib.hid (HEG.out.below hb6x (Nat.le_refl _))
  have HB12 := Lib.hid hb6x; have HW12 := Lib.hid hw12e; have HMB := Lib.hid hmb
  have HCC : Hid (∀ W, Below w12.heap.size w12 W → W.cell? ⟨yb, 0, none⟩ = some (.slice Al n cl) ∧ W.cell? ⟨yb, 1, none⟩ = some (.slice A3 m c3)) := Lib.hid (fun W hb => HC.out W (HB12.out.trans (hb.mono HB12.out.size)))
  have HKW : Hid (∀ W vo O z, Below w12.heap.size w12 W → EdgesV w12 vo O → O.length ≤ 1000000 → keepsB O L E = z → Calls Tryz.prog 18 #[vo, .agg #[.slice Al n cl, .slice A3 m c3]] W fun e w' => e = .returned (.bool z) ∧ Below w12.heap.size w12 w') := Lib.hid (fun W vo O z hb ho h1 hz => by
    rw [← hz]
    exact (HKP.out W vo O (HB12.out.trans (hb.mono HB12.out.size)) (ho.below hb (Nat.le_refl _)) h1).mono fun e w' ⟨g1, g2⟩ => ⟨g1, hb.trans (g2.mono hb.size)⟩)
  have HFW : Hid (∀ W vo O z, Below w12.heap.size w12 W → EdgesV w12 vo O → O.length ≤ 1000000 → firstF O L E = z → Calls Tryz.prog 19 #[vo, .agg #[.slice Al n cl, .slice A3 m c3]] W fun e w' => e = .returned (.int .i64 z) ∧ Below w12.heap.size w12 w') := Lib.hid (fun W vo O z hb ho h1 hz => by
    rw [← hz]
    exact (HFI.out W vo O (HB12.out.trans (hb.mono HB12.out.size)) (ho.below hb (Nat.le_refl _)) h1).mono fun e w' ⟨g1, g2⟩ => ⟨g1, hb.trans (g2.mono hb.size)⟩)
  have HLW : Hid (∀ W vo O z, Below w12.heap.size w12 W → EdgesV w12 vo O → O.length ≤ 1000000 → fallsB O = z → Calls Tryz.prog 20 #[vo] W fun e w' => e = .returned (.bool z) ∧ Below w12.heap.size w12 w') := Lib.hid (fun W vo O z hb ho h1 hz => by
    rw [← hz]
    exact (falls_any (ho.below hb (Nat.le_refl _)) h1).mono fun e w' ⟨g1, g2⟩ => ⟨g1, hb.trans (g2.mono hb.size)⟩)
  have k1 : (A ++ B).length ≤ 1000000 := by rw [List.length_append, HNA.out, HNB.out]; have := HNA8.out; have := HNB8.out; omega
  have k2 : (B ++ A).length ≤ 1000000 := by rw [List.length_append, HNA.out, HNB.out]; have := HNA8.out; have := HNB8.out; omega
  have k3 : A.length ≤ 1000000 := by rw [HNA.out]; have := HNA8.out; omega
  have k4 : B.length ≤ 1000000 := by rw [HNB.out]; have := HNB8.out; omega
  have HK1 := Lib.hid k1; have HK2 := Lib.hid k2; have HK3 := Lib.hid k3; have HK4 := Lib.hid k4
  obtain ⟨zf, hzf⟩ : ∃ z, keepsB A L E = z := ⟨_, rfl⟩
  obtain ⟨zg, hzg⟩ : ∃ z, keepsB B L E = z := ⟨_, rfl⟩
  obtain ⟨pf, hpf⟩ : ∃ z, fallsB A = z := ⟨_, rfl⟩
  obtain ⟨pg, hpg⟩ : ∃ z, fallsB B = z := ⟨_, rfl⟩
  obtain ⟨r, hr⟩ : ∃ z, firstF (A ++ B) L E = z := ⟨_, rfl⟩
  rw [hzf, hzg] at HQ1 HQ2 HQ3
  rw [hr] at HQ3
  rw [hpf, hpg] at HQ4
  have HZF := Lib.hid hzf; have HZG := Lib.hid hzg; have HPF := Lib.hid hpf; have HPG := Lib.hid hpg; have HR := Lib.hid hr
  obtain ⟨d0, d1⟩ := HCC.out w12 (Below.refl _ _)
  have HX0 : Hid (Below w12.heap.size w12 w12) := Lib.hid (Below.refl _ _)
  clear hw12 hb12 hw12e hmb hb6x k1 k2 k3 k4 hzf hzg hpf hpg hr
  go_upto_region 12 with fail
  rw [HW12.out, HMB.out]
  cases zf with
  | true =>
    cases zg with
    | true =>
      cases pf with
      | true =>
        cases pg with
        | true =>
          have C0 := Lib.hid (HKW.out w12 _ A true HX0.out S4.out HK3.out HZF.out)
          go_wp2_with fail
          refine C0.out.mono ?_; rintro e u0 ⟨rfl, hx0⟩
          have HX1 := Lib.hid hx0
          clear hx0
          have C1 := Lib.hid (HKW.out u0 _ B true HX1.out S5.out HK4.out HZG.out)
          clear d0 d1
          obtain ⟨d0, d1⟩ := HCC.out u0 HX1.out
          go_wp2_with fail
          refine C1.out.mono ?_; rintro e u1 ⟨rfl, hx1⟩
          have HX2 := Lib.hid hx1
          clear hx1
          have C2 := Lib.hid (HKW.out u1 _ (A ++ B) true HX2.out S1.out HK1.out HQ1.out)
          clear d0 d1
          obtain ⟨d0, d1⟩ := HCC.out u1 HX2.out
          go_wp2_with fail
          refine C2.out.mono ?_; rintro e u2 ⟨rfl, hx2⟩
          have HX3 := Lib.hid hx2
          clear hx2
          have C3 := Lib.hid (HKW.out u2 _ (B ++ A) true HX3.out S2.out HK2.out HQ2.out)
          clear d0 d1
          obtain ⟨d0, d1⟩ := HCC.out u2 HX3.out
          go_wp2_with fail
          refine C3.out.mono ?_; rintro e u3 ⟨rfl, hx3⟩
          have HX4 := Lib.hid hx3
          clear hx3
          have C4 := Lib.hid (HKW.out u3 _ _ true HX4.out S3.out (by simp) HQ5.out)
          clear d0 d1
          obtain ⟨d0, d1⟩ := HCC.out u3 HX4.out
          go_wp2_with fail
          refine C4.out.mono ?_; rintro e u4 ⟨rfl, hx4⟩
          have HX5 := Lib.hid hx4
          clear hx4
          have t9 : decide (r < 0) = true := HQ3.out
          have C5 := Lib.hid (HFW.out u4 _ (A ++ B) r HX5.out S1.out HK1.out HR.out)
          clear d0 d1
          obtain ⟨d0, d1⟩ := HCC.out u4 HX5.out
          go_wp2_with fail
          refine C5.out.mono ?_; rintro e u5 ⟨rfl, hx5⟩
          have HX6 := Lib.hid hx5
          clear hx5
          have C6 := Lib.hid (HKW.out u5 (.slice none 0 0) [] true HX6.out (Or.inl ⟨rfl, _, _, rfl⟩) (by simp) HQ6.out)
          clear d0 d1
          obtain ⟨d0, d1⟩ := HCC.out u5 HX6.out
          go_wp2_with fail
          refine C6.out.mono ?_; rintro e u6 ⟨rfl, hx6⟩
          have HX7 := Lib.hid hx6
          clear hx6
          have C7 := Lib.hid (HLW.out u6 _ (A ++ B) true HX7.out S1.out HK1.out HQ4.out)
          clear d0 d1
          obtain ⟨d0, d1⟩ := HCC.out u6 HX7.out
          go_wp2_with fail
          refine C7.out.mono ?_; rintro e u7 ⟨rfl, hx7⟩
          have HX8 := Lib.hid hx7
          clear hx7
          have C8 := Lib.hid (HLW.out u7 _ A true HX8.out S4.out HK3.out HPF.out)
          clear d0 d1
          obtain ⟨d0, d1⟩ := HCC.out u7 HX8.out
          go_wp2_with fail
          refine C8.out.mono ?_; rintro e u8 ⟨rfl, hx8⟩
          have HX9 := Lib.hid hx8
          clear hx8
          have C9 := Lib.hid (HLW.out u8 _ B true HX9.out S5.out HK4.out HPG.out)
          clear d0 d1
          obtain ⟨d0, d1⟩ := HCC.out u8 HX9.out
          go_wp2_with fail
          refine C9.out.mono ?_; rintro e u9 ⟨rfl, hx9⟩
          have HX10 := Lib.hid hx9
          clear hx9
          have HEND := Lib.hid (HB6.out.trans ((HB12.out.trans (HX10.out.mono HB12.out.size)).mono HB6.out.size))
          clear d0 d1
          go_wp2_with fail
          go_ret
          exact ⟨rfl, HEND.out⟩
        | false =>
          have C0 := Lib.hid (HKW.out w12 _ A true HX0.out S4.out HK3.out HZF.out)
          go_wp2_with fail
          refine C0.out.mono ?_; rintro e u0 ⟨rfl, hx0⟩
          have HX1 := Lib.hid hx0
          clear hx0
          have C1 := Lib.hid (HKW.out u0 _ B true HX1.out S5.out HK4.out HZG.out)
          clear d0 d1
          obtain ⟨d0, d1⟩ := HCC.out u0 HX1.out
          go_wp2_with fail
          refine C1.out.mono ?_; rintro e u1 ⟨rfl, hx1⟩
          have HX2 := Lib.hid hx1
          clear hx1
          have C2 := Lib.hid (HKW.out u1 _ (A ++ B) true HX2.out S1.out HK1.out HQ1.out)
          clear d0 d1
          obtain ⟨d0, d1⟩ := HCC.out u1 HX2.out
          go_wp2_with fail
          refine C2.out.mono ?_; rintro e u2 ⟨rfl, hx2⟩
          have HX3 := Lib.hid hx2
          clear hx2
          have C3 := Lib.hid (HKW.out u2 _ (B ++ A) true HX3.out S2.out HK2.out HQ2.out)
          clear d0 d1
          obtain ⟨d0, d1⟩ := HCC.out u2 HX3.out
          go_wp2_with fail
          refine C3.out.mono ?_; rintro e u3 ⟨rfl, hx3⟩
          have HX4 := Lib.hid hx3
          clear hx3
          have C4 := Lib.hid (HKW.out u3 _ _ true HX4.out S3.out (by simp) HQ5.out)
          clear d0 d1
          obtain ⟨d0, d1⟩ := HCC.out u3 HX4.out
          go_wp2_with fail
          refine C4.out.mono ?_; rintro e u4 ⟨rfl, hx4⟩
          have HX5 := Lib.hid hx4
          clear hx4
          have t9 : decide (r < 0) = true := HQ3.out
          have C5 := Lib.hid (HFW.out u4 _ (A ++ B) r HX5.out S1.out HK1.out HR.out)
          clear d0 d1
          obtain ⟨d0, d1⟩ := HCC.out u4 HX5.out
          go_wp2_with fail
          refine C5.out.mono ?_; rintro e u5 ⟨rfl, hx5⟩
          have HX6 := Lib.hid hx5
          clear hx5
          have C6 := Lib.hid (HKW.out u5 (.slice none 0 0) [] true HX6.out (Or.inl ⟨rfl, _, _, rfl⟩) (by simp) HQ6.out)
          clear d0 d1
          obtain ⟨d0, d1⟩ := HCC.out u5 HX6.out
          go_wp2_with fail
          refine C6.out.mono ?_; rintro e u6 ⟨rfl, hx6⟩
          have HX7 := Lib.hid hx6
          clear hx6
          have C7 := Lib.hid (HLW.out u6 _ (A ++ B) false HX7.out S1.out HK1.out HQ4.out)
          clear d0 d1
          obtain ⟨d0, d1⟩ := HCC.out u6 HX7.out
          go_wp2_with fail
          refine C7.out.mono ?_; rintro e u7 ⟨rfl, hx7⟩
          have HX8 := Lib.hid hx7
          clear hx7
          have C8 := Lib.hid (HLW.out u7 _ A true HX8.out S4.out HK3.out HPF.out)
          clear d0 d1
          obtain ⟨d0, d1⟩ := HCC.out u7 HX8.out
          go_wp2_with fail
          refine C8.out.mono ?_; rintro e u8 ⟨rfl, hx8⟩
          have HX9 := Lib.hid hx8
          clear hx8
          have C9 := Lib.hid (HLW.out u8 _ B false HX9.out S5.out HK4.out HPG.out)
          clear d0 d1
          obtain ⟨d0, d1⟩ := HCC.out u8 HX9.out
          go_wp2_with fail
          refine C9.out.mono ?_; rintro e u9 ⟨rfl, hx9⟩
          have HX10 := Lib.hid hx9
          clear hx9
          have HEND := Lib.hid (HB6.out.trans ((HB12.out.trans (HX10.out.mono HB12.out.size)).mono HB6.out.size))
          clear d0 d1
          go_wp2_with fail
          go_ret
          exact ⟨rfl, HEND.out⟩
      | false =>
        have HQ4 : Hid (fallsB (A ++ B) = false) := Lib.hid (by rw [HQ4.out]; rfl)
        have C0 := Lib.hid (HKW.out w12 _ A true HX0.out S4.out HK3.out HZF.out)
        go_wp2_with fail
        refine C0.out.mono ?_; rintro e u0 ⟨rfl, hx0⟩
        have HX1 := Lib.hid hx0
        clear hx0
        have C1 := Lib.hid (HKW.out u0 _ B true HX1.out S5.out HK4.out HZG.out)
        clear d0 d1
        obtain ⟨d0, d1⟩ := HCC.out u0 HX1.out
        go_wp2_with fail
        refine C1.out.mono ?_; rintro e u1 ⟨rfl, hx1⟩
        have HX2 := Lib.hid hx1
        clear hx1
        have C2 := Lib.hid (HKW.out u1 _ (A ++ B) true HX2.out S1.out HK1.out HQ1.out)
        clear d0 d1
        obtain ⟨d0, d1⟩ := HCC.out u1 HX2.out
        go_wp2_with fail
        refine C2.out.mono ?_; rintro e u2 ⟨rfl, hx2⟩
        have HX3 := Lib.hid hx2
        clear hx2
        have C3 := Lib.hid (HKW.out u2 _ (B ++ A) true HX3.out S2.out HK2.out HQ2.out)
        clear d0 d1
        obtain ⟨d0, d1⟩ := HCC.out u2 HX3.out
        go_wp2_with fail
        refine C3.out.mono ?_; rintro e u3 ⟨rfl, hx3⟩
        have HX4 := Lib.hid hx3
        clear hx3
        have C4 := Lib.hid (HKW.out u3 _ _ true HX4.out S3.out (by simp) HQ5.out)
        clear d0 d1
        obtain ⟨d0, d1⟩ := HCC.out u3 HX4.out
        go_wp2_with fail
        refine C4.out.mono ?_; rintro e u4 ⟨rfl, hx4⟩
        have HX5 := Lib.hid hx4
        clear hx4
        have t9 : decide (r < 0) = true := HQ3.out
        have C5 := Lib.hid (HFW.out u4 _ (A ++ B) r HX5.out S1.out HK1.out HR.out)
        clear d0 d1
        obtain ⟨d0, d1⟩ := HCC.out u4 HX5.out
        go_wp2_with fail
        refine C5.out.mono ?_; rintro e u5 ⟨rfl, hx5⟩
        have HX6 := Lib.hid hx5
        clear hx5
        have C6 := Lib.hid (HKW.out u5 (.slice none 0 0) [] true HX6.out (Or.inl ⟨rfl, _, _, rfl⟩) (by simp) HQ6.out)
        clear d0 d1
        obtain ⟨d0, d1⟩ := HCC.out u5 HX6.out
        go_wp2_with fail
        refine C6.out.mono ?_; rintro e u6 ⟨rfl, hx6⟩
        have HX7 := Lib.hid hx6
        clear hx6
        have C7 := Lib.hid (HLW.out u6 _ (A ++ B) false HX7.out S1.out HK1.out HQ4.out)
        clear d0 d1
        obtain ⟨d0, d1⟩ := HCC.out u6 HX7.out
        go_wp2_with fail
        refine C7.out.mono ?_; rintro e u7 ⟨rfl, hx7⟩
        have HX8 := Lib.hid hx7
        clear hx7
        have C8 := Lib.hid (HLW.out u7 _ A false HX8.out S4.out HK3.out HPF.out)
        clear d0 d1
        obtain ⟨d0, d1⟩ := HCC.out u7 HX8.out
        go_wp2_with fail
        refine C8.out.mono ?_; rintro e u8 ⟨rfl, hx8⟩
        have HX9 := Lib.hid hx8
        clear hx8
        have HEND := Lib.hid (HB6.out.trans ((HB12.out.trans (HX9.out.mono HB12.out.size)).mono HB6.out.size))
        clear d0 d1
        go_wp2_with fail
        go_ret
        exact ⟨rfl, HEND.out⟩
    | false =>
      cases pf with
      | true =>
        cases pg with
        | true =>
          have C0 := Lib.hid (HKW.out w12 _ A true HX0.out S4.out HK3.out HZF.out)
          go_wp2_with fail
          refine C0.out.mono ?_; rintro e u0 ⟨rfl, hx0⟩
          have HX1 := Lib.hid hx0
          clear hx0
          have C1 := Lib.hid (HKW.out u0 _ B false HX1.out S5.out HK4.out HZG.out)
          clear d0 d1
          obtain ⟨d0, d1⟩ := HCC.out u0 HX1.out
          go_wp2_with fail
          refine C1.out.mono ?_; rintro e u1 ⟨rfl, hx1⟩
          have HX2 := Lib.hid hx1
          clear hx1
          have C2 := Lib.hid (HKW.out u1 _ (A ++ B) false HX2.out S1.out HK1.out HQ1.out)
          clear d0 d1
          obtain ⟨d0, d1⟩ := HCC.out u1 HX2.out
          go_wp2_with fail
          refine C2.out.mono ?_; rintro e u2 ⟨rfl, hx2⟩
          have HX3 := Lib.hid hx2
          clear hx2
          have C3 := Lib.hid (HKW.out u2 _ (B ++ A) false HX3.out S2.out HK2.out HQ2.out)
          clear d0 d1
          obtain ⟨d0, d1⟩ := HCC.out u2 HX3.out
          go_wp2_with fail
          refine C3.out.mono ?_; rintro e u3 ⟨rfl, hx3⟩
          have HX4 := Lib.hid hx3
          clear hx3
          have C4 := Lib.hid (HKW.out u3 _ _ true HX4.out S3.out (by simp) HQ5.out)
          clear d0 d1
          obtain ⟨d0, d1⟩ := HCC.out u3 HX4.out
          go_wp2_with fail
          refine C4.out.mono ?_; rintro e u4 ⟨rfl, hx4⟩
          have HX5 := Lib.hid hx4
          clear hx4
          have t9 : decide (r < 0) = false := HQ3.out
          have C5 := Lib.hid (HFW.out u4 _ (A ++ B) r HX5.out S1.out HK1.out HR.out)
          clear d0 d1
          obtain ⟨d0, d1⟩ := HCC.out u4 HX5.out
          go_wp2_with fail
          refine C5.out.mono ?_; rintro e u5 ⟨rfl, hx5⟩
          have HX6 := Lib.hid hx5
          clear hx5
          have C6 := Lib.hid (HKW.out u5 (.slice none 0 0) [] true HX6.out (Or.inl ⟨rfl, _, _, rfl⟩) (by simp) HQ6.out)
          clear d0 d1
          obtain ⟨d0, d1⟩ := HCC.out u5 HX6.out
          go_wp2_with fail
          refine C6.out.mono ?_; rintro e u6 ⟨rfl, hx6⟩
          have HX7 := Lib.hid hx6
          clear hx6
          have C7 := Lib.hid (HLW.out u6 _ (A ++ B) true HX7.out S1.out HK1.out HQ4.out)
          clear d0 d1
          obtain ⟨d0, d1⟩ := HCC.out u6 HX7.out
          go_wp2_with fail
          refine C7.out.mono ?_; rintro e u7 ⟨rfl, hx7⟩
          have HX8 := Lib.hid hx7
          clear hx7
          have C8 := Lib.hid (HLW.out u7 _ A true HX8.out S4.out HK3.out HPF.out)
          clear d0 d1
          obtain ⟨d0, d1⟩ := HCC.out u7 HX8.out
          go_wp2_with fail
          refine C8.out.mono ?_; rintro e u8 ⟨rfl, hx8⟩
          have HX9 := Lib.hid hx8
          clear hx8
          have C9 := Lib.hid (HLW.out u8 _ B true HX9.out S5.out HK4.out HPG.out)
          clear d0 d1
          obtain ⟨d0, d1⟩ := HCC.out u8 HX9.out
          go_wp2_with fail
          refine C9.out.mono ?_; rintro e u9 ⟨rfl, hx9⟩
          have HX10 := Lib.hid hx9
          clear hx9
          have HEND := Lib.hid (HB6.out.trans ((HB12.out.trans (HX10.out.mono HB12.out.size)).mono HB6.out.size))
          clear d0 d1
          go_wp2_with fail
          go_ret
          exact ⟨rfl, HEND.out⟩
        | false =>
          have C0 := Lib.hid (HKW.out w12 _ A true HX0.out S4.out HK3.out HZF.out)
          go_wp2_with fail
          refine C0.out.mono ?_; rintro e u0 ⟨rfl, hx0⟩
          have HX1 := Lib.hid hx0
          clear hx0
          have C1 := Lib.hid (HKW.out u0 _ B false HX1.out S5.out HK4.out HZG.out)
          clear d0 d1
          obtain ⟨d0, d1⟩ := HCC.out u0 HX1.out
          go_wp2_with fail
          refine C1.out.mono ?_; rintro e u1 ⟨rfl, hx1⟩
          have HX2 := Lib.hid hx1
          clear hx1
          have C2 := Lib.hid (HKW.out u1 _ (A ++ B) false HX2.out S1.out HK1.out HQ1.out)
          clear d0 d1
          obtain ⟨d0, d1⟩ := HCC.out u1 HX2.out
          go_wp2_with fail
          refine C2.out.mono ?_; rintro e u2 ⟨rfl, hx2⟩
          have HX3 := Lib.hid hx2
          clear hx2
          have C3 := Lib.hid (HKW.out u2 _ (B ++ A) false HX3.out S2.out HK2.out HQ2.out)
          clear d0 d1
          obtain ⟨d0, d1⟩ := HCC.out u2 HX3.out
          go_wp2_with fail
          refine C3.out.mono ?_; rintro e u3 ⟨rfl, hx3⟩
          have HX4 := Lib.hid hx3
          clear hx3
          have C4 := Lib.hid (HKW.out u3 _ _ true HX4.out S3.out (by simp) HQ5.out)
          clear d0 d1
          obtain ⟨d0, d1⟩ := HCC.out u3 HX4.out
          go_wp2_with fail
          refine C4.out.mono ?_; rintro e u4 ⟨rfl, hx4⟩
          have HX5 := Lib.hid hx4
          clear hx4
          have t9 : decide (r < 0) = false := HQ3.out
          have C5 := Lib.hid (HFW.out u4 _ (A ++ B) r HX5.out S1.out HK1.out HR.out)
          clear d0 d1
          obtain ⟨d0, d1⟩ := HCC.out u4 HX5.out
          go_wp2_with fail
          refine C5.out.mono ?_; rintro e u5 ⟨rfl, hx5⟩
          have HX6 := Lib.hid hx5
          clear hx5
          have C6 := Lib.hid (HKW.out u5 (.slice none 0 0) [] true HX6.out (Or.inl ⟨rfl, _, _, rfl⟩) (by simp) HQ6.out)
          clear d0 d1
          obtain ⟨d0, d1⟩ := HCC.out u5 HX6.out
          go_wp2_with fail
          refine C6.out.mono ?_; rintro e u6 ⟨rfl, hx6⟩
          have HX7 := Lib.hid hx6
          clear hx6
          have C7 := Lib.hid (HLW.out u6 _ (A ++ B) false HX7.out S1.out HK1.out HQ4.out)
          clear d0 d1
          obtain ⟨d0, d1⟩ := HCC.out u6 HX7.out
          go_wp2_with fail
          refine C7.out.mono ?_; rintro e u7 ⟨rfl, hx7⟩
          have HX8 := Lib.hid hx7
          clear hx7
          have C8 := Lib.hid (HLW.out u7 _ A true HX8.out S4.out HK3.out HPF.out)
          clear d0 d1
          obtain ⟨d0, d1⟩ := HCC.out u7 HX8.out
          go_wp2_with fail
          refine C8.out.mono ?_; rintro e u8 ⟨rfl, hx8⟩
          have HX9 := Lib.hid hx8
          clear hx8
          have C9 := Lib.hid (HLW.out u8 _ B false HX9.out S5.out HK4.out HPG.out)
          clear d0 d1
          obtain ⟨d0, d1⟩ := HCC.out u8 HX9.out
          go_wp2_with fail
          refine C9.out.mono ?_; rintro e u9 ⟨rfl, hx9⟩
          have HX10 := Lib.hid hx9
          clear hx9
          have HEND := Lib.hid (HB6.out.trans ((HB12.out.trans (HX10.out.mono HB12.out.size)).mono HB6.out.size))
          clear d0 d1
          go_wp2_with fail
          go_ret
          exact ⟨rfl, HEND.out⟩
      | false =>
        have HQ4 : Hid (fallsB (A ++ B) = false) := Lib.hid (by rw [HQ4.out]; rfl)
        have C0 := Lib.hid (HKW.out w12 _ A true HX0.out S4.out HK3.out HZF.out)
        go_wp2_with fail
        refine C0.out.mono ?_; rintro e u0 ⟨rfl, hx0⟩
        have HX1 := Lib.hid hx0
        clear hx0
        have C1 := Lib.hid (HKW.out u0 _ B false HX1.out S5.out HK4.out HZG.out)
        clear d0 d1
        obtain ⟨d0, d1⟩ := HCC.out u0 HX1.out
        go_wp2_with fail
        refine C1.out.mono ?_; rintro e u1 ⟨rfl, hx1⟩
        have HX2 := Lib.hid hx1
        clear hx1
        have C2 := Lib.hid (HKW.out u1 _ (A ++ B) false HX2.out S1.out HK1.out HQ1.out)
        clear d0 d1
        obtain ⟨d0, d1⟩ := HCC.out u1 HX2.out
        go_wp2_with fail
        refine C2.out.mono ?_; rintro e u2 ⟨rfl, hx2⟩
        have HX3 := Lib.hid hx2
        clear hx2
        have C3 := Lib.hid (HKW.out u2 _ (B ++ A) false HX3.out S2.out HK2.out HQ2.out)
        clear d0 d1
        obtain ⟨d0, d1⟩ := HCC.out u2 HX3.out
        go_wp2_with fail
        refine C3.out.mono ?_; rintro e u3 ⟨rfl, hx3⟩
        have HX4 := Lib.hid hx3
        clear hx3
        have C4 := Lib.hid (HKW.out u3 _ _ true HX4.out S3.out (by simp) HQ5.out)
        clear d0 d1
        obtain ⟨d0, d1⟩ := HCC.out u3 HX4.out
        go_wp2_with fail
        refine C4.out.mono ?_; rintro e u4 ⟨rfl, hx4⟩
        have HX5 := Lib.hid hx4
        clear hx4
        have t9 : decide (r < 0) = false := HQ3.out
        have C5 := Lib.hid (HFW.out u4 _ (A ++ B) r HX5.out S1.out HK1.out HR.out)
        clear d0 d1
        obtain ⟨d0, d1⟩ := HCC.out u4 HX5.out
        go_wp2_with fail
        refine C5.out.mono ?_; rintro e u5 ⟨rfl, hx5⟩
        have HX6 := Lib.hid hx5
        clear hx5
        have C6 := Lib.hid (HKW.out u5 (.slice none 0 0) [] true HX6.out (Or.inl ⟨rfl, _, _, rfl⟩) (by simp) HQ6.out)
        clear d0 d1
        obtain ⟨d0, d1⟩ := HCC.out u5 HX6.out
        go_wp2_with fail
        refine C6.out.mono ?_; rintro e u6 ⟨rfl, hx6⟩
        have HX7 := Lib.hid hx6
        clear hx6
        have C7 := Lib.hid (HLW.out u6 _ (A ++ B) false HX7.out S1.out HK1.out HQ4.out)
        clear d0 d1
        obtain ⟨d0, d1⟩ := HCC.out u6 HX7.out
        go_wp2_with fail
        refine C7.out.mono ?_; rintro e u7 ⟨rfl, hx7⟩
        have HX8 := Lib.hid hx7
        clear hx7
        have C8 := Lib.hid (HLW.out u7 _ A false HX8.out S4.out HK3.out HPF.out)
        clear d0 d1
        obtain ⟨d0, d1⟩ := HCC.out u7 HX8.out
        go_wp2_with fail
        refine C8.out.mono ?_; rintro e u8 ⟨rfl, hx8⟩
        have HX9 := Lib.hid hx8
        clear hx8
        have HEND := Lib.hid (HB6.out.trans ((HB12.out.trans (HX9.out.mono HB12.out.size)).mono HB6.out.size))
        clear d0 d1
        go_wp2_with fail
        go_ret
        exact ⟨rfl, HEND.out⟩
  | false =>
    have HQ1 : Hid (keepsB (A ++ B) L E = false) := Lib.hid (by rw [HQ1.out]; rfl)
    have HQ2 : Hid (keepsB (B ++ A) L E = false) := Lib.hid (by rw [HQ2.out]; rfl)
    have HQ3 : Hid (decide (r < 0) = false) := Lib.hid (by rw [HQ3.out]; rfl)
    cases pf with
    | true =>
      cases pg with
      | true =>
        have C0 := Lib.hid (HKW.out w12 _ A false HX0.out S4.out HK3.out HZF.out)
        go_wp2_with fail
        refine C0.out.mono ?_; rintro e u0 ⟨rfl, hx0⟩
        have HX1 := Lib.hid hx0
        clear hx0
        have C1 := Lib.hid (HKW.out u0 _ (A ++ B) false HX1.out S1.out HK1.out HQ1.out)
        clear d0 d1
        obtain ⟨d0, d1⟩ := HCC.out u0 HX1.out
        go_wp2_with fail
        refine C1.out.mono ?_; rintro e u1 ⟨rfl, hx1⟩
        have HX2 := Lib.hid hx1
        clear hx1
        have C2 := Lib.hid (HKW.out u1 _ (B ++ A) false HX2.out S2.out HK2.out HQ2.out)
        clear d0 d1
        obtain ⟨d0, d1⟩ := HCC.out u1 HX2.out
        go_wp2_with fail
        refine C2.out.mono ?_; rintro e u2 ⟨rfl, hx2⟩
        have HX3 := Lib.hid hx2
        clear hx2
        have C3 := Lib.hid (HKW.out u2 _ _ true HX3.out S3.out (by simp) HQ5.out)
        clear d0 d1
        obtain ⟨d0, d1⟩ := HCC.out u2 HX3.out
        go_wp2_with fail
        refine C3.out.mono ?_; rintro e u3 ⟨rfl, hx3⟩
        have HX4 := Lib.hid hx3
        clear hx3
        have t9 : decide (r < 0) = false := HQ3.out
        have C4 := Lib.hid (HFW.out u3 _ (A ++ B) r HX4.out S1.out HK1.out HR.out)
        clear d0 d1
        obtain ⟨d0, d1⟩ := HCC.out u3 HX4.out
        go_wp2_with fail
        refine C4.out.mono ?_; rintro e u4 ⟨rfl, hx4⟩
        have HX5 := Lib.hid hx4
        clear hx4
        have C5 := Lib.hid (HKW.out u4 (.slice none 0 0) [] true HX5.out (Or.inl ⟨rfl, _, _, rfl⟩) (by simp) HQ6.out)
        clear d0 d1
        obtain ⟨d0, d1⟩ := HCC.out u4 HX5.out
        go_wp2_with fail
        refine C5.out.mono ?_; rintro e u5 ⟨rfl, hx5⟩
        have HX6 := Lib.hid hx5
        clear hx5
        have C6 := Lib.hid (HLW.out u5 _ (A ++ B) true HX6.out S1.out HK1.out HQ4.out)
        clear d0 d1
        obtain ⟨d0, d1⟩ := HCC.out u5 HX6.out
        go_wp2_with fail
        refine C6.out.mono ?_; rintro e u6 ⟨rfl, hx6⟩
        have HX7 := Lib.hid hx6
        clear hx6
        have C7 := Lib.hid (HLW.out u6 _ A true HX7.out S4.out HK3.out HPF.out)
        clear d0 d1
        obtain ⟨d0, d1⟩ := HCC.out u6 HX7.out
        go_wp2_with fail
        refine C7.out.mono ?_; rintro e u7 ⟨rfl, hx7⟩
        have HX8 := Lib.hid hx7
        clear hx7
        have C8 := Lib.hid (HLW.out u7 _ B true HX8.out S5.out HK4.out HPG.out)
        clear d0 d1
        obtain ⟨d0, d1⟩ := HCC.out u7 HX8.out
        go_wp2_with fail
        refine C8.out.mono ?_; rintro e u8 ⟨rfl, hx8⟩
        have HX9 := Lib.hid hx8
        clear hx8
        have HEND := Lib.hid (HB6.out.trans ((HB12.out.trans (HX9.out.mono HB12.out.size)).mono HB6.out.size))
        clear d0 d1
        go_wp2_with fail
        go_ret
        exact ⟨rfl, HEND.out⟩
      | false =>
        have C0 := Lib.hid (HKW.out w12 _ A false HX0.out S4.out HK3.out HZF.out)
        go_wp2_with fail
        refine C0.out.mono ?_; rintro e u0 ⟨rfl, hx0⟩
        have HX1 := Lib.hid hx0
        clear hx0
        have C1 := Lib.hid (HKW.out u0 _ (A ++ B) false HX1.out S1.out HK1.out HQ1.out)
        clear d0 d1
        obtain ⟨d0, d1⟩ := HCC.out u0 HX1.out
        go_wp2_with fail
        refine C1.out.mono ?_; rintro e u1 ⟨rfl, hx1⟩
        have HX2 := Lib.hid hx1
        clear hx1
        have C2 := Lib.hid (HKW.out u1 _ (B ++ A) false HX2.out S2.out HK2.out HQ2.out)
        clear d0 d1
        obtain ⟨d0, d1⟩ := HCC.out u1 HX2.out
        go_wp2_with fail
        refine C2.out.mono ?_; rintro e u2 ⟨rfl, hx2⟩
        have HX3 := Lib.hid hx2
        clear hx2
        have C3 := Lib.hid (HKW.out u2 _ _ true HX3.out S3.out (by simp) HQ5.out)
        clear d0 d1
        obtain ⟨d0, d1⟩ := HCC.out u2 HX3.out
        go_wp2_with fail
        refine C3.out.mono ?_; rintro e u3 ⟨rfl, hx3⟩
        have HX4 := Lib.hid hx3
        clear hx3
        have t9 : decide (r < 0) = false := HQ3.out
        have C4 := Lib.hid (HFW.out u3 _ (A ++ B) r HX4.out S1.out HK1.out HR.out)
        clear d0 d1
        obtain ⟨d0, d1⟩ := HCC.out u3 HX4.out
        go_wp2_with fail
        refine C4.out.mono ?_; rintro e u4 ⟨rfl, hx4⟩
        have HX5 := Lib.hid hx4
        clear hx4
        have C5 := Lib.hid (HKW.out u4 (.slice none 0 0) [] true HX5.out (Or.inl ⟨rfl, _, _, rfl⟩) (by simp) HQ6.out)
        clear d0 d1
        obtain ⟨d0, d1⟩ := HCC.out u4 HX5.out
        go_wp2_with fail
        refine C5.out.mono ?_; rintro e u5 ⟨rfl, hx5⟩
        have HX6 := Lib.hid hx5
        clear hx5
        have C6 := Lib.hid (HLW.out u5 _ (A ++ B) false HX6.out S1.out HK1.out HQ4.out)
        clear d0 d1
        obtain ⟨d0, d1⟩ := HCC.out u5 HX6.out
        go_wp2_with fail
        refine C6.out.mono ?_; rintro e u6 ⟨rfl, hx6⟩
        have HX7 := Lib.hid hx6
        clear hx6
        have C7 := Lib.hid (HLW.out u6 _ A true HX7.out S4.out HK3.out HPF.out)
        clear d0 d1
        obtain ⟨d0, d1⟩ := HCC.out u6 HX7.out
        go_wp2_with fail
        refine C7.out.mono ?_; rintro e u7 ⟨rfl, hx7⟩
        have HX8 := Lib.hid hx7
        clear hx7
        have C8 := Lib.hid (HLW.out u7 _ B false HX8.out S5.out HK4.out HPG.out)
        clear d0 d1
        obtain ⟨d0, d1⟩ := HCC.out u7 HX8.out
        go_wp2_with fail
        refine C8.out.mono ?_; rintro e u8 ⟨rfl, hx8⟩
        have HX9 := Lib.hid hx8
        clear hx8
        have HEND := Lib.hid (HB6.out.trans ((HB12.out.trans (HX9.out.mono HB12.out.size)).mono HB6.out.size))
        clear d0 d1
        go_wp2_with fail
        go_ret
        exact ⟨rfl, HEND.out⟩
    | false =>
      have HQ4 : Hid (fallsB (A ++ B) = false) := Lib.hid (by rw [HQ4.out]; rfl)
      have C0 := Lib.hid (HKW.out w12 _ A false HX0.out S4.out HK3.out HZF.out)
      go_wp2_with fail
      refine C0.out.mono ?_; rintro e u0 ⟨rfl, hx0⟩
      have HX1 := Lib.hid hx0
      clear hx0
      have C1 := Lib.hid (HKW.out u0 _ (A ++ B) false HX1.out S1.out HK1.out HQ1.out)
      clear d0 d1
      obtain ⟨d0, d1⟩ := HCC.out u0 HX1.out
      go_wp2_with fail
      refine C1.out.mono ?_; rintro e u1 ⟨rfl, hx1⟩
      have HX2 := Lib.hid hx1
      clear hx1
      have C2 := Lib.hid (HKW.out u1 _ (B ++ A) false HX2.out S2.out HK2.out HQ2.out)
      clear d0 d1
      obtain ⟨d0, d1⟩ := HCC.out u1 HX2.out
      go_wp2_with fail
      refine C2.out.mono ?_; rintro e u2 ⟨rfl, hx2⟩
      have HX3 := Lib.hid hx2
      clear hx2
      have C3 := Lib.hid (HKW.out u2 _ _ true HX3.out S3.out (by simp) HQ5.out)
      clear d0 d1
      obtain ⟨d0, d1⟩ := HCC.out u2 HX3.out
      go_wp2_with fail
      refine C3.out.mono ?_; rintro e u3 ⟨rfl, hx3⟩
      have HX4 := Lib.hid hx3
      clear hx3
      have t9 : decide (r < 0) = false := HQ3.out
      have C4 := Lib.hid (HFW.out u3 _ (A ++ B) r HX4.out S1.out HK1.out HR.out)
      clear d0 d1
      obtain ⟨d0, d1⟩ := HCC.out u3 HX4.out
      go_wp2_with fail
      refine C4.out.mono ?_; rintro e u4 ⟨rfl, hx4⟩
      have HX5 := Lib.hid hx4
      clear hx4
      have C5 := Lib.hid (HKW.out u4 (.slice none 0 0) [] true HX5.out (Or.inl ⟨rfl, _, _, rfl⟩) (by simp) HQ6.out)
      clear d0 d1
      obtain ⟨d0, d1⟩ := HCC.out u4 HX5.out
      go_wp2_with fail
      refine C5.out.mono ?_; rintro e u5 ⟨rfl, hx5⟩
      have HX6 := Lib.hid hx5
      clear hx5
      have C6 := Lib.hid (HLW.out u5 _ (A ++ B) false HX6.out S1.out HK1.out HQ4.out)
      clear d0 d1
      obtain ⟨d0, d1⟩ := HCC.out u5 HX6.out
      go_wp2_with fail
      refine C6.out.mono ?_; rintro e u6 ⟨rfl, hx6⟩
      have HX7 := Lib.hid hx6
      clear hx6
      have C7 := Lib.hid (HLW.out u6 _ A false HX7.out S4.out HK3.out HPF.out)
      clear d0 d1
      obtain ⟨d0, d1⟩ := HCC.out u6 HX7.out
      go_wp2_with fail
      refine C7.out.mono ?_; rintro e u7 ⟨rfl, hx7⟩
      have HX8 := Lib.hid hx7
      clear hx7
      have HEND := Lib.hid (HB6.out.trans ((HB12.out.trans (HX8.out.mono HB12.out.size)).mono HB6.out.size))
      clear d0 d1
      go_wp2_with fail
      go_ret
      exact ⟨rfl, HEND.out⟩
end Go.Proofs.YtiloomogkngflaaGreatDoor
