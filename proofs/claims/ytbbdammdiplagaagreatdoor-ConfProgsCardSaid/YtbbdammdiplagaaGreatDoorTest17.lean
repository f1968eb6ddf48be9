/- prog: what is told of a pattern by a test's closures; Test, but for the kinds unlike and free. -/
import Derived.Test.YtbbdammdiplagaaGreatDoorPg17c
import Derived.Test.YtbbdammdiplagaaGreatDoorIdx17
import Derived.Test.YtbbdammdiplagaaGreatDoorPg17Q
namespace Go.Proofs.YtbbdammdiplagaaGreatDoor
open Go.RowKit

theorem cl_lab (x n : Int) (g : Nat) (w : World) (h : w.cell? ⟨g, 1, none⟩ = some (.int .i64 n)) : Calls Tryz.prog 78 #[.int .i64 x, .pointer (some ⟨g, 0, none⟩)] w fun e w' => e = .returned (.bool (decide (n < x))) ∧ w' = w := by
  go_enter Tryz.func78, Tryz.ntmps78
  go_wp2_with fail
  go_ret
  exact ⟨rfl, rfl⟩
theorem cl_only (x n : Int) (g : Nat) (w : World) (h : w.cell? ⟨g, 1, none⟩ = some (.int .i64 n)) : Calls Tryz.prog 85 #[.int .i64 x, .pointer (some ⟨g, 0, none⟩)] w fun e w' => e = .returned (.bool (decide (x ≠ n))) ∧ w' = w := by
  have HB : Hid ((x != n) = decide (x ≠ n)) := Lib.hid (by rw [Bool.eq_iff_iff]; simp)
  go_enter Tryz.func85, Tryz.ntmps85
  go_wp2_with fail
  go_ret
  exact ⟨by rw [← HB.out]; rfl, rfl⟩
set_option maxRecDepth 100000 in
set_option maxHeartbeats 2000000 in
theorem cl_deg (a b n : Int) (pb ob : Nat) (w : World) (Al : Option Addr) (nl cl : Nat) (ve : Value) (E : List (Int × Int)) (hp : Whole w pb 52 #[.slice Al nl cl, ve]) (ho : w.cell? ⟨ob, 1, none⟩ = some (.int .i64 n)) (he : EdgesV w ve E) (hl : E.length ≤ 1000000) :
    Calls Tryz.prog 80 #[.agg #[.int .i64 a, .int .i64 b], .pointer (some ⟨pb, 0, none⟩), .pointer (some ⟨ob, 0, none⟩)] w fun e w' => e = .returned (.bool (decide (n < max (degI E a) (degI E b)))) ∧ Below w.heap.size w w' := by
  obtain ⟨Ae, ce, rfl⟩ := he.form
  obtain ⟨m, hm⟩ : ∃ m, E.length = m := ⟨_, rfl⟩
  rw [hm] at hp he hl
  have hb1 : Below w.heap.size w (w.alloc (.cells #[.int .i64 a, .int .i64 b] 54)) := (Below.refl _ _).alloc (Nat.le_refl _) _
  have hx := Whole.new w 54 #[.int .i64 a, .int .i64 b]
  obtain ⟨w1, hw1⟩ : ∃ W, w.alloc (.cells #[.int .i64 a, .int .i64 b] 54) = W := ⟨_, rfl⟩
  obtain ⟨xb, hxb⟩ : ∃ g, w.heap.size = g := ⟨_, rfl⟩
  rw [hw1] at hb1 hx
  rw [hxb] at hx
  have hp1 := hp.below hb1 hp.lt
  have ho1 : w1.cell? ⟨ob, 1, none⟩ = some (.int .i64 n) := (hb1.cell (p := ⟨ob, 1, none⟩) (World.block_lt_of_cell? _ _ ho)).trans ho
  have he1 := he.below hb1 (Nat.le_refl _)
  have DG : ∀ (v : Int) (W : World), Below w1.heap.size w1 W → Calls Tryz.prog 81 #[.agg #[.slice Al nl cl, .slice Ae m ce], .int .i64 v] W fun e w' => e = .returned (.int .i64 (degI E v)) ∧ Below w1.heap.size w1 w' := fun v W hb =>
    (degree_any (he1.below hb (Nat.le_refl _)) hm hl v).mono fun e w' ⟨h1, h2⟩ => ⟨h1, hb.trans (h2.mono hb.size)⟩
  have x0 : w1.cell? ⟨xb, 0, none⟩ = some (.int .i64 a) := hx.cell 0
  have x1 : w1.cell? ⟨xb, 1, none⟩ = some (.int .i64 b) := hx.cell 1
  have p0 : w1.cell? ⟨pb, 0, none⟩ = some (.slice Al nl cl) := hp1.cell 0
  have p1 : w1.cell? ⟨pb, 1, none⟩ = some (.slice Ae m ce) := hp1.cell 1
  have hol := World.block_lt_of_cell? _ _ ho1
  have KS := Lib.hid (fun (W : World) (hb : Below w1.heap.size w1 W) => (show Below w1.heap.size w1 W ∧ W.cell? ⟨xb, 0, none⟩ = some (.int .i64 a) ∧ W.cell? ⟨xb, 1, none⟩ = some (.int .i64 b) ∧ W.cell? ⟨pb, 0, none⟩ = some (.slice Al nl cl) ∧ W.cell? ⟨pb, 1, none⟩ = some (.slice Ae m ce) ∧ W.cell? ⟨ob, 1, none⟩ = some (.int .i64 n) from
    ⟨hb, (hb.cell (p := ⟨xb, 0, none⟩) hx.lt).trans x0, (hb.cell (p := ⟨xb, 1, none⟩) hx.lt).trans x1, (hb.cell (p := ⟨pb, 0, none⟩) hp1.lt).trans p0, (hb.cell (p := ⟨pb, 1, none⟩) hp1.lt).trans p1, (hb.cell (p := ⟨ob, 1, none⟩) hol).trans ho1⟩))
  obtain ⟨da, hda⟩ : ∃ d, degI E a = d := ⟨_, rfl⟩
  obtain ⟨db, hdb⟩ : ∃ d, degI E b = d := ⟨_, rfl⟩
  have DA := DG a
  have DB := DG b
  rw [hda] at DA ⊢
  rw [hdb] at DB ⊢
  have HDA := Lib.hid DA; have HDB := Lib.hid DB; have HW1 := Lib.hid hw1; have HXB := Lib.hid hxb; have HB1 := Lib.hid hb1
  clear hp ho he hl hm hb1 hx hp1 he1 DG hda hdb DA DB hw1 hxb hol ho1
  go_enter Tryz.func80, Tryz.ntmps80
  go_upto_region 1 with fail
  rw [HW1.out, HXB.out]
  have BR : Below w1.heap.size w1 w1 := Below.refl _ _
  go_region_held3 (fun W => Below w1.heap.size w1 W ∧ W.cell? ⟨xb, 0, none⟩ = some (.int .i64 a) ∧ W.cell? ⟨xb, 1, none⟩ = some (.int .i64 b) ∧ W.cell? ⟨pb, 0, none⟩ = some (.slice Al nl cl) ∧ W.cell? ⟨pb, 1, none⟩ = some (.slice Ae m ce) ∧ W.cell? ⟨ob, 1, none⟩ = some (.int .i64 n))
    ((refine KS.out _ ?_; first | assumption | exact below_drewN' (Below.refl _ _) _))
    (first
      | (go_at_call_of 81 (Value.int .i64 a); refine (HDA.out _ (by first | assumption | exact below_drewN' (Below.refl _ _) _)).mono ?_; rintro e' w4 ⟨rfl, hb4⟩)
      | (go_at_call_of 81 (Value.int .i64 b); refine (HDB.out _ (by first | assumption | exact below_drewN' (Below.refl _ _) _)).mono ?_; rintro e' w5 ⟨rfl, hb5⟩))
  all_goals
    go_wp2_with fail
    go_ret
    refine ⟨?_, ?_⟩
    · rfl
    · exact HB1.out.trans ((show Below w1.heap.size w1 _ by assumption).mono HB1.out.size)
theorem w64 {x : Int} (h0 : 0 ≤ x) (h1 : x ≤ 1000) : wrap64 x = x := by unfold wrap64; omega
theorem clique_eq {m n : Nat} (h : n ≤ 8) : ((m : Int) == wrap64 ((wrap64 ((n : Int) * ((n : Int) - 1))).tdiv 2)) = decide (m = n * (n - 1) / 2) := by
  have hn : n = 0 ∨ n = 1 ∨ n = 2 ∨ n = 3 ∨ n = 4 ∨ n = 5 ∨ n = 6 ∨ n = 7 ∨ n = 8 := by omega
  rw [Bool.eq_iff_iff, beq_iff_eq, decide_eq_true_iff]
  rcases hn with rfl | rfl | rfl | rfl | rfl | rfl | rfl | rfl | rfl
  · rw [show (((0 : Nat) : Int) * (((0 : Nat) : Int) - 1)) = 0 by decide, show wrap64 0 = 0 from w64 (by decide) (by decide), show (0 : Int).tdiv 2 = 0 by decide, w64 (by decide) (by decide)]; omega
  · rw [show (((1 : Nat) : Int) * (((1 : Nat) : Int) - 1)) = 0 by decide, show wrap64 0 = 0 from w64 (by decide) (by decide), show (0 : Int).tdiv 2 = 0 by decide, w64 (by decide) (by decide)]; omega
  · rw [show (((2 : Nat) : Int) * (((2 : Nat) : Int) - 1)) = 2 by decide, show wrap64 2 = 2 from w64 (by decide) (by decide), show (2 : Int).tdiv 2 = 1 by decide, w64 (by decide) (by decide)]; omega
  · rw [show (((3 : Nat) : Int) * (((3 : Nat) : Int) - 1)) = 6 by decide, show wrap64 6 = 6 from w64 (by decide) (by decide), show (6 : Int).tdiv 2 = 3 by decide, w64 (by decide) (by decide)]; omega
  · rw [show (((4 : Nat) : Int) * (((4 : Nat) : Int) - 1)) = 12 by decide, show wrap64 12 = 12 from w64 (by decide) (by decide), show (12 : Int).tdiv 2 = 6 by decide, w64 (by decide) (by decide)]; omega
  · rw [show (((5 : Nat) : Int) * (((5 : Nat) : Int) - 1)) = 20 by decide, show wrap64 20 = 20 from w64 (by decide) (by decide), show (20 : Int).tdiv 2 = 10 by decide, w64 (by decide) (by decide)]; omega
  · rw [show (((6 : Nat) : Int) * (((6 : Nat) : Int) - 1)) = 30 by decide, show wrap64 30 = 30 from w64 (by decide) (by decide), show (30 : Int).tdiv 2 = 15 by decide, w64 (by decide) (by decide)]; omega
  · rw [show (((7 : Nat) : Int) * (((7 : Nat) : Int) - 1)) = 42 by decide, show wrap64 42 = 42 from w64 (by decide) (by decide), show (42 : Int).tdiv 2 = 21 by decide, w64 (by decide) (by decide)]; omega
  · rw [show (((8 : Nat) : Int) * (((8 : Nat) : Int) - 1)) = 56 by decide, show wrap64 56 = 56 from w64 (by decide) (by decide), show (56 : Int).tdiv 2 = 28 by decide, w64 (by decide) (by decide)]; omega
theorem testB_wrong {a b : Int} {L : List Int} {E : List (Int × Int)} (h : wrongF (a, b) ≠ 0) : testB (a, b) L E = false := by unfold testB; rw [decide_eq_false h]; rfl
theorem testB_bad {a b : Int} {L : List Int} {E : List (Int × Int)} {x : Int × Int} (h : rightF L E = some x) : testB (a, b) L E = false := by unfold testB; rw [h]; simp
theorem testB_of {a b : Int} {L : List Int} {E : List (Int × Int)} (h : wrongF (a, b) = 0) (k : rightF L E = none) : testB (a, b) L E = testR (a, b) L E := by unfold testB; rw [decide_eq_true h, k]; rfl
set_option maxRecDepth 100000 in
set_option maxHeartbeats 8000000 in
theorem test_any {w : World} {vl ve : Value} {L : List Int} {E : List (Int × Int)} (hl : SeqV w vl L) (he : EdgesV w ve E) (h1 : L.length ≤ 1000000) (h2 : E.length ≤ 1000000) (a b : Int) (hk6 : a ≠ 6) (hk8 : a ≠ 8) :
    Calls Tryz.prog 63 #[.agg #[.int .i64 a, .int .i64 b], .agg #[vl, ve]] w fun e w' => e = .returned (.bool (testB (a, b) L E)) ∧ Below w.heap.size w w' := by
  obtain ⟨Al, cl, rfl⟩ := IntsV.form hl
  obtain ⟨Ae, ce, rfl⟩ := he.form
  have hb1 : Below w.heap.size w ((w.alloc (.cells #[.int .i64 a, .int .i64 b] 44)).alloc (.cells #[.slice Al L.length cl, .slice Ae E.length ce] 52)) := ((Below.refl _ _).alloc (Nat.le_refl _) _).alloc (by simp) _
  have ho := (Whole.new w 44 #[.int .i64 a, .int .i64 b]).alloc (.cells #[.slice Al L.length cl, .slice Ae E.length ce] 52)
  have hp := Whole.new (w.alloc (.cells #[.int .i64 a, .int .i64 b] 44)) 52 #[.slice Al L.length cl, .slice Ae E.length ce]
  rw [World.size_alloc] at hp
  obtain ⟨w1, hw1⟩ : ∃ W, (w.alloc (.cells #[.int .i64 a, .int .i64 b] 44)).alloc (.cells #[.slice Al L.length cl, .slice Ae E.length ce] 52) = W := ⟨_, rfl⟩
  obtain ⟨ob, hob⟩ : ∃ g, w.heap.size = g := ⟨_, rfl⟩
  rw [hw1] at hb1 ho hp
  rw [hob] at ho hp
  obtain ⟨pb, hpb⟩ : ∃ g, ob + 1 = g := ⟨_, rfl⟩
  rw [hpb] at hp
  have hl1 := hl.below hb1 (Nat.le_refl _)
  have he1 := he.below hb1 (Nat.le_refl _)
  have HRT : Hid (∀ W, Below w1.heap.size w1 W → Calls Tryz.prog 43 #[.agg #[.slice Al L.length cl, .slice Ae E.length ce]] W (ErrTo (rightF L E) W)) := Lib.hid (fun W hb => right_any (hl1.below hb (Nat.le_refl _)) (he1.below hb (Nat.le_refl _)) h1 h2)
  have HLAB : Hid (∀ W, Below w1.heap.size w1 W → Calls Tryz.prog 77 #[.slice Al L.length cl, .func (.func 78) #[] #[.pointer (some ⟨ob, 0, none⟩)]] W fun e w' => e = .returned (.bool (L.any fun x => decide (b < x))) ∧ Below W.heap.size W w') := Lib.hid (fun W hb =>
    cont_lab L _ (fun x => decide (b < x)) _ W (hl1.below hb (Nat.le_refl _)) h1 (fun x V hV => (cl_lab x b ob V (((ho.below hb ho.lt).below hV (ho.below hb ho.lt).lt).cell 1)).mono fun e w' ⟨h1, h2⟩ => ⟨h1, by rw [h2]; exact hV⟩))
  have HONLY : Hid (∀ W, Below w1.heap.size w1 W → Calls Tryz.prog 77 #[.slice Al L.length cl, .func (.func 85) #[] #[.pointer (some ⟨ob, 0, none⟩)]] W fun e w' => e = .returned (.bool (L.any fun x => decide (x ≠ b))) ∧ Below W.heap.size W w') := Lib.hid (fun W hb =>
    cont_only L _ (fun x => decide (x ≠ b)) _ W (hl1.below hb (Nat.le_refl _)) h1 (fun x V hV => (cl_only x b ob V (((ho.below hb ho.lt).below hV (ho.below hb ho.lt).lt).cell 1)).mono fun e w' ⟨h1, h2⟩ => ⟨h1, by rw [h2]; exact hV⟩))
  have HDEG : Hid (∀ W, Below w1.heap.size w1 W → Calls Tryz.prog 79 #[.slice Ae E.length ce, .func (.func 80) #[] #[.pointer (some ⟨pb, 0, none⟩), .pointer (some ⟨ob, 0, none⟩)]] W fun e w' => e = .returned (.bool (E.any fun x => decide (b < max (degI E x.1) (degI E x.2)))) ∧ Below W.heap.size W w') := Lib.hid (fun W hb =>
    cont_deg E _ (fun x => decide (b < max (degI E x.1) (degI E x.2))) _ _ W (he1.below hb (Nat.le_refl _)) h2 (fun x y V hV => (cl_deg x y b pb ob V Al L.length cl _ E ((hp.below hb hp.lt).below hV (hp.below hb hp.lt).lt) (((ho.below hb ho.lt).below hV (ho.below hb ho.lt).lt).cell 1) ((he1.below hb (Nat.le_refl _)).below hV (Nat.le_refl _)) h2).mono fun e w' ⟨h1, h2⟩ => ⟨h1, hV.trans (h2.mono hV.size)⟩))
  have HC : Hid (∀ W, Below w1.heap.size w1 W → W.cell? ⟨ob, 0, none⟩ = some (.int .i64 a) ∧ W.cell? ⟨ob, 1, none⟩ = some (.int .i64 b) ∧ W.cell? ⟨pb, 0, none⟩ = some (.slice Al L.length cl) ∧ W.cell? ⟨pb, 1, none⟩ = some (.slice Ae E.length ce)) := Lib.hid (fun W hb =>
    ⟨(ho.below hb ho.lt).cell 0, (ho.below hb ho.lt).cell 1, (hp.below hb hp.lt).cell 0, (hp.below hb hp.lt).cell 1⟩)
  have HWR := Lib.hid (wrong_any a b w1)
  have HLN : Hid (rightF L E = none → L.length ≤ 8) := Lib.hid (fun h => (rightF_none.1 h).len)
  have HTR : Hid (∀ z, testR (a, b) L E = z → wrongF (a, b) = 0 → rightF L E = none → testB (a, b) L E = z) := Lib.hid (fun z h k l => by rw [testB_of k l, h])
  have HU : Hid (testR (a, b) L E = if a = 1 then decide (E.length = L.length * (L.length - 1) / 2)
    else if a = 2 then !(L.any fun x => decide (b < x))
    else if a = 3 then !(E.any fun e => decide (b < max (degI E e.1) (degI E e.2)))
    else if a = 4 then decide ((L.length : Int) ≤ b)
    else if a = 5 then decide ((E.length : Int) ≤ b)
    else if a = 6 then decide L.Nodup
    else if a = 7 then !(L.any fun x => decide (x ≠ b))
    else !(E.any (closedB L.length E))) := Lib.hid rfl
  obtain ⟨zl, hzl⟩ : ∃ z, (L.any fun x => decide (b < x)) = z := ⟨_, rfl⟩
  obtain ⟨zo, hzo⟩ : ∃ z, (L.any fun x => decide (x ≠ b)) = z := ⟨_, rfl⟩
  obtain ⟨zd, hzd⟩ : ∃ z, (E.any fun x => decide (b < max (degI E x.1) (degI E x.2))) = z := ⟨_, rfl⟩
  rw [hzl] at HLAB HU
  rw [hzo] at HONLY HU
  rw [hzd] at HDEG HU
  obtain ⟨c0, c1, c2, c3⟩ := HC.out w1 (Below.refl _ _)
  have HB1 := Lib.hid hb1; have HW1 := Lib.hid hw1; have HOB := Lib.hid hob; have HPB := Lib.hid hpb
  obtain ⟨z, hz⟩ : ∃ z, wrongF (a, b) = z := ⟨_, rfl⟩
  rw [hz] at HWR
  have HZ := Lib.hid hz
  generalize L.length = n at *
  generalize E.length = m at *
  clear hl he h1 h2 hb1 ho hp hw1 hob hpb hl1 he1 hzl hzo hzd hz
  by_cases hz0 : z = 0
  · obtain ⟨k1, k8, b0, b255, -⟩ := wrongF_zero (HZ.out.trans hz0)
    have t1 : (z != 0) = false := by simpa using hz0
    have HW0 : Hid (wrongF (a, b) = 0) := Lib.hid (HZ.out.trans hz0)
    simp only at k1 k8 b0 b255
    have hkk : a = 1 ∨ a = 2 ∨ a = 3 ∨ a = 4 ∨ a = 5 ∨ a = 7 := by omega
    have HKK := Lib.hid hkk
    clear hz0 k1 k8 hkk hk6 hk8
    go_enter Tryz.func63, Tryz.ntmps63
    go_upto_region 1 with fail
    rw [HW1.out, HOB.out, HPB.out]
    go_wp2_with fail
    refine HWR.out.mono ?_; rintro e w2 ⟨rfl, hb2⟩
    obtain ⟨d0, d1, d2, d3⟩ := HC.out w2 hb2
    have HRR := Lib.hid (HRT.out w2 hb2)
    have HB2 := Lib.hid hb2
    clear c0 c1 c2 c3 hb2
    go_wp2_with fail
    refine HRR.out.mono ?_; rintro e w3 hto
    obtain ⟨o, ho⟩ : ∃ o, rightF L E = o := ⟨_, rfl⟩
    rw [ho] at hto
    rcases o with _ | ⟨c, p⟩
    · obtain ⟨rfl, hb3⟩ := hto.nil rfl
      have hb3 := HB2.out.trans (hb3.mono HB2.out.size)
      obtain ⟨e0, e1, e2, e3⟩ := HC.out w3 hb3
      have HRN := Lib.hid ho
      have HB3 := Lib.hid hb3
      have HBB : Hid (Below w.heap.size w w3) := Lib.hid (HB1.out.trans (hb3.mono HB1.out.size))
      have HA1 := Lib.hid (HLAB.out w3 hb3)
      have HA2 := Lib.hid (HONLY.out w3 hb3)
      have HA3 := Lib.hid (HDEG.out w3 hb3)
      clear d0 d1 d2 d3 hto hb3 ho
      rcases HKK.out with rfl | rfl | rfl | rfl | rfl | rfl
      · have hn8 := HLN.out HRN.out
        have HF : Hid (testB (1, b) L E = decide (m = n * (n - 1) / 2)) := Lib.hid (HTR.out _ (by rw [HU.out, if_pos rfl]) HW0.out HRN.out)
        clear HKK HLAB HONLY HDEG HU
        go_wp2_with fail
        go_ret
        exact ⟨by rw [HF.out, ← clique_eq hn8]; rfl, HBB.out⟩
      · have HF : Hid (testB (2, b) L E = !zl) := Lib.hid (HTR.out _ (by rw [HU.out, if_neg (by decide), if_pos rfl]) HW0.out HRN.out)
        clear HKK HLAB HONLY HDEG HU
        go_wp2_with fail
        refine HA1.out.mono ?_; rintro e w4 ⟨rfl, hb4⟩
        have HB4 := Lib.hid hb4
        clear hb4 e0 e1 e2 e3
        go_wp2_with fail
        go_ret
        exact ⟨by rw [HF.out]; rfl, HBB.out.trans (HB4.out.mono HBB.out.size)⟩
      · have HF : Hid (testB (3, b) L E = !zd) := Lib.hid (HTR.out _ (by rw [HU.out, if_neg (by decide), if_neg (by decide), if_pos rfl]) HW0.out HRN.out)
        clear HKK HLAB HONLY HDEG HU
        go_wp2_with fail
        refine HA3.out.mono ?_; rintro e w4 ⟨rfl, hb4⟩
        have HB4 := Lib.hid hb4
        clear hb4 e0 e1 e2 e3
        go_wp2_with fail
        go_ret
        exact ⟨by rw [HF.out]; rfl, HBB.out.trans (HB4.out.mono HBB.out.size)⟩
      · have HF : Hid (testB (4, b) L E = decide ((n : Int) ≤ b)) := Lib.hid (HTR.out _ (by rw [HU.out, if_neg (by decide), if_neg (by decide), if_neg (by decide), if_pos rfl]) HW0.out HRN.out)
        clear HKK HLAB HONLY HDEG HU
        go_wp2_with fail
        go_ret
        exact ⟨by rw [HF.out]; rfl, HBB.out⟩
      · have HF : Hid (testB (5, b) L E = decide ((m : Int) ≤ b)) := Lib.hid (HTR.out _ (by rw [HU.out, if_neg (by decide), if_neg (by decide), if_neg (by decide), if_neg (by decide), if_pos rfl]) HW0.out HRN.out)
        clear HKK HLAB HONLY HDEG HU
        go_wp2_with fail
        go_ret
        exact ⟨by rw [HF.out]; rfl, HBB.out⟩
      · have HF : Hid (testB (7, b) L E = !zo) := Lib.hid (HTR.out _ (by rw [HU.out, if_neg (by decide), if_neg (by decide), if_neg (by decide), if_neg (by decide), if_neg (by decide), if_neg (by decide), if_pos rfl]) HW0.out HRN.out)
        clear HKK HLAB HONLY HDEG HU
        go_wp2_with fail
        refine HA2.out.mono ?_; rintro e w4 ⟨rfl, hb4⟩
        have HB4 := Lib.hid hb4
        clear hb4 e0 e1 e2 e3
        go_wp2_with fail
        go_ret
        exact ⟨by rw [HF.out]; rfl, HBB.out.trans (HB4.out.mono HBB.out.size)⟩
    · obtain ⟨fb, rfl, hf, hb3⟩ := hto.err rfl
      have HF : Hid (testB (a, b) L E = false) := Lib.hid (testB_bad ho)
      have HBB : Hid (Below w.heap.size w w3) := Lib.hid (HB1.out.trans ((HB2.out.trans (hb3.mono HB2.out.size)).mono HB1.out.size))
      clear d0 d1 d2 d3 hto hf hb3 ho
      go_wp2_with fail
      go_ret
      exact ⟨by rw [HF.out]; rfl, HBB.out⟩
  · have t1 : (z != 0) = true := by simpa using hz0
    have HF : Hid (testB (a, b) L E = false) := Lib.hid (testB_wrong (by rw [HZ.out]; exact hz0))
    clear hz0
    go_enter Tryz.func63, Tryz.ntmps63
    go_upto_region 1 with fail
    rw [HW1.out, HOB.out, HPB.out]
    go_wp2_with fail
    refine HWR.out.mono ?_; rintro e w2 ⟨rfl, hb2⟩
    have HBB : Hid (Below w.heap.size w w2) := Lib.hid (HB1.out.trans (hb2.mono HB1.out.size))
    clear c0 c1 c2 c3 hb2
    go_wp2_with fail
    go_ret
    exact ⟨by rw [HF.out]; rfl, HBB.out⟩
end Go.Proofs.YtbbdammdiplagaaGreatDoor
