/- PatOrder: the law. -/
import Derived.Test.YtgolcogigpnbeaaDoorSame8
import Derived.Test.YtgolcogigpnbeaaDoorAlive8
import Derived.Test.YtgolcogigpnbeaaDoorOfs3
namespace Go.Proofs.YtgolcogigpnbeaaDoor
open Go.RowKit

theorem degSum_mono (E : List (Int × Int)) (a : Nat) : ∀ d, degSum E a ≤ degSum E (a + d)
  | 0 => Nat.le_refl _
  | d + 1 => by
    have := degSum_mono E a d
    rw [show a + (d + 1) = a + d + 1 from rfl, degSum]
    omega
theorem farB_false {n m : Nat} (h : farB n m = false) : n ≤ 20 ∧ m ≤ 60 := by
  unfold farB at h
  simp only [Bool.or_eq_false_iff, decide_eq_false_iff_not] at h
  omega
/-- What a world holds while the law looks at three patterns. -/
structure St (w : World) (xb : Nat) (Al1 Ae1 A1 : Option Addr) (n1 cl1 m1 ce1 d1 g1 : Nat) (L1 : List Int) (E1 : List (Int × Int)) (Al2 Ae2 A2 : Option Addr) (n2 cl2 m2 ce2 d2 g2 : Nat) (L2 : List Int) (E2 : List (Int × Int)) (Al3 Ae3 A3 : Option Addr) (n3 cl3 m3 ce3 d3 g3 : Nat) (L3 : List Int) (E3 : List (Int × Int)) (W : World) : Prop where
  bel : Below w.heap.size w W
  p1 : Whole W xb 25 #[.slice Al1 n1 cl1, .slice Ae1 m1 ce1]
  w1 : Whole W g1 29 #[.slice Al1 n1 cl1, .slice A1 m1 d1]
  l1 : SeqV W (.slice Al1 n1 cl1) L1
  e1 : EdgesV W (.slice A1 m1 d1) E1
  f1 : EdgesV W (.slice Ae1 m1 ce1) E1
  p2 : Whole W (xb + 1) 25 #[.slice Al2 n2 cl2, .slice Ae2 m2 ce2]
  w2 : Whole W g2 29 #[.slice Al2 n2 cl2, .slice A2 m2 d2]
  l2 : SeqV W (.slice Al2 n2 cl2) L2
  e2 : EdgesV W (.slice A2 m2 d2) E2
  f2 : EdgesV W (.slice Ae2 m2 ce2) E2
  p3 : Whole W (xb + 1 + 1) 25 #[.slice Al3 n3 cl3, .slice Ae3 m3 ce3]
  w3 : Whole W g3 29 #[.slice Al3 n3 cl3, .slice A3 m3 d3]
  l3 : SeqV W (.slice Al3 n3 cl3) L3
  e3 : EdgesV W (.slice A3 m3 d3) E3
  f3 : EdgesV W (.slice Ae3 m3 ce3) E3
theorem St.below {w : World} {xb : Nat} {Al1 Ae1 A1 : Option Addr} {n1 cl1 m1 ce1 d1 g1 : Nat} {L1 : List Int} {E1 : List (Int × Int)} {Al2 Ae2 A2 : Option Addr} {n2 cl2 m2 ce2 d2 g2 : Nat} {L2 : List Int} {E2 : List (Int × Int)} {Al3 Ae3 A3 : Option Addr} {n3 cl3 m3 ce3 d3 g3 : Nat} {L3 : List Int} {E3 : List (Int × Int)} {W W' : World} (h : St w xb Al1 Ae1 A1 n1 cl1 m1 ce1 d1 g1 L1 E1 Al2 Ae2 A2 n2 cl2 m2 ce2 d2 g2 L2 E2 Al3 Ae3 A3 n3 cl3 m3 ce3 d3 g3 L3 E3 W) (hb : Below W.heap.size W W') : St w xb Al1 Ae1 A1 n1 cl1 m1 ce1 d1 g1 L1 E1 Al2 Ae2 A2 n2 cl2 m2 ce2 d2 g2 L2 E2 Al3 Ae3 A3 n3 cl3 m3 ce3 d3 g3 L3 E3 W' :=
  ⟨h.bel.trans (hb.mono h.bel.size), h.p1.below hb h.p1.lt, h.w1.below hb h.w1.lt, h.l1.below hb (Nat.le_refl _), h.e1.below hb (Nat.le_refl _), h.f1.below hb (Nat.le_refl _), h.p2.below hb h.p2.lt, h.w2.below hb h.w2.lt, h.l2.below hb (Nat.le_refl _), h.e2.below hb (Nat.le_refl _), h.f2.below hb (Nat.le_refl _), h.p3.below hb h.p3.lt, h.w3.below hb h.w3.lt, h.l3.below hb (Nat.le_refl _), h.e3.below hb (Nat.le_refl _), h.f3.below hb (Nat.le_refl _)⟩
set_option maxRecDepth 100000 in
set_option maxHeartbeats 4000000 in
theorem order_law (L1 L2 L3 : List Int) (E1 E2 E3 : List (Int × Int)) (v1 v2 v3 u1 u2 u3 : Value) (w : World) (hg : GT w) (hl1 : SeqV w v1 L1) (he1 : EdgesV w u1 E1) (hl2 : SeqV w v2 L2) (he2 : EdgesV w u2 E2) (hl3 : SeqV w v3 L3) (he3 : EdgesV w u3 E3)
    (hs1 : E1.length * 16 ≤ 140737488351232) (hs2 : E2.length * 16 ≤ 140737488351232) (hs3 : E3.length * 16 ≤ 140737488351232) (hk1 : L1.length ≤ 9223372036854775807) (hk2 : L2.length ≤ 9223372036854775807) (hk3 : L3.length ≤ 9223372036854775807) :
    Calls Tryd.prog 3 #[.agg #[v1, u1], .agg #[v2, u2], .agg #[v3, u3]] w fun e w' => e = .returned (.bool true) ∧ Below w.heap.size w w' := by
  have HG := Lib.hid hg
  obtain ⟨Al1, cl1, rfl⟩ := IntsV.form hl1
  obtain ⟨Ae1, ce1, rfl⟩ := he1.form
  have HL1 := Lib.hid hl1; have HE1 := Lib.hid he1; have HS1 := Lib.hid hs1
  obtain ⟨n1, hn1⟩ : ∃ n, L1.length = n := ⟨_, rfl⟩
  obtain ⟨m1, hm1⟩ : ∃ n, E1.length = n := ⟨_, rfl⟩
  have HN1 := Lib.hid hn1; have HM1 := Lib.hid hm1
  obtain ⟨Al2, cl2, rfl⟩ := IntsV.form hl2
  obtain ⟨Ae2, ce2, rfl⟩ := he2.form
  have HL2 := Lib.hid hl2; have HE2 := Lib.hid he2; have HS2 := Lib.hid hs2
  obtain ⟨n2, hn2⟩ : ∃ n, L2.length = n := ⟨_, rfl⟩
  obtain ⟨m2, hm2⟩ : ∃ n, E2.length = n := ⟨_, rfl⟩
  have HN2 := Lib.hid hn2; have HM2 := Lib.hid hm2
  obtain ⟨Al3, cl3, rfl⟩ := IntsV.form hl3
  obtain ⟨Ae3, ce3, rfl⟩ := he3.form
  have HL3 := Lib.hid hl3; have HE3 := Lib.hid he3; have HS3 := Lib.hid hs3
  obtain ⟨n3, hn3⟩ : ∃ n, L3.length = n := ⟨_, rfl⟩
  obtain ⟨m3, hm3⟩ : ∃ n, E3.length = n := ⟨_, rfl⟩
  have HN3 := Lib.hid hn3; have HM3 := Lib.hid hm3
  rw [hn1] at HL1 hk1 ⊢
  rw [hm1] at HE1 ⊢
  rw [hn2] at HL2 hk2 ⊢
  rw [hm2] at HE2 ⊢
  rw [hn3] at HL3 hk3 ⊢
  rw [hm3] at HE3 ⊢
  have hb0 : Below w.heap.size w (((w.alloc (.cells #[.slice Al1 n1 cl1, .slice Ae1 m1 ce1] 25)).alloc (.cells #[.slice Al2 n2 cl2, .slice Ae2 m2 ce2] 25)).alloc (.cells #[.slice Al3 n3 cl3, .slice Ae3 m3 ce3] 25)) := (((Below.refl _ _).alloc (Nat.le_refl _) _).alloc (by simp) _).alloc (by simp; omega) _
  have hp1 := ((Whole.new w 25 #[.slice Al1 n1 cl1, .slice Ae1 m1 ce1]).alloc (.cells #[.slice Al2 n2 cl2, .slice Ae2 m2 ce2] 25)).alloc (.cells #[.slice Al3 n3 cl3, .slice Ae3 m3 ce3] 25)
  have hp2 := (Whole.new (w.alloc (.cells #[.slice Al1 n1 cl1, .slice Ae1 m1 ce1] 25)) 25 #[.slice Al2 n2 cl2, .slice Ae2 m2 ce2]).alloc (.cells #[.slice Al3 n3 cl3, .slice Ae3 m3 ce3] 25)
  have hp3 := Whole.new ((w.alloc (.cells #[.slice Al1 n1 cl1, .slice Ae1 m1 ce1] 25)).alloc (.cells #[.slice Al2 n2 cl2, .slice Ae2 m2 ce2] 25)) 25 #[.slice Al3 n3 cl3, .slice Ae3 m3 ce3]
  rw [World.size_alloc] at hp2
  rw [World.size_alloc, World.size_alloc] at hp3
  obtain ⟨w0, hw0⟩ : ∃ W, (((w.alloc (.cells #[.slice Al1 n1 cl1, .slice Ae1 m1 ce1] 25)).alloc (.cells #[.slice Al2 n2 cl2, .slice Ae2 m2 ce2] 25)).alloc (.cells #[.slice Al3 n3 cl3, .slice Ae3 m3 ce3] 25)) = W := ⟨_, rfl⟩
  obtain ⟨xb, hxb⟩ : ∃ g, w.heap.size = g := ⟨_, rfl⟩
  rw [hw0] at hb0 hp1 hp2 hp3
  rw [hxb] at hp1 hp2 hp3
  have HAL := Lib.hid (alive_ok w0 (HG.out.below hb0 (Nat.le_refl _)))
  have HB0 := Lib.hid hb0; have HP1 := Lib.hid hp1; have HP2 := Lib.hid hp2; have HP3 := Lib.hid hp3; have HW0 := Lib.hid hw0; have HXB := Lib.hid hxb
  clear hg hl1 hl2 hl3 he1 he2 he3 hs1 hs2 hs3 hn1 hn2 hn3 hm1 hm2 hm3 hb0 hp1 hp2 hp3 hw0 hxb
  go_enter Tryd.func3, Tryd.ntmps3
  go_upto_region 1 with fail
  rw [HW0.out, HXB.out]
  go_wp2_with fail
  refine HAL.out.mono ?_; rintro e w1 ⟨rfl, hb1⟩
  have hp1 := HP1.out.below hb1 HP1.out.lt
  have hp2 := HP2.out.below hb1 HP2.out.lt
  have hp3 := HP3.out.below hb1 HP3.out.lt
  have hB1 := HB0.out.trans (hb1.mono HB0.out.size)
  have KC1 := Lib.hid (fun (W : World) (hb : Below w1.heap.size w1 W) => (show W.cell? ⟨xb, 0, none⟩ = some (.slice Al1 n1 cl1) ∧ W.cell? ⟨xb, 1, none⟩ = some (.slice Ae1 m1 ce1) from
    ⟨(hp1.below hb hp1.lt).cell 0, (hp1.below hb hp1.lt).cell 1⟩))
  have KO1 : Hid (∀ W, Below w1.heap.size w1 W → Calls Tryd.prog 5 #[.agg #[.slice Al1 n1 cl1, .slice Ae1 m1 ce1]] W fun e w' => ∃ v, e = .returned v ∧ CallV w' (.slice Al1 n1 cl1) m1 E1 v ∧ Below W.heap.size W w') := Lib.hid (fun W hb => by
    have h := of8_any E1 Al1 n1 cl1 _ W ((HE1.out.below hB1 (Nat.le_refl _)).below hb (Nat.le_refl _)) HS1.out
    refine h.mono ?_
    rintro e w' ⟨A, c, rfl, ho, hb2⟩
    rw [HM1.out] at ho
    exact ⟨_, rfl, ⟨A, c, by rw [HM1.out], own_base ho (Nat.zero_le _)⟩, hb2⟩)
  have KC2 := Lib.hid (fun (W : World) (hb : Below w1.heap.size w1 W) => (show W.cell? ⟨(xb + 1), 0, none⟩ = some (.slice Al2 n2 cl2) ∧ W.cell? ⟨(xb + 1), 1, none⟩ = some (.slice Ae2 m2 ce2) from
    ⟨(hp2.below hb hp2.lt).cell 0, (hp2.below hb hp2.lt).cell 1⟩))
  have KO2 : Hid (∀ W, Below w1.heap.size w1 W → Calls Tryd.prog 5 #[.agg #[.slice Al2 n2 cl2, .slice Ae2 m2 ce2]] W fun e w' => ∃ v, e = .returned v ∧ CallV w' (.slice Al2 n2 cl2) m2 E2 v ∧ Below W.heap.size W w') := Lib.hid (fun W hb => by
    have h := of8_any E2 Al2 n2 cl2 _ W ((HE2.out.below hB1 (Nat.le_refl _)).below hb (Nat.le_refl _)) HS2.out
    refine h.mono ?_
    rintro e w' ⟨A, c, rfl, ho, hb2⟩
    rw [HM2.out] at ho
    exact ⟨_, rfl, ⟨A, c, by rw [HM2.out], own_base ho (Nat.zero_le _)⟩, hb2⟩)
  have KC3 := Lib.hid (fun (W : World) (hb : Below w1.heap.size w1 W) => (show W.cell? ⟨(xb + 1 + 1), 0, none⟩ = some (.slice Al3 n3 cl3) ∧ W.cell? ⟨(xb + 1 + 1), 1, none⟩ = some (.slice Ae3 m3 ce3) from
    ⟨(hp3.below hb hp3.lt).cell 0, (hp3.below hb hp3.lt).cell 1⟩))
  have KO3 : Hid (∀ W, Below w1.heap.size w1 W → Calls Tryd.prog 5 #[.agg #[.slice Al3 n3 cl3, .slice Ae3 m3 ce3]] W fun e w' => ∃ v, e = .returned v ∧ CallV w' (.slice Al3 n3 cl3) m3 E3 v ∧ Below W.heap.size W w') := Lib.hid (fun W hb => by
    have h := of8_any E3 Al3 n3 cl3 _ W ((HE3.out.below hB1 (Nat.le_refl _)).below hb (Nat.le_refl _)) HS3.out
    refine h.mono ?_
    rintro e w' ⟨A, c, rfl, ho, hb2⟩
    rw [HM3.out] at ho
    exact ⟨_, rfl, ⟨A, c, by rw [HM3.out], own_base ho (Nat.zero_le _)⟩, hb2⟩)
  have HP1' := Lib.hid hp1; have HP2' := Lib.hid hp2; have HP3' := Lib.hid hp3; have HB1 := Lib.hid hB1
  clear hb1 hp1 hp2 hp3 hB1
  go_upto_region 3 with fail
  refine regionOfs3 (w1 := w1) (Al1 := Al1) (Ae1 := Ae1) (n1 := n1) (cl1 := cl1) (m1 := m1) (ce1 := ce1) (b1 := xb) (E1 := E1) (Al2 := Al2) (Ae2 := Ae2) (n2 := n2) (cl2 := cl2) (m2 := m2) (ce2 := ce2) (b2 := (xb + 1)) (E2 := E2) (Al3 := Al3) (Ae3 := Ae3) (n3 := n3) (cl3 := cl3) (m3 := m3) (ce3 := ce3) (b3 := (xb + 1 + 1)) (E3 := E3) KC1.out KO1.out KC2.out KO2.out KC3.out KO3.out ?_
  intro A1 A2 A3 d1 g1 d2 g2 d3 g3 w3 hb3 he1 hw1 he2 hw2 he3 hw3
  unfold frOfs3
  have hB3 := HB1.out.trans (hb3.mono HB1.out.size)
  have HST : Hid (St w xb Al1 Ae1 A1 n1 cl1 m1 ce1 d1 g1 L1 E1 Al2 Ae2 A2 n2 cl2 m2 ce2 d2 g2 L2 E2 Al3 Ae3 A3 n3 cl3 m3 ce3 d3 g3 L3 E3 w3) := Lib.hid ⟨hB3, HP1'.out.below hb3 HP1'.out.lt, hw1, HL1.out.below hB3 (Nat.le_refl _), he1, HE1.out.below hB3 (Nat.le_refl _), HP2'.out.below hb3 HP2'.out.lt, hw2, HL2.out.below hB3 (Nat.le_refl _), he2, HE2.out.below hB3 (Nat.le_refl _), HP3'.out.below hb3 HP3'.out.lt, hw3, HL3.out.below hB3 (Nat.le_refl _), he3, HE3.out.below hB3 (Nat.le_refl _)⟩
  clear hb3 he1 hw1 he2 hw2 he3 hw3 hB3 KC1 KC2 KC3 KO1 KO2 KO3 HP1 HP2 HP3 HP1' HP2' HP3' HW0 HB0 HB1 HAL
  have q0 : w3.cell? ⟨xb, 0, none⟩ = some (.slice Al1 n1 cl1) := HST.out.p1.cell 0
  have q1 : w3.cell? ⟨xb, 1, none⟩ = some (.slice Ae1 m1 ce1) := HST.out.p1.cell 1
  have FA := Lib.hid (far_any Al1 Ae1 n1 m1 cl1 ce1 w3)
  obtain ⟨z1, hz1⟩ : ∃ z, farB n1 m1 = z := ⟨_, rfl⟩
  rw [hz1] at FA
  have HZ1 := Lib.hid hz1
  clear hz1
  go_wp2_with fail
  refine FA.out.mono ?_; rintro e wf1 ⟨rfl, hb⟩
  have HSTf1 := Lib.hid (HST.out.below hb)
  clear q0 q1 FA hb
  cases z1 with
  | true =>
    go_wp2_with fail
    go_ret
    exact ⟨rfl, HSTf1.out.bel⟩
  | false =>
    have q0 : wf1.cell? ⟨(xb + 1), 0, none⟩ = some (.slice Al2 n2 cl2) := HSTf1.out.p2.cell 0
    have q1 : wf1.cell? ⟨(xb + 1), 1, none⟩ = some (.slice Ae2 m2 ce2) := HSTf1.out.p2.cell 1
    have FA := Lib.hid (far_any Al2 Ae2 n2 m2 cl2 ce2 wf1)
    obtain ⟨z2, hz2⟩ : ∃ z, farB n2 m2 = z := ⟨_, rfl⟩
    rw [hz2] at FA
    have HZ2 := Lib.hid hz2
    clear hz2
    go_wp2_with fail
    refine FA.out.mono ?_; rintro e wf2 ⟨rfl, hb⟩
    have HSTf2 := Lib.hid (HSTf1.out.below hb)
    clear q0 q1 FA hb
    cases z2 with
    | true =>
      go_wp2_with fail
      go_ret
      exact ⟨rfl, HSTf2.out.bel⟩
    | false =>
      have q0 : wf2.cell? ⟨(xb + 1 + 1), 0, none⟩ = some (.slice Al3 n3 cl3) := HSTf2.out.p3.cell 0
      have q1 : wf2.cell? ⟨(xb + 1 + 1), 1, none⟩ = some (.slice Ae3 m3 ce3) := HSTf2.out.p3.cell 1
      have FA := Lib.hid (far_any Al3 Ae3 n3 m3 cl3 ce3 wf2)
      obtain ⟨z3, hz3⟩ : ∃ z, farB n3 m3 = z := ⟨_, rfl⟩
      rw [hz3] at FA
      have HZ3 := Lib.hid hz3
      clear hz3
      go_wp2_with fail
      refine FA.out.mono ?_; rintro e wf3 ⟨rfl, hb⟩
      have HSTf3 := Lib.hid (HSTf2.out.below hb)
      clear q0 q1 FA hb
      cases z3 with
      | true =>
        go_wp2_with fail
        go_ret
        exact ⟨rfl, HSTf3.out.bel⟩
      | false =>
        have hf1 := farB_false HZ1.out
        have q0 : wf3.cell? ⟨g1, 0, none⟩ = some (.slice Al1 n1 cl1) := HSTf3.out.w1.cell 0
        have q1 : wf3.cell? ⟨g1, 1, none⟩ = some (.slice A1 m1 d1) := HSTf3.out.w1.cell 1
        have RG := Lib.hid (right_any HSTf3.out.l1 HSTf3.out.e1 (by rw [HN1.out]; omega) (by rw [HM1.out]; omega))
        have HF1 := Lib.hid hf1
        clear hf1
        go_wp2_with fail
        refine RG.out.mono ?_; rintro e wr1 hto
        obtain ⟨o1, ho1⟩ : ∃ o, rightF L1 E1 = o := ⟨_, rfl⟩
        rw [ho1] at hto
        clear q0 q1 RG
        rcases o1 with _ | ⟨c, p⟩
        rotate_left
        · obtain ⟨fb, rfl, _, hb⟩ := hto.err rfl
          have HSTe := Lib.hid (HSTf3.out.below hb)
          clear hto hb ho1
          go_wp2_with fail
          go_ret
          exact ⟨rfl, HSTe.out.bel⟩
        obtain ⟨rfl, hb⟩ := hto.nil rfl
        have HSTr1 := Lib.hid (HSTf3.out.below hb)
        have HR1 := Lib.hid (rightF_none.1 ho1)
        clear hto hb ho1
        have hf2 := farB_false HZ2.out
        have q0 : wr1.cell? ⟨g2, 0, none⟩ = some (.slice Al2 n2 cl2) := HSTr1.out.w2.cell 0
        have q1 : wr1.cell? ⟨g2, 1, none⟩ = some (.slice A2 m2 d2) := HSTr1.out.w2.cell 1
        have RG := Lib.hid (right_any HSTr1.out.l2 HSTr1.out.e2 (by rw [HN2.out]; omega) (by rw [HM2.out]; omega))
        have HF2 := Lib.hid hf2
        clear hf2
        go_wp2_with fail
        refine RG.out.mono ?_; rintro e wr2 hto
        obtain ⟨o2, ho2⟩ : ∃ o, rightF L2 E2 = o := ⟨_, rfl⟩
        rw [ho2] at hto
        clear q0 q1 RG
        rcases o2 with _ | ⟨c, p⟩
        rotate_left
        · obtain ⟨fb, rfl, _, hb⟩ := hto.err rfl
          have HSTe := Lib.hid (HSTr1.out.below hb)
          clear hto hb ho2
          go_wp2_with fail
          go_ret
          exact ⟨rfl, HSTe.out.bel⟩
        obtain ⟨rfl, hb⟩ := hto.nil rfl
        have HSTr2 := Lib.hid (HSTr1.out.below hb)
        have HR2 := Lib.hid (rightF_none.1 ho2)
        clear hto hb ho2
        have hf3 := farB_false HZ3.out
        have q0 : wr2.cell? ⟨g3, 0, none⟩ = some (.slice Al3 n3 cl3) := HSTr2.out.w3.cell 0
        have q1 : wr2.cell? ⟨g3, 1, none⟩ = some (.slice A3 m3 d3) := HSTr2.out.w3.cell 1
        have RG := Lib.hid (right_any HSTr2.out.l3 HSTr2.out.e3 (by rw [HN3.out]; omega) (by rw [HM3.out]; omega))
        have HF3 := Lib.hid hf3
        clear hf3
        go_wp2_with fail
        refine RG.out.mono ?_; rintro e wr3 hto
        obtain ⟨o3, ho3⟩ : ∃ o, rightF L3 E3 = o := ⟨_, rfl⟩
        rw [ho3] at hto
        clear q0 q1 RG
        rcases o3 with _ | ⟨c, p⟩
        rotate_left
        · obtain ⟨fb, rfl, _, hb⟩ := hto.err rfl
          have HSTe := Lib.hid (HSTr2.out.below hb)
          clear hto hb ho3
          go_wp2_with fail
          go_ret
          exact ⟨rfl, HSTe.out.bel⟩
        obtain ⟨rfl, hb⟩ := hto.nil rfl
        have HSTr3 := Lib.hid (HSTr2.out.below hb)
        have HR3 := Lib.hid (rightF_none.1 ho3)
        clear hto hb ho3
        have hf1 := HF1.out; have hf2 := HF2.out; have hf3 := HF3.out
        have hlen : (L1.length ≤ 1000000 ∧ E1.length ≤ 1000000) ∧ (L2.length ≤ 1000000 ∧ E2.length ≤ 1000000) ∧ (L3.length ≤ 1000000 ∧ E3.length ≤ 1000000) := by
          rw [HN1.out, HN2.out, HN3.out, HM1.out, HM2.out, HM3.out]; omega
        have HLEN := Lib.hid hlen
        clear hf1 hf2 hf3
        obtain ⟨r1, hr1⟩ : ∃ r, cmpPat L1 E1 L2 E2 = r := ⟨_, rfl⟩
        have HCr1 : Hid (∀ V, Below wr3.heap.size wr3 V → Calls Tryd.prog 8 #[.agg #[.slice Al1 n1 cl1, .slice A1 m1 d1], .agg #[.slice Al2 n2 cl2, .slice A2 m2 d2]] V fun e w' => e = .returned (.int .i64 r1) ∧ Below wr3.heap.size wr3 w') := Lib.hid (fun V hb => by
          have s := HSTr3.out.below hb
          rw [← hr1]
          exact (compare_any s.l1 s.e1 s.l2 s.e2 hlen.1.1 hlen.1.2 hlen.2.1.1 hlen.2.1.2).mono fun e w' ⟨h1, h2⟩ => ⟨h1, hb.trans (h2.mono hb.size)⟩)
        have HDr1 := Lib.hid hr1
        obtain ⟨r2, hr2⟩ : ∃ r, cmpPat L2 E2 L3 E3 = r := ⟨_, rfl⟩
        have HCr2 : Hid (∀ V, Below wr3.heap.size wr3 V → Calls Tryd.prog 8 #[.agg #[.slice Al2 n2 cl2, .slice A2 m2 d2], .agg #[.slice Al3 n3 cl3, .slice A3 m3 d3]] V fun e w' => e = .returned (.int .i64 r2) ∧ Below wr3.heap.size wr3 w') := Lib.hid (fun V hb => by
          have s := HSTr3.out.below hb
          rw [← hr2]
          exact (compare_any s.l2 s.e2 s.l3 s.e3 hlen.2.1.1 hlen.2.1.2 hlen.2.2.1 hlen.2.2.2).mono fun e w' ⟨h1, h2⟩ => ⟨h1, hb.trans (h2.mono hb.size)⟩)
        have HDr2 := Lib.hid hr2
        obtain ⟨r3, hr3⟩ : ∃ r, cmpPat L1 E1 L3 E3 = r := ⟨_, rfl⟩
        have HCr3 : Hid (∀ V, Below wr3.heap.size wr3 V → Calls Tryd.prog 8 #[.agg #[.slice Al1 n1 cl1, .slice A1 m1 d1], .agg #[.slice Al3 n3 cl3, .slice A3 m3 d3]] V fun e w' => e = .returned (.int .i64 r3) ∧ Below wr3.heap.size wr3 w') := Lib.hid (fun V hb => by
          have s := HSTr3.out.below hb
          rw [← hr3]
          exact (compare_any s.l1 s.e1 s.l3 s.e3 hlen.1.1 hlen.1.2 hlen.2.2.1 hlen.2.2.2).mono fun e w' ⟨h1, h2⟩ => ⟨h1, hb.trans (h2.mono hb.size)⟩)
        have HDr3 := Lib.hid hr3
        have KS6 := Lib.hid (fun (W : World) (hb : Below wr3.heap.size wr3 W) => (show W.cell? ⟨g1, 0, none⟩ = some (.slice Al1 n1 cl1) ∧ W.cell? ⟨g1, 1, none⟩ = some (.slice A1 m1 d1) ∧ W.cell? ⟨g2, 0, none⟩ = some (.slice Al2 n2 cl2) ∧ W.cell? ⟨g2, 1, none⟩ = some (.slice A2 m2 d2) ∧ W.cell? ⟨g3, 0, none⟩ = some (.slice Al3 n3 cl3) ∧ W.cell? ⟨g3, 1, none⟩ = some (.slice A3 m3 d3) from
          have s := HSTr3.out.below hb
          ⟨s.w1.cell 0, s.w1.cell 1, s.w2.cell 0, s.w2.cell 1, s.w3.cell 0, s.w3.cell 1⟩))
        clear hr1 hr2 hr3 hlen
        go_upto_region 6 with fail
        go_region_held3 (fun W => W.cell? ⟨g1, 0, none⟩ = some (.slice Al1 n1 cl1) ∧ W.cell? ⟨g1, 1, none⟩ = some (.slice A1 m1 d1) ∧ W.cell? ⟨g2, 0, none⟩ = some (.slice Al2 n2 cl2) ∧ W.cell? ⟨g2, 1, none⟩ = some (.slice A2 m2 d2) ∧ W.cell? ⟨g3, 0, none⟩ = some (.slice Al3 n3 cl3) ∧ W.cell? ⟨g3, 1, none⟩ = some (.slice A3 m3 d3))
          (refine KS6.out _ (by first | assumption | exact below_drewN' (Below.refl _ _) _))
          (first
            | (go_at_call 8; refine (HCr3.out _ hb12).mono ?_; rintro e' w13 ⟨rfl, hb13⟩)
            | (go_at_call 8; refine (HCr2.out _ hb11).mono ?_; rintro e' w12 ⟨rfl, hb12⟩)
            | (go_at_call 8; refine (HCr1.out _ (by first | assumption | exact below_drewN' (Below.refl _ _) _)).mono ?_; rintro e' w11 ⟨rfl, hb11⟩))
        have HST6 := Lib.hid (HSTr3.out.below hb13)
        clear hb11 hb12 hb13 KS6 HCr1 HCr2 HCr3
        have hlen := HLEN.out
        have hneg : cmpPat L2 E2 L1 E1 = -r1 := by rw [cmpPat_neg, HDr1.out]
        obtain ⟨sn, hsn⟩ : ∃ s, -r1 = s := ⟨_, rfl⟩
        have hrng : r1 = -1 ∨ r1 = 0 ∨ r1 = 1 := by rw [← HDr1.out]; exact cmpPat_rng _ _ _ _
        have s1 : IntKind.i64.wrap (-sn) = r1 := by rw [IntKind.wrap_i64] <;> omega
        rw [hsn] at hneg
        have HC21 : Hid (∀ V, Below w13.heap.size w13 V → Calls Tryd.prog 8 #[.agg #[.slice Al2 n2 cl2, .slice A2 m2 d2], .agg #[.slice Al1 n1 cl1, .slice A1 m1 d1]] V fun e w' => e = .returned (.int .i64 sn) ∧ Below w13.heap.size w13 w') := Lib.hid (fun V hb => by
          have s := HST6.out.below hb
          rw [← hneg]
          exact (compare_any s.l2 s.e2 s.l1 s.e1 hlen.2.1.1 hlen.2.1.2 hlen.1.1 hlen.1.2).mono fun e w' ⟨h1, h2⟩ => ⟨h1, hb.trans (h2.mono hb.size)⟩)
        obtain ⟨y1, hy1⟩ : ∃ y, decide (L1 = L2 ∧ E1 = E2) = y := ⟨_, rfl⟩
        have HSA : Hid (∀ V, Below w13.heap.size w13 V → Calls Tryd.prog 9 #[.agg #[.slice Al1 n1 cl1, .slice A1 m1 d1], .agg #[.slice Al2 n2 cl2, .slice Ae2 m2 ce2]] V fun e w' => e = .returned (.bool y1) ∧ Below w13.heap.size w13 w') := Lib.hid (fun V hb => by
          have s := HST6.out.below hb
          rw [← hy1]
          exact (same_any s.l1 s.e1 s.l2 s.f2 hlen.1.1 hlen.1.2 hlen.2.1.2).mono fun e w' ⟨h1, h2⟩ => ⟨h1, hb.trans (h2.mono hb.size)⟩)
        have hf1 := HF1.out; have hf2 := HF2.out
        obtain ⟨t1, ht1⟩ : ∃ t, str (patT L1 E1) = t := ⟨_, rfl⟩
        obtain ⟨t2, ht2⟩ : ∃ t, str (patT L2 E2) = t := ⟨_, rfl⟩
        have HTX1 : Hid (∀ V, Below w13.heap.size w13 V → Calls Tryd.prog 10 #[.agg #[.slice Al1 n1 cl1, .slice A1 m1 d1]] V fun e w' => e = .returned (.string t1) ∧ Below w13.heap.size w13 w') := Lib.hid (fun V hb => by
          have s := HST6.out.below hb
          rw [← ht1]
          exact (text_any (HG.out.below s.bel (Nat.le_refl _)) s.l1 s.e1 (by rw [HN1.out]; omega) (by rw [HM1.out]; omega) HR1.out.small).mono fun e w' ⟨h1, h2⟩ => ⟨h1, hb.trans (h2.mono hb.size)⟩)
        have HTX2 : Hid (∀ V, Below w13.heap.size w13 V → Calls Tryd.prog 10 #[.agg #[.slice Al2 n2 cl2, .slice A2 m2 d2]] V fun e w' => e = .returned (.string t2) ∧ Below w13.heap.size w13 w') := Lib.hid (fun V hb => by
          have s := HST6.out.below hb
          rw [← ht2]
          exact (text_any (HG.out.below s.bel (Nat.le_refl _)) s.l2 s.e2 (by rw [HN2.out]; omega) (by rw [HM2.out]; omega) HR2.out.small).mono fun e w' ⟨h1, h2⟩ => ⟨h1, hb.trans (h2.mono hb.size)⟩)
        have hz : (r1 = 0) ↔ (L1 = L2 ∧ E1 = E2) := by rw [← HDr1.out]; exact cmpPat_zero
        have y2 : (r1 == 0) = y1 := by rw [← hy1, Bool.eq_iff_iff, beq_iff_eq, decide_eq_true_iff]; exact hz
        have y3 : (t1.toList == t2.toList) = y1 := by
          rw [← hy1, Bool.eq_iff_iff, beq_iff_eq, decide_eq_true_iff, ← ht1, ← ht2, str_toList, str_toList]
          refine ⟨fun h => patT_inj HR1.out.small HR2.out.small h, fun h => by rw [h.1, h.2]⟩
        have y4 : (y1 != y1) = false := by cases y1 <;> rfl
        have y5 : (r1 != r1) = false := by simp
        have htr : r1 ≤ 0 → r2 ≤ 0 → r3 ≤ 0 := fun h1 h2 => by
          rw [← HDr1.out] at h1
          rw [← HDr2.out] at h2
          rw [← HDr3.out]
          exact cmpPat_trans h1 h2
        have HTR := Lib.hid htr; have HY1 := Lib.hid hy1; have HRNG := Lib.hid hrng
        have KS7 := Lib.hid (fun (W : World) (hb : Below w13.heap.size w13 W) => (show W.cell? ⟨g1, 0, none⟩ = some (.slice Al1 n1 cl1) ∧ W.cell? ⟨g1, 1, none⟩ = some (.slice A1 m1 d1) ∧ W.cell? ⟨g2, 0, none⟩ = some (.slice Al2 n2 cl2) ∧ W.cell? ⟨g2, 1, none⟩ = some (.slice A2 m2 d2) ∧ W.cell? ⟨xb + 1, 0, none⟩ = some (.slice Al2 n2 cl2) ∧ W.cell? ⟨xb + 1, 1, none⟩ = some (.slice Ae2 m2 ce2) from
          have s := HST6.out.below hb
          ⟨s.w1.cell 0, s.w1.cell 1, s.w2.cell 0, s.w2.cell 1, s.p2.cell 0, s.p2.cell 1⟩))
        clear hlen hneg hsn hrng hy1 ht1 ht2 hz htr hf1 hf2
        go_upto_region 7 with fail
        obtain ⟨k1, hk1'⟩ : ∃ k, decide (r1 ≤ 0) = k := ⟨_, rfl⟩
        cases k1 with
        | false =>
          refine wp_region_held_drew (S := fun W => W.cell? ⟨g1, 0, none⟩ = some (.slice Al1 n1 cl1) ∧ W.cell? ⟨g1, 1, none⟩ = some (.slice A1 m1 d1) ∧ W.cell? ⟨g2, 0, none⟩ = some (.slice Al2 n2 cl2) ∧ W.cell? ⟨g2, 1, none⟩ = some (.slice A2 m2 d2) ∧ W.cell? ⟨xb + 1, 0, none⟩ = some (.slice Al2 n2 cl2) ∧ W.cell? ⟨xb + 1, 1, none⟩ = some (.slice Ae2 m2 ce2)) (by kernel_rfl) ?_ (fun hHeld => ?_)
          · (try dsimp only); exact KS7.out _ (below_drewN' (Below.refl _ _) 1)
          refine wpAnyH_take (i := 0) (oi := ({ dst := some 57, op := Op.move (Operand.tmp 10), type := 3, pos := "law.go:185", after := #[], guard := none } : Oper)) (v := ?vpa1) rfl (by kernel_rfl) (by kernel_rfl) (by kernel_rfl) (fun _ _ _ h => h) (Or.inl ⟨by rfl, ?hypa1⟩) (by assumption) ?restpa1
          case hypa1 => intro w hSw; (try dsimp only at hSw); go_simp; all_goals (with_reducible rfl)
          try simp only [Act.put, List.setIfInBounds_toArray, List.set_cons_zero, List.set_cons_succ]
          refine wpAnyH_take (i := 1) (oi := ({ dst := some 58, op := Op.load 29 (Operand.tmp 8), type := 29, pos := "law.go:185", after := #[], guard := none } : Oper)) (v := ?vpa2) rfl (by kernel_rfl) (by kernel_rfl) (by kernel_rfl) (fun _ _ _ h => h) (Or.inl ⟨by rfl, ?hypa2⟩) (by assumption) ?restpa2
          case hypa2 => intro w hSw; (try dsimp only at hSw); go_simp; all_goals (with_reducible rfl)
          try simp only [Act.put, List.setIfInBounds_toArray, List.set_cons_zero, List.set_cons_succ]
          refine wpAnyH_take (i := 2) (oi := ({ dst := some 59, op := Op.load 29 (Operand.tmp 7), type := 29, pos := "law.go:185", after := #[], guard := none } : Oper)) (v := ?vpa3) rfl (by kernel_rfl) (by kernel_rfl) (by kernel_rfl) (fun _ _ _ h => h) (Or.inl ⟨by rfl, ?hypa3⟩) (by assumption) ?restpa3
          case hypa3 => intro w hSw; (try dsimp only at hSw); go_simp; all_goals (with_reducible rfl)
          try simp only [Act.put, List.setIfInBounds_toArray, List.set_cons_zero, List.set_cons_succ]
          refine wpAnyH_ready (rs := [3]) (by kernel_rfl) (by simp) ?_
          refine (AllReadyH.cons (o := ({ dst := some 60, op := Op.call { callee := Callee.value (Operand.func 8), args := #[Operand.tmp 58, Operand.tmp 59], argTypes := #[29, 29] }, type := 3, pos := "law.go:185", after := #[{ on := 1, ground := Ground.data }, { on := 2, ground := Ground.data }], guard := none } : Oper)) rfl (fun K hK => ?_) AllReadyH.nil)
          go_simp
          refine (HC21.out _ (below_drewN' (Below.refl _ _) 1)).mono ?_; rintro e' w21 ⟨rfl, hb21⟩
          refine hK.out _ _ ?_ (fun hHeld => ?_)
          · (try dsimp only); exact KS7.out _ hb21
          clear hK K
          try simp only [Act.put, List.setIfInBounds_toArray, List.set_cons_zero, List.set_cons_succ]
          refine wpAnyH_take (i := 4) (oi := ({ dst := some 61, op := Op.unOp UnOp.neg 3 (Operand.tmp 60), type := 3, pos := "law.go:185", after := #[{ on := 3, ground := Ground.data }], guard := none } : Oper)) (v := ?vpa4) rfl (by kernel_rfl) (by kernel_rfl) (by kernel_rfl) (fun _ _ _ h => h) (Or.inl ⟨by rfl, ?hypa4⟩) (by assumption) ?restpa4
          case hypa4 => intro w hSw; (try dsimp only at hSw); go_simp; all_goals (with_reducible rfl)
          try simp only [Act.put, List.setIfInBounds_toArray, List.set_cons_zero, List.set_cons_succ]
          refine wpAnyH_take (i := 5) (oi := ({ dst := some 62, op := Op.binOp BinOp.neq 3 (Operand.tmp 57) (Operand.tmp 61) 3, type := 4, pos := "law.go:185", after := #[{ on := 0, ground := Ground.data }, { on := 4, ground := Ground.data }], guard := none } : Oper)) (v := ?vpa5) rfl (by kernel_rfl) (by kernel_rfl) (by kernel_rfl) (fun _ _ _ h => h) (Or.inl ⟨by rfl, ?hypa5⟩) (by assumption) ?restpa5
          case hypa5 => intro w hSw; (try dsimp only at hSw); go_simp; all_goals (with_reducible rfl)
          try simp only [Act.put, List.setIfInBounds_toArray, List.set_cons_zero, List.set_cons_succ]
          refine wpAnyH_take (i := 6) (oi := ({ dst := some 63, op := Op.move (Operand.tmp 62), type := 4, pos := "law.go:185", after := #[{ on := 5, ground := Ground.data }, { on := 3, ground := Ground.chain }], guard := none } : Oper)) (v := ?vpa6) rfl (by kernel_rfl) (by kernel_rfl) (by kernel_rfl) (fun _ _ _ h => h) (Or.inl ⟨by rfl, ?hypa6⟩) (by assumption) ?restpa6
          case hypa6 => intro w hSw; (try dsimp only at hSw); go_simp; all_goals (with_reducible rfl)
          try simp only [Act.put, List.setIfInBounds_toArray, List.set_cons_zero, List.set_cons_succ]
          refine wpAnyH_take (i := 7) (oi := ({ dst := some 64, op := Op.move (Operand.tmp 10), type := 3, pos := "law.go:185", after := #[{ on := 6, ground := Ground.guard }], guard := some (6, false) } : Oper)) (v := ?vpa7) rfl (by kernel_rfl) (by kernel_rfl) (by kernel_rfl) (fun _ _ _ h => h) (Or.inl ⟨by rfl, ?hypa7⟩) (by assumption) ?restpa7
          case hypa7 => intro w hSw; (try dsimp only at hSw); go_simp; all_goals (with_reducible rfl)
          try simp only [Act.put, List.setIfInBounds_toArray, List.set_cons_zero, List.set_cons_succ]
          refine wpAnyH_take (i := 8) (oi := ({ dst := some 65, op := Op.binOp BinOp.leq 3 (Operand.tmp 64) (Operand.const (Value.int IntKind.i64 0)) 3, type := 4, pos := "law.go:185", after := #[{ on := 7, ground := Ground.data }, { on := 6, ground := Ground.guard }], guard := some (6, false) } : Oper)) (v := ?vpa8) rfl (by kernel_rfl) (by kernel_rfl) (by kernel_rfl) (fun _ _ _ h => h) (Or.inl ⟨by rfl, ?hypa8⟩) (by assumption) ?restpa8
          case hypa8 => intro w hSw; (try dsimp only at hSw); go_simp; all_goals (with_reducible rfl)
          try simp only [Act.put, List.setIfInBounds_toArray, List.set_cons_zero, List.set_cons_succ]
          refine wpAnyH_take (i := 9) (oi := ({ dst := some 66, op := Op.move (Operand.tmp 65), type := 4, pos := "law.go:185", after := #[{ on := 8, ground := Ground.data }, { on := 6, ground := Ground.chain }, { on := 6, ground := Ground.guard }], guard := some (6, false) } : Oper)) (v := ?vpa9) rfl (by kernel_rfl) (by kernel_rfl) (by kernel_rfl) (fun _ _ _ h => h) (Or.inl ⟨by rfl, ?hypa9⟩) (by assumption) ?restpa9
          case hypa9 => intro w hSw; (try dsimp only at hSw); go_simp; all_goals (with_reducible rfl)
          try simp only [Act.put, List.setIfInBounds_toArray, List.set_cons_zero, List.set_cons_succ]
          refine wpAnyH_take (i := 10) (oi := ({ dst := some 67, op := Op.move (Operand.tmp 11), type := 3, pos := "law.go:185", after := #[{ on := 9, ground := Ground.guard }], guard := some (9, true) } : Oper)) (v := undef) rfl (by kernel_rfl) (by kernel_rfl) (by kernel_rfl) (fun _ _ _ h => h) (Or.inr ⟨by rfl, rfl⟩) (by assumption) ?_
          try simp only [Act.put, List.setIfInBounds_toArray, List.set_cons_zero, List.set_cons_succ]
          refine wpAnyH_take (i := 11) (oi := ({ dst := some 68, op := Op.binOp BinOp.leq 3 (Operand.tmp 67) (Operand.const (Value.int IntKind.i64 0)) 3, type := 4, pos := "law.go:185", after := #[{ on := 10, ground := Ground.data }, { on := 9, ground := Ground.guard }], guard := some (9, true) } : Oper)) (v := undef) rfl (by kernel_rfl) (by kernel_rfl) (by kernel_rfl) (fun _ _ _ h => h) (Or.inr ⟨by rfl, rfl⟩) (by assumption) ?_
          try simp only [Act.put, List.setIfInBounds_toArray, List.set_cons_zero, List.set_cons_succ]
          refine wpAnyH_take (i := 12) (oi := ({ dst := some 69, op := Op.pick (Operand.tmp 66) (Operand.tmp 68) (Operand.const (Value.bool false)), type := 4, pos := "law.go:185", after := #[{ on := 9, ground := Ground.data }, { on := 11, ground := Ground.data }, { on := 6, ground := Ground.guard }], guard := some (6, false) } : Oper)) (v := ?vpa12) rfl (by kernel_rfl) (by kernel_rfl) (by kernel_rfl) (fun _ _ _ h => h) (Or.inl ⟨by rfl, ?hypa12⟩) (by assumption) ?restpa12
          case hypa12 => intro w hSw; (try dsimp only at hSw); go_simp; all_goals (with_reducible rfl)
          try simp only [Act.put, List.setIfInBounds_toArray, List.set_cons_zero, List.set_cons_succ]
          refine wpAnyH_take (i := 13) (oi := ({ dst := some 70, op := Op.move (Operand.tmp 69), type := 4, pos := "law.go:185", after := #[{ on := 12, ground := Ground.data }, { on := 9, ground := Ground.chain }, { on := 6, ground := Ground.guard }], guard := some (6, false) } : Oper)) (v := ?vpa13) rfl (by kernel_rfl) (by kernel_rfl) (by kernel_rfl) (fun _ _ _ h => h) (Or.inl ⟨by rfl, ?hypa13⟩) (by assumption) ?restpa13
          case hypa13 => intro w hSw; (try dsimp only at hSw); go_simp; all_goals (with_reducible rfl)
          try simp only [Act.put, List.setIfInBounds_toArray, List.set_cons_zero, List.set_cons_succ]
          refine wpAnyH_take (i := 14) (oi := ({ dst := some 71, op := Op.move (Operand.tmp 12), type := 3, pos := "law.go:185", after := #[{ on := 13, ground := Ground.guard }], guard := some (13, true) } : Oper)) (v := undef) rfl (by kernel_rfl) (by kernel_rfl) (by kernel_rfl) (fun _ _ _ h => h) (Or.inr ⟨by rfl, rfl⟩) (by assumption) ?_
          try simp only [Act.put, List.setIfInBounds_toArray, List.set_cons_zero, List.set_cons_succ]
          refine wpAnyH_take (i := 15) (oi := ({ dst := some 72, op := Op.binOp BinOp.gtr 3 (Operand.tmp 71) (Operand.const (Value.int IntKind.i64 0)) 3, type := 4, pos := "law.go:185", after := #[{ on := 14, ground := Ground.data }, { on := 13, ground := Ground.guard }], guard := some (13, true) } : Oper)) (v := undef) rfl (by kernel_rfl) (by kernel_rfl) (by kernel_rfl) (fun _ _ _ h => h) (Or.inr ⟨by rfl, rfl⟩) (by assumption) ?_
          try simp only [Act.put, List.setIfInBounds_toArray, List.set_cons_zero, List.set_cons_succ]
          refine wpAnyH_take (i := 16) (oi := ({ dst := some 73, op := Op.pick (Operand.tmp 70) (Operand.tmp 72) (Operand.const (Value.bool false)), type := 4, pos := "law.go:185", after := #[{ on := 13, ground := Ground.data }, { on := 15, ground := Ground.data }, { on := 6, ground := Ground.guard }], guard := some (6, false) } : Oper)) (v := ?vpa16) rfl (by kernel_rfl) (by kernel_rfl) (by kernel_rfl) (fun _ _ _ h => h) (Or.inl ⟨by rfl, ?hypa16⟩) (by assumption) ?restpa16
          case hypa16 => intro w hSw; (try dsimp only at hSw); go_simp; all_goals (with_reducible rfl)
          try simp only [Act.put, List.setIfInBounds_toArray, List.set_cons_zero, List.set_cons_succ]
          refine wpAnyH_take (i := 17) (oi := ({ dst := some 74, op := Op.pick (Operand.tmp 63) (Operand.const (Value.bool true)) (Operand.tmp 73), type := 4, pos := "law.go:185", after := #[{ on := 6, ground := Ground.data }, { on := 16, ground := Ground.data }], guard := none } : Oper)) (v := ?vpa17) rfl (by kernel_rfl) (by kernel_rfl) (by kernel_rfl) (fun _ _ _ h => h) (Or.inl ⟨by rfl, ?hypa17⟩) (by assumption) ?restpa17
          case hypa17 => intro w hSw; (try dsimp only at hSw); go_simp; all_goals (with_reducible rfl)
          try simp only [Act.put, List.setIfInBounds_toArray, List.set_cons_zero, List.set_cons_succ]
          refine wpAnyH_take (i := 18) (oi := ({ dst := some 75, op := Op.move (Operand.tmp 74), type := 4, pos := "law.go:185", after := #[{ on := 17, ground := Ground.data }, { on := 13, ground := Ground.chain }], guard := none } : Oper)) (v := ?vpa18) rfl (by kernel_rfl) (by kernel_rfl) (by kernel_rfl) (fun _ _ _ h => h) (Or.inl ⟨by rfl, ?hypa18⟩) (by assumption) ?restpa18
          case hypa18 => intro w hSw; (try dsimp only at hSw); go_simp; all_goals (with_reducible rfl)
          try simp only [Act.put, List.setIfInBounds_toArray, List.set_cons_zero, List.set_cons_succ]
          refine wpAnyH_take (i := 19) (oi := ({ dst := some 76, op := Op.move (Operand.tmp 10), type := 3, pos := "law.go:185", after := #[{ on := 18, ground := Ground.guard }], guard := some (18, false) } : Oper)) (v := ?vpa19) rfl (by kernel_rfl) (by kernel_rfl) (by kernel_rfl) (fun _ _ _ h => h) (Or.inl ⟨by rfl, ?hypa19⟩) (by assumption) ?restpa19
          case hypa19 => intro w hSw; (try dsimp only at hSw); go_simp; all_goals (with_reducible rfl)
          try simp only [Act.put, List.setIfInBounds_toArray, List.set_cons_zero, List.set_cons_succ]
          refine wpAnyH_take (i := 20) (oi := ({ dst := some 77, op := Op.binOp BinOp.eql 3 (Operand.tmp 76) (Operand.const (Value.int IntKind.i64 0)) 3, type := 4, pos := "law.go:185", after := #[{ on := 19, ground := Ground.data }, { on := 18, ground := Ground.guard }], guard := some (18, false) } : Oper)) (v := ?vpa20) rfl (by kernel_rfl) (by kernel_rfl) (by kernel_rfl) (fun _ _ _ h => h) (Or.inl ⟨by rfl, ?hypa20⟩) (by assumption) ?restpa20
          case hypa20 => intro w hSw; (try dsimp only at hSw); go_simp; all_goals (with_reducible rfl)
          try simp only [Act.put, List.setIfInBounds_toArray, List.set_cons_zero, List.set_cons_succ]
          refine wpAnyH_take (i := 21) (oi := ({ dst := some 78, op := Op.load 29 (Operand.tmp 7), type := 29, pos := "law.go:185", after := #[{ on := 18, ground := Ground.guard }], guard := some (18, false) } : Oper)) (v := ?vpa21) rfl (by kernel_rfl) (by kernel_rfl) (by kernel_rfl) (fun _ _ _ h => h) (Or.inl ⟨by rfl, ?hypa21⟩) (by assumption) ?restpa21
          case hypa21 => intro w hSw; (try dsimp only at hSw); go_simp; all_goals (with_reducible rfl)
          try simp only [Act.put, List.setIfInBounds_toArray, List.set_cons_zero, List.set_cons_succ]
          refine wpAnyH_take (i := 22) (oi := ({ dst := some 79, op := Op.load 25 (Operand.tmp 4), type := 25, pos := "law.go:185", after := #[{ on := 18, ground := Ground.guard }], guard := some (18, false) } : Oper)) (v := ?vpa22) rfl (by kernel_rfl) (by kernel_rfl) (by kernel_rfl) (fun _ _ _ h => h) (Or.inl ⟨by rfl, ?hypa22⟩) (by assumption) ?restpa22
          case hypa22 => intro w hSw; (try dsimp only at hSw); go_simp; all_goals (with_reducible rfl)
          try simp only [Act.put, List.setIfInBounds_toArray, List.set_cons_zero, List.set_cons_succ]
          refine wpAnyH_ready (rs := [23]) (by kernel_rfl) (by simp) ?_
          refine (AllReadyH.cons (o := ({ dst := some 80, op := Op.call { callee := Callee.value (Operand.func 9), args := #[Operand.tmp 78, Operand.tmp 79], argTypes := #[29, 25] }, type := 4, pos := "law.go:185", after := #[{ on := 21, ground := Ground.data }, { on := 22, ground := Ground.data }, { on := 18, ground := Ground.chain }, { on := 18, ground := Ground.guard }], guard := some (18, false) } : Oper)) rfl (fun K hK => ?_) AllReadyH.nil)
          go_simp
          refine (HSA.out _ hb21).mono ?_; rintro e' w22 ⟨rfl, hb22⟩
          refine hK.out _ _ ?_ (fun hHeld => ?_)
          · (try dsimp only); exact KS7.out _ hb22
          clear hK K
          try simp only [Act.put, List.setIfInBounds_toArray, List.set_cons_zero, List.set_cons_succ]
          refine wpAnyH_take (i := 24) (oi := ({ dst := some 81, op := Op.binOp BinOp.neq 4 (Operand.tmp 77) (Operand.tmp 80) 4, type := 4, pos := "law.go:185", after := #[{ on := 20, ground := Ground.data }, { on := 23, ground := Ground.data }, { on := 18, ground := Ground.guard }], guard := some (18, false) } : Oper)) (v := ?vpa23) rfl (by kernel_rfl) (by kernel_rfl) (by kernel_rfl) (fun _ _ _ h => h) (Or.inl ⟨by rfl, ?hypa23⟩) (by assumption) ?restpa23
          case hypa23 => intro w hSw; (try dsimp only at hSw); go_simp; all_goals (with_reducible rfl)
          try simp only [Act.put, List.setIfInBounds_toArray, List.set_cons_zero, List.set_cons_succ]
          refine wpAnyH_take (i := 25) (oi := ({ dst := some 82, op := Op.pick (Operand.tmp 75) (Operand.const (Value.bool true)) (Operand.tmp 81), type := 4, pos := "law.go:185", after := #[{ on := 18, ground := Ground.data }, { on := 24, ground := Ground.data }], guard := none } : Oper)) (v := ?vpa24) rfl (by kernel_rfl) (by kernel_rfl) (by kernel_rfl) (fun _ _ _ h => h) (Or.inl ⟨by rfl, ?hypa24⟩) (by assumption) ?restpa24
          case hypa24 => intro w hSw; (try dsimp only at hSw); go_simp; all_goals (with_reducible rfl)
          try simp only [Act.put, List.setIfInBounds_toArray, List.set_cons_zero, List.set_cons_succ]
          refine wpAnyH_take (i := 26) (oi := ({ dst := some 83, op := Op.move (Operand.tmp 82), type := 4, pos := "law.go:185", after := #[{ on := 25, ground := Ground.data }, { on := 23, ground := Ground.chain }], guard := none } : Oper)) (v := ?vpa25) rfl (by kernel_rfl) (by kernel_rfl) (by kernel_rfl) (fun _ _ _ h => h) (Or.inl ⟨by rfl, ?hypa25⟩) (by assumption) ?restpa25
          case hypa25 => intro w hSw; (try dsimp only at hSw); go_simp; all_goals (with_reducible rfl)
          try simp only [Act.put, List.setIfInBounds_toArray, List.set_cons_zero, List.set_cons_succ]
          refine wpAnyH_take (i := 27) (oi := ({ dst := some 84, op := Op.move (Operand.tmp 10), type := 3, pos := "law.go:185", after := #[{ on := 26, ground := Ground.guard }], guard := some (26, false) } : Oper)) (v := ?vpa26) rfl (by kernel_rfl) (by kernel_rfl) (by kernel_rfl) (fun _ _ _ h => h) (Or.inl ⟨by rfl, ?hypa26⟩) (by assumption) ?restpa26
          case hypa26 => intro w hSw; (try dsimp only at hSw); go_simp; all_goals (with_reducible rfl)
          try simp only [Act.put, List.setIfInBounds_toArray, List.set_cons_zero, List.set_cons_succ]
          refine wpAnyH_take (i := 28) (oi := ({ dst := some 85, op := Op.binOp BinOp.eql 3 (Operand.tmp 84) (Operand.const (Value.int IntKind.i64 0)) 3, type := 4, pos := "law.go:185", after := #[{ on := 27, ground := Ground.data }, { on := 26, ground := Ground.guard }], guard := some (26, false) } : Oper)) (v := ?vpa27) rfl (by kernel_rfl) (by kernel_rfl) (by kernel_rfl) (fun _ _ _ h => h) (Or.inl ⟨by rfl, ?hypa27⟩) (by assumption) ?restpa27
          case hypa27 => intro w hSw; (try dsimp only at hSw); go_simp; all_goals (with_reducible rfl)
          try simp only [Act.put, List.setIfInBounds_toArray, List.set_cons_zero, List.set_cons_succ]
          refine wpAnyH_take (i := 29) (oi := ({ dst := some 86, op := Op.load 29 (Operand.tmp 7), type := 29, pos := "law.go:185", after := #[{ on := 26, ground := Ground.guard }], guard := some (26, false) } : Oper)) (v := ?vpa28) rfl (by kernel_rfl) (by kernel_rfl) (by kernel_rfl) (fun _ _ _ h => h) (Or.inl ⟨by rfl, ?hypa28⟩) (by assumption) ?restpa28
          case hypa28 => intro w hSw; (try dsimp only at hSw); go_simp; all_goals (with_reducible rfl)
          try simp only [Act.put, List.setIfInBounds_toArray, List.set_cons_zero, List.set_cons_succ]
          refine wpAnyH_take (i := 31) (oi := ({ dst := some 88, op := Op.load 29 (Operand.tmp 8), type := 29, pos := "law.go:185", after := #[{ on := 26, ground := Ground.guard }], guard := some (26, false) } : Oper)) (v := ?vpa29) rfl (by kernel_rfl) (by kernel_rfl) (by kernel_rfl) (fun _ _ _ h => h) (Or.inl ⟨by rfl, ?hypa29⟩) (by assumption) ?restpa29
          case hypa29 => intro w hSw; (try dsimp only at hSw); go_simp; all_goals (with_reducible rfl)
          try simp only [Act.put, List.setIfInBounds_toArray, List.set_cons_zero, List.set_cons_succ]
          refine wpAnyH_ready (rs := [30]) (by kernel_rfl) (by simp) ?_
          refine (AllReadyH.cons (o := ({ dst := some 87, op := Op.call { callee := Callee.value (Operand.func 10), args := #[Operand.tmp 86], argTypes := #[29] }, type := 9, pos := "law.go:185", after := #[{ on := 29, ground := Ground.data }, { on := 26, ground := Ground.chain }, { on := 26, ground := Ground.guard }], guard := some (26, false) } : Oper)) rfl (fun K hK => ?_) AllReadyH.nil)
          go_simp
          refine (HTX1.out _ hb22).mono ?_; rintro e' w23 ⟨rfl, hb23⟩
          refine hK.out _ _ ?_ (fun hHeld => ?_)
          · (try dsimp only); exact KS7.out _ hb23
          clear hK K
          try simp only [Act.put, List.setIfInBounds_toArray, List.set_cons_zero, List.set_cons_succ]
          refine wpAnyH_ready (rs := [32]) (by kernel_rfl) (by simp) ?_
          refine (AllReadyH.cons (o := ({ dst := some 89, op := Op.call { callee := Callee.value (Operand.func 10), args := #[Operand.tmp 88], argTypes := #[29] }, type := 9, pos := "law.go:185", after := #[{ on := 31, ground := Ground.data }, { on := 30, ground := Ground.chain }, { on := 26, ground := Ground.guard }], guard := some (26, false) } : Oper)) rfl (fun K hK => ?_) AllReadyH.nil)
          go_simp
          refine (HTX2.out _ hb23).mono ?_; rintro e' w24 ⟨rfl, hb24⟩
          refine hK.out _ _ ?_ (fun hHeld => ?_)
          · (try dsimp only); exact KS7.out _ hb24
          clear hK K
          try simp only [Act.put, List.setIfInBounds_toArray, List.set_cons_zero, List.set_cons_succ]
          refine wpAnyH_take (i := 33) (oi := ({ dst := some 90, op := Op.binOp BinOp.eql 9 (Operand.tmp 87) (Operand.tmp 89) 9, type := 4, pos := "law.go:185", after := #[{ on := 30, ground := Ground.data }, { on := 32, ground := Ground.data }, { on := 26, ground := Ground.guard }], guard := some (26, false) } : Oper)) (v := ?vpa30) rfl (by kernel_rfl) (by kernel_rfl) (by kernel_rfl) (fun _ _ _ h => h) (Or.inl ⟨by rfl, ?hypa30⟩) (by assumption) ?restpa30
          case hypa30 => intro w hSw; (try dsimp only at hSw); go_simp; all_goals (with_reducible rfl)
          try simp only [Act.put, List.setIfInBounds_toArray, List.set_cons_zero, List.set_cons_succ]
          refine wpAnyH_take (i := 34) (oi := ({ dst := some 91, op := Op.binOp BinOp.neq 4 (Operand.tmp 85) (Operand.tmp 90) 4, type := 4, pos := "law.go:185", after := #[{ on := 28, ground := Ground.data }, { on := 33, ground := Ground.data }, { on := 26, ground := Ground.guard }], guard := some (26, false) } : Oper)) (v := ?vpa31) rfl (by kernel_rfl) (by kernel_rfl) (by kernel_rfl) (fun _ _ _ h => h) (Or.inl ⟨by rfl, ?hypa31⟩) (by assumption) ?restpa31
          case hypa31 => intro w hSw; (try dsimp only at hSw); go_simp; all_goals (with_reducible rfl)
          try simp only [Act.put, List.setIfInBounds_toArray, List.set_cons_zero, List.set_cons_succ]
          refine wpAnyH_take (i := 35) (oi := ({ dst := some 92, op := Op.pick (Operand.tmp 83) (Operand.const (Value.bool true)) (Operand.tmp 91), type := 4, pos := "law.go:185", after := #[{ on := 26, ground := Ground.data }, { on := 34, ground := Ground.data }], guard := none } : Oper)) (v := ?vpa32) rfl (by kernel_rfl) (by kernel_rfl) (by kernel_rfl) (fun _ _ _ h => h) (Or.inl ⟨by rfl, ?hypa32⟩) (by assumption) ?restpa32
          case hypa32 => intro w hSw; (try dsimp only at hSw); go_simp; all_goals (with_reducible rfl)
          try simp only [Act.put, List.setIfInBounds_toArray, List.set_cons_zero, List.set_cons_succ]
          refine wpAnyH_done (by kernel_rfl) ?_ _
          have HST7 := Lib.hid (HST6.out.below hb24)
          have q0 : w24.cell? ⟨xb, 0, none⟩ = some (.slice Al1 n1 cl1) := HST7.out.p1.cell 0
          clear hb21 hb22 hb23 hb24 KS7 HC21 HSA HTX1 HTX2 y2 y3 y4 y5 s1
          go_wp2_with fail
          go_loopg [13, 14] n1 (fun g sv vv wr => ∃ k, k ≤ n1 ∧ g = n1 - k ∧ vv = .int .i64 (k : Nat) ∧ sv = .int .i64 (degSum E1 k : Nat) ∧ St w xb Al1 Ae1 A1 n1 cl1 m1 ce1 d1 g1 L1 E1 Al2 Ae2 A2 n2 cl2 m2 ce2 d2 g2 L2 E2 Al3 Ae3 A3 n3 cl3 m3 ce3 d3 g3 L3 E3 wr)
          case atStart => exact ⟨0, Nat.zero_le _, rfl, rfl, rfl, HST7.out⟩
          case round =>
            obtain ⟨k, hk, rfl, rfl, rfl, hS⟩ := hrel
            have hf1 := HF1.out
            have hD := degSum_two (n := n1) (E := E1) (fun e he => by have := HR1.out.ends e he; rw [HN1.out] at this; exact this)
            rw [HM1.out] at hD
            have x0 : wr.cell? ⟨xb, 0, none⟩ = some (.slice Al1 n1 cl1) := hS.p1.cell 0
            have p0 : wr.cell? ⟨g1, 0, none⟩ = some (.slice Al1 n1 cl1) := hS.w1.cell 0
            have p1 : wr.cell? ⟨g1, 1, none⟩ = some (.slice A1 m1 d1) := hS.w1.cell 1
            by_cases hlt : k < n1
            · have hmono := degSum_mono E1 (k + 1) (n1 - (k + 1))
              rw [show k + 1 + (n1 - (k + 1)) = n1 by omega] at hmono
              have hnx : degSum E1 (k + 1) = degSum E1 k + E1.countP (atEnd (k : Int)) := rfl
              have DG := degree_any (AL := Al1) (nL := n1) (cL := cl1) hS.e1 HM1.out (by omega) (k : Int)
              obtain ⟨c, hc⟩ : ∃ c, E1.countP (atEnd (k : Int)) = c := ⟨_, rfl⟩
              obtain ⟨D, hDk⟩ : ∃ D, degSum E1 k = D := ⟨_, rfl⟩
              rw [hc] at DG hnx
              rw [hDk] at hnx ⊢
              have hbd : D + c ≤ 120 := by omega
              have t3 : decide (k < n1) = true := decide_eq_true hlt
              have hkb : k ≤ 20 := by omega
              have j1 : (D : Int) + c ≤ 120 := by omega
              have j2 : (0 : Int) ≤ D := by omega
              have j3 : (0 : Int) ≤ c := by omega
              have HDG := Lib.hid DG; have HNX := Lib.hid hnx; have HLT := Lib.hid hlt; have HS := Lib.hid hS
              clear hmono hnx DG hc hDk hD hlt hS hf1
              go_wp2_with fail
              refine HDG.out.mono ?_; rintro e wq ⟨rfl, hb⟩
              have HSq := Lib.hid (HS.out.below hb)
              clear hb
              go_wp2_with fail
              go_roundg (n1 - (k + 1))
              case rel => exact ⟨k + 1, HLT.out, rfl, by go_num, by rw [HNX.out]; go_num, HSq.out⟩
              case measure => have := HLT.out; omega
            · obtain rfl : k = n1 := by omega
              have t3 : decide (k < k) = false := by simp
              rw [hD]
              have hlen := HLEN.out
              have CM := compare_any hS.l1 hS.e1 hS.l1 hS.e1 hlen.1.1 hlen.1.2 hlen.1.1 hlen.1.2
              rw [cmpPat_self] at CM
              have x1 : wr.cell? ⟨xb, 1, none⟩ = some (.slice Ae1 m1 ce1) := hS.p1.cell 1
              have x2 : wr.cell? ⟨xb + 1, 0, none⟩ = some (.slice Al2 n2 cl2) := hS.p2.cell 0
              have j1 : (m1 : Int) ≤ 60 := by omega
              have j2 : (0 : Int) ≤ m1 := by omega
              have HCM := Lib.hid CM; have HS := Lib.hid hS
              have hshort : k < n2 → r1 < 0 := fun h => by
                rw [← HDr1.out]
                exact cmpPat_short (by rw [HN1.out, HN2.out]; exact h)
              have HSH := Lib.hid hshort
              clear hD hlen CM hlt hS hf1 hshort
              by_cases hn : n2 ≤ k
              · have t4 : decide (n2 ≤ k) = true := decide_eq_true hn
                clear hn
                go_wp2_with fail
                refine HCM.out.mono ?_; rintro e wq ⟨rfl, hb⟩
                have HSq := Lib.hid (HS.out.below hb)
                clear hb
                go_wp2_with fail
                go_ret
                exact ⟨rfl, HSq.out.bel⟩
              · have t4 : decide (n2 ≤ k) = false := decide_eq_false hn
                have t5 : decide (r1 < 0) = true := decide_eq_true (HSH.out (by omega))
                clear hn
                go_wp2_with fail
                refine HCM.out.mono ?_; rintro e wq ⟨rfl, hb⟩
                have HSq := Lib.hid (HS.out.below hb)
                clear hb
                go_wp2_with fail
                go_ret
                exact ⟨rfl, HSq.out.bel⟩
        | true =>
          obtain ⟨k2, hk2'⟩ : ∃ k, decide (r2 ≤ 0) = k := ⟨_, rfl⟩
          cases k2 with
          | false =>
            refine wp_region_held_drew (S := fun W => W.cell? ⟨g1, 0, none⟩ = some (.slice Al1 n1 cl1) ∧ W.cell? ⟨g1, 1, none⟩ = some (.slice A1 m1 d1) ∧ W.cell? ⟨g2, 0, none⟩ = some (.slice Al2 n2 cl2) ∧ W.cell? ⟨g2, 1, none⟩ = some (.slice A2 m2 d2) ∧ W.cell? ⟨xb + 1, 0, none⟩ = some (.slice Al2 n2 cl2) ∧ W.cell? ⟨xb + 1, 1, none⟩ = some (.slice Ae2 m2 ce2)) (by kernel_rfl) ?_ (fun hHeld => ?_)
            · (try dsimp only); exact KS7.out _ (below_drewN' (Below.refl _ _) 1)
            refine wpAnyH_take (i := 0) (oi := ({ dst := some 57, op := Op.move (Operand.tmp 10), type := 3, pos := "law.go:185", after := #[], guard := none } : Oper)) (v := ?vpb1) rfl (by kernel_rfl) (by kernel_rfl) (by kernel_rfl) (fun _ _ _ h => h) (Or.inl ⟨by rfl, ?hypb1⟩) (by assumption) ?restpb1
            case hypb1 => intro w hSw; (try dsimp only at hSw); go_simp; all_goals (with_reducible rfl)
            try simp only [Act.put, List.setIfInBounds_toArray, List.set_cons_zero, List.set_cons_succ]
            refine wpAnyH_take (i := 1) (oi := ({ dst := some 58, op := Op.load 29 (Operand.tmp 8), type := 29, pos := "law.go:185", after := #[], guard := none } : Oper)) (v := ?vpb2) rfl (by kernel_rfl) (by kernel_rfl) (by kernel_rfl) (fun _ _ _ h => h) (Or.inl ⟨by rfl, ?hypb2⟩) (by assumption) ?restpb2
            case hypb2 => intro w hSw; (try dsimp only at hSw); go_simp; all_goals (with_reducible rfl)
            try simp only [Act.put, List.setIfInBounds_toArray, List.set_cons_zero, List.set_cons_succ]
            refine wpAnyH_take (i := 2) (oi := ({ dst := some 59, op := Op.load 29 (Operand.tmp 7), type := 29, pos := "law.go:185", after := #[], guard := none } : Oper)) (v := ?vpb3) rfl (by kernel_rfl) (by kernel_rfl) (by kernel_rfl) (fun _ _ _ h => h) (Or.inl ⟨by rfl, ?hypb3⟩) (by assumption) ?restpb3
            case hypb3 => intro w hSw; (try dsimp only at hSw); go_simp; all_goals (with_reducible rfl)
            try simp only [Act.put, List.setIfInBounds_toArray, List.set_cons_zero, List.set_cons_succ]
            refine wpAnyH_ready (rs := [3]) (by kernel_rfl) (by simp) ?_
            refine (AllReadyH.cons (o := ({ dst := some 60, op := Op.call { callee := Callee.value (Operand.func 8), args := #[Operand.tmp 58, Operand.tmp 59], argTypes := #[29, 29] }, type := 3, pos := "law.go:185", after := #[{ on := 1, ground := Ground.data }, { on := 2, ground := Ground.data }], guard := none } : Oper)) rfl (fun K hK => ?_) AllReadyH.nil)
            go_simp
            refine (HC21.out _ (below_drewN' (Below.refl _ _) 1)).mono ?_; rintro e' w21 ⟨rfl, hb21⟩
            refine hK.out _ _ ?_ (fun hHeld => ?_)
            · (try dsimp only); exact KS7.out _ hb21
            clear hK K
            try simp only [Act.put, List.setIfInBounds_toArray, List.set_cons_zero, List.set_cons_succ]
            refine wpAnyH_take (i := 4) (oi := ({ dst := some 61, op := Op.unOp UnOp.neg 3 (Operand.tmp 60), type := 3, pos := "law.go:185", after := #[{ on := 3, ground := Ground.data }], guard := none } : Oper)) (v := ?vpb4) rfl (by kernel_rfl) (by kernel_rfl) (by kernel_rfl) (fun _ _ _ h => h) (Or.inl ⟨by rfl, ?hypb4⟩) (by assumption) ?restpb4
            case hypb4 => intro w hSw; (try dsimp only at hSw); go_simp; all_goals (with_reducible rfl)
            try simp only [Act.put, List.setIfInBounds_toArray, List.set_cons_zero, List.set_cons_succ]
            refine wpAnyH_take (i := 5) (oi := ({ dst := some 62, op := Op.binOp BinOp.neq 3 (Operand.tmp 57) (Operand.tmp 61) 3, type := 4, pos := "law.go:185", after := #[{ on := 0, ground := Ground.data }, { on := 4, ground := Ground.data }], guard := none } : Oper)) (v := ?vpb5) rfl (by kernel_rfl) (by kernel_rfl) (by kernel_rfl) (fun _ _ _ h => h) (Or.inl ⟨by rfl, ?hypb5⟩) (by assumption) ?restpb5
            case hypb5 => intro w hSw; (try dsimp only at hSw); go_simp; all_goals (with_reducible rfl)
            try simp only [Act.put, List.setIfInBounds_toArray, List.set_cons_zero, List.set_cons_succ]
            refine wpAnyH_take (i := 6) (oi := ({ dst := some 63, op := Op.move (Operand.tmp 62), type := 4, pos := "law.go:185", after := #[{ on := 5, ground := Ground.data }, { on := 3, ground := Ground.chain }], guard := none } : Oper)) (v := ?vpb6) rfl (by kernel_rfl) (by kernel_rfl) (by kernel_rfl) (fun _ _ _ h => h) (Or.inl ⟨by rfl, ?hypb6⟩) (by assumption) ?restpb6
            case hypb6 => intro w hSw; (try dsimp only at hSw); go_simp; all_goals (with_reducible rfl)
            try simp only [Act.put, List.setIfInBounds_toArray, List.set_cons_zero, List.set_cons_succ]
            refine wpAnyH_take (i := 7) (oi := ({ dst := some 64, op := Op.move (Operand.tmp 10), type := 3, pos := "law.go:185", after := #[{ on := 6, ground := Ground.guard }], guard := some (6, false) } : Oper)) (v := ?vpb7) rfl (by kernel_rfl) (by kernel_rfl) (by kernel_rfl) (fun _ _ _ h => h) (Or.inl ⟨by rfl, ?hypb7⟩) (by assumption) ?restpb7
            case hypb7 => intro w hSw; (try dsimp only at hSw); go_simp; all_goals (with_reducible rfl)
            try simp only [Act.put, List.setIfInBounds_toArray, List.set_cons_zero, List.set_cons_succ]
            refine wpAnyH_take (i := 8) (oi := ({ dst := some 65, op := Op.binOp BinOp.leq 3 (Operand.tmp 64) (Operand.const (Value.int IntKind.i64 0)) 3, type := 4, pos := "law.go:185", after := #[{ on := 7, ground := Ground.data }, { on := 6, ground := Ground.guard }], guard := some (6, false) } : Oper)) (v := ?vpb8) rfl (by kernel_rfl) (by kernel_rfl) (by kernel_rfl) (fun _ _ _ h => h) (Or.inl ⟨by rfl, ?hypb8⟩) (by assumption) ?restpb8
            case hypb8 => intro w hSw; (try dsimp only at hSw); go_simp; all_goals (with_reducible rfl)
            try simp only [Act.put, List.setIfInBounds_toArray, List.set_cons_zero, List.set_cons_succ]
            refine wpAnyH_take (i := 9) (oi := ({ dst := some 66, op := Op.move (Operand.tmp 65), type := 4, pos := "law.go:185", after := #[{ on := 8, ground := Ground.data }, { on := 6, ground := Ground.chain }, { on := 6, ground := Ground.guard }], guard := some (6, false) } : Oper)) (v := ?vpb9) rfl (by kernel_rfl) (by kernel_rfl) (by kernel_rfl) (fun _ _ _ h => h) (Or.inl ⟨by rfl, ?hypb9⟩) (by assumption) ?restpb9
            case hypb9 => intro w hSw; (try dsimp only at hSw); go_simp; all_goals (with_reducible rfl)
            try simp only [Act.put, List.setIfInBounds_toArray, List.set_cons_zero, List.set_cons_succ]
            refine wpAnyH_take (i := 10) (oi := ({ dst := some 67, op := Op.move (Operand.tmp 11), type := 3, pos := "law.go:185", after := #[{ on := 9, ground := Ground.guard }], guard := some (9, true) } : Oper)) (v := ?vpb10) rfl (by kernel_rfl) (by kernel_rfl) (by kernel_rfl) (fun _ _ _ h => h) (Or.inl ⟨by rfl, ?hypb10⟩) (by assumption) ?restpb10
            case hypb10 => intro w hSw; (try dsimp only at hSw); go_simp; all_goals (with_reducible rfl)
            try simp only [Act.put, List.setIfInBounds_toArray, List.set_cons_zero, List.set_cons_succ]
            refine wpAnyH_take (i := 11) (oi := ({ dst := some 68, op := Op.binOp BinOp.leq 3 (Operand.tmp 67) (Operand.const (Value.int IntKind.i64 0)) 3, type := 4, pos := "law.go:185", after := #[{ on := 10, ground := Ground.data }, { on := 9, ground := Ground.guard }], guard := some (9, true) } : Oper)) (v := ?vpb11) rfl (by kernel_rfl) (by kernel_rfl) (by kernel_rfl) (fun _ _ _ h => h) (Or.inl ⟨by rfl, ?hypb11⟩) (by assumption) ?restpb11
            case hypb11 => intro w hSw; (try dsimp only at hSw); go_simp; all_goals (with_reducible rfl)
            try simp only [Act.put, List.setIfInBounds_toArray, List.set_cons_zero, List.set_cons_succ]
            refine wpAnyH_take (i := 12) (oi := ({ dst := some 69, op := Op.pick (Operand.tmp 66) (Operand.tmp 68) (Operand.const (Value.bool false)), type := 4, pos := "law.go:185", after := #[{ on := 9, ground := Ground.data }, { on := 11, ground := Ground.data }, { on := 6, ground := Ground.guard }], guard := some (6, false) } : Oper)) (v := ?vpb12) rfl (by kernel_rfl) (by kernel_rfl) (by kernel_rfl) (fun _ _ _ h => h) (Or.inl ⟨by rfl, ?hypb12⟩) (by assumption) ?restpb12
            case hypb12 => intro w hSw; (try dsimp only at hSw); go_simp; all_goals (with_reducible rfl)
            try simp only [Act.put, List.setIfInBounds_toArray, List.set_cons_zero, List.set_cons_succ]
            refine wpAnyH_take (i := 13) (oi := ({ dst := some 70, op := Op.move (Operand.tmp 69), type := 4, pos := "law.go:185", after := #[{ on := 12, ground := Ground.data }, { on := 9, ground := Ground.chain }, { on := 6, ground := Ground.guard }], guard := some (6, false) } : Oper)) (v := ?vpb13) rfl (by kernel_rfl) (by kernel_rfl) (by kernel_rfl) (fun _ _ _ h => h) (Or.inl ⟨by rfl, ?hypb13⟩) (by assumption) ?restpb13
            case hypb13 => intro w hSw; (try dsimp only at hSw); go_simp; all_goals (with_reducible rfl)
            try simp only [Act.put, List.setIfInBounds_toArray, List.set_cons_zero, List.set_cons_succ]
            refine wpAnyH_take (i := 14) (oi := ({ dst := some 71, op := Op.move (Operand.tmp 12), type := 3, pos := "law.go:185", after := #[{ on := 13, ground := Ground.guard }], guard := some (13, true) } : Oper)) (v := undef) rfl (by kernel_rfl) (by kernel_rfl) (by kernel_rfl) (fun _ _ _ h => h) (Or.inr ⟨by rfl, rfl⟩) (by assumption) ?_
            try simp only [Act.put, List.setIfInBounds_toArray, List.set_cons_zero, List.set_cons_succ]
            refine wpAnyH_take (i := 15) (oi := ({ dst := some 72, op := Op.binOp BinOp.gtr 3 (Operand.tmp 71) (Operand.const (Value.int IntKind.i64 0)) 3, type := 4, pos := "law.go:185", after := #[{ on := 14, ground := Ground.data }, { on := 13, ground := Ground.guard }], guard := some (13, true) } : Oper)) (v := undef) rfl (by kernel_rfl) (by kernel_rfl) (by kernel_rfl) (fun _ _ _ h => h) (Or.inr ⟨by rfl, rfl⟩) (by assumption) ?_
            try simp only [Act.put, List.setIfInBounds_toArray, List.set_cons_zero, List.set_cons_succ]
            refine wpAnyH_take (i := 16) (oi := ({ dst := some 73, op := Op.pick (Operand.tmp 70) (Operand.tmp 72) (Operand.const (Value.bool false)), type := 4, pos := "law.go:185", after := #[{ on := 13, ground := Ground.data }, { on := 15, ground := Ground.data }, { on := 6, ground := Ground.guard }], guard := some (6, false) } : Oper)) (v := ?vpb16) rfl (by kernel_rfl) (by kernel_rfl) (by kernel_rfl) (fun _ _ _ h => h) (Or.inl ⟨by rfl, ?hypb16⟩) (by assumption) ?restpb16
            case hypb16 => intro w hSw; (try dsimp only at hSw); go_simp; all_goals (with_reducible rfl)
            try simp only [Act.put, List.setIfInBounds_toArray, List.set_cons_zero, List.set_cons_succ]
            refine wpAnyH_take (i := 17) (oi := ({ dst := some 74, op := Op.pick (Operand.tmp 63) (Operand.const (Value.bool true)) (Operand.tmp 73), type := 4, pos := "law.go:185", after := #[{ on := 6, ground := Ground.data }, { on := 16, ground := Ground.data }], guard := none } : Oper)) (v := ?vpb17) rfl (by kernel_rfl) (by kernel_rfl) (by kernel_rfl) (fun _ _ _ h => h) (Or.inl ⟨by rfl, ?hypb17⟩) (by assumption) ?restpb17
            case hypb17 => intro w hSw; (try dsimp only at hSw); go_simp; all_goals (with_reducible rfl)
            try simp only [Act.put, List.setIfInBounds_toArray, List.set_cons_zero, List.set_cons_succ]
            refine wpAnyH_take (i := 18) (oi := ({ dst := some 75, op := Op.move (Operand.tmp 74), type := 4, pos := "law.go:185", after := #[{ on := 17, ground := Ground.data }, { on := 13, ground := Ground.chain }], guard := none } : Oper)) (v := ?vpb18) rfl (by kernel_rfl) (by kernel_rfl) (by kernel_rfl) (fun _ _ _ h => h) (Or.inl ⟨by rfl, ?hypb18⟩) (by assumption) ?restpb18
            case hypb18 => intro w hSw; (try dsimp only at hSw); go_simp; all_goals (with_reducible rfl)
            try simp only [Act.put, List.setIfInBounds_toArray, List.set_cons_zero, List.set_cons_succ]
            refine wpAnyH_take (i := 19) (oi := ({ dst := some 76, op := Op.move (Operand.tmp 10), type := 3, pos := "law.go:185", after := #[{ on := 18, ground := Ground.guard }], guard := some (18, false) } : Oper)) (v := ?vpb19) rfl (by kernel_rfl) (by kernel_rfl) (by kernel_rfl) (fun _ _ _ h => h) (Or.inl ⟨by rfl, ?hypb19⟩) (by assumption) ?restpb19
            case hypb19 => intro w hSw; (try dsimp only at hSw); go_simp; all_goals (with_reducible rfl)
            try simp only [Act.put, List.setIfInBounds_toArray, List.set_cons_zero, List.set_cons_succ]
            refine wpAnyH_take (i := 20) (oi := ({ dst := some 77, op := Op.binOp BinOp.eql 3 (Operand.tmp 76) (Operand.const (Value.int IntKind.i64 0)) 3, type := 4, pos := "law.go:185", after := #[{ on := 19, ground := Ground.data }, { on := 18, ground := Ground.guard }], guard := some (18, false) } : Oper)) (v := ?vpb20) rfl (by kernel_rfl) (by kernel_rfl) (by kernel_rfl) (fun _ _ _ h => h) (Or.inl ⟨by rfl, ?hypb20⟩) (by assumption) ?restpb20
            case hypb20 => intro w hSw; (try dsimp only at hSw); go_simp; all_goals (with_reducible rfl)
            try simp only [Act.put, List.setIfInBounds_toArray, List.set_cons_zero, List.set_cons_succ]
            refine wpAnyH_take (i := 21) (oi := ({ dst := some 78, op := Op.load 29 (Operand.tmp 7), type := 29, pos := "law.go:185", after := #[{ on := 18, ground := Ground.guard }], guard := some (18, false) } : Oper)) (v := ?vpb21) rfl (by kernel_rfl) (by kernel_rfl) (by kernel_rfl) (fun _ _ _ h => h) (Or.inl ⟨by rfl, ?hypb21⟩) (by assumption) ?restpb21
            case hypb21 => intro w hSw; (try dsimp only at hSw); go_simp; all_goals (with_reducible rfl)
            try simp only [Act.put, List.setIfInBounds_toArray, List.set_cons_zero, List.set_cons_succ]
            refine wpAnyH_take (i := 22) (oi := ({ dst := some 79, op := Op.load 25 (Operand.tmp 4), type := 25, pos := "law.go:185", after := #[{ on := 18, ground := Ground.guard }], guard := some (18, false) } : Oper)) (v := ?vpb22) rfl (by kernel_rfl) (by kernel_rfl) (by kernel_rfl) (fun _ _ _ h => h) (Or.inl ⟨by rfl, ?hypb22⟩) (by assumption) ?restpb22
            case hypb22 => intro w hSw; (try dsimp only at hSw); go_simp; all_goals (with_reducible rfl)
            try simp only [Act.put, List.setIfInBounds_toArray, List.set_cons_zero, List.set_cons_succ]
            refine wpAnyH_ready (rs := [23]) (by kernel_rfl) (by simp) ?_
            refine (AllReadyH.cons (o := ({ dst := some 80, op := Op.call { callee := Callee.value (Operand.func 9), args := #[Operand.tmp 78, Operand.tmp 79], argTypes := #[29, 25] }, type := 4, pos := "law.go:185", after := #[{ on := 21, ground := Ground.data }, { on := 22, ground := Ground.data }, { on := 18, ground := Ground.chain }, { on := 18, ground := Ground.guard }], guard := some (18, false) } : Oper)) rfl (fun K hK => ?_) AllReadyH.nil)
            go_simp
            refine (HSA.out _ hb21).mono ?_; rintro e' w22 ⟨rfl, hb22⟩
            refine hK.out _ _ ?_ (fun hHeld => ?_)
            · (try dsimp only); exact KS7.out _ hb22
            clear hK K
            try simp only [Act.put, List.setIfInBounds_toArray, List.set_cons_zero, List.set_cons_succ]
            refine wpAnyH_take (i := 24) (oi := ({ dst := some 81, op := Op.binOp BinOp.neq 4 (Operand.tmp 77) (Operand.tmp 80) 4, type := 4, pos := "law.go:185", after := #[{ on := 20, ground := Ground.data }, { on := 23, ground := Ground.data }, { on := 18, ground := Ground.guard }], guard := some (18, false) } : Oper)) (v := ?vpb23) rfl (by kernel_rfl) (by kernel_rfl) (by kernel_rfl) (fun _ _ _ h => h) (Or.inl ⟨by rfl, ?hypb23⟩) (by assumption) ?restpb23
            case hypb23 => intro w hSw; (try dsimp only at hSw); go_simp; all_goals (with_reducible rfl)
            try simp only [Act.put, List.setIfInBounds_toArray, List.set_cons_zero, List.set_cons_succ]
            refine wpAnyH_take (i := 25) (oi := ({ dst := some 82, op := Op.pick (Operand.tmp 75) (Operand.const (Value.bool true)) (Operand.tmp 81), type := 4, pos := "law.go:185", after := #[{ on := 18, ground := Ground.data }, { on := 24, ground := Ground.data }], guard := none } : Oper)) (v := ?vpb24) rfl (by kernel_rfl) (by kernel_rfl) (by kernel_rfl) (fun _ _ _ h => h) (Or.inl ⟨by rfl, ?hypb24⟩) (by assumption) ?restpb24
            case hypb24 => intro w hSw; (try dsimp only at hSw); go_simp; all_goals (with_reducible rfl)
            try simp only [Act.put, List.setIfInBounds_toArray, List.set_cons_zero, List.set_cons_succ]
            refine wpAnyH_take (i := 26) (oi := ({ dst := some 83, op := Op.move (Operand.tmp 82), type := 4, pos := "law.go:185", after := #[{ on := 25, ground := Ground.data }, { on := 23, ground := Ground.chain }], guard := none } : Oper)) (v := ?vpb25) rfl (by kernel_rfl) (by kernel_rfl) (by kernel_rfl) (fun _ _ _ h => h) (Or.inl ⟨by rfl, ?hypb25⟩) (by assumption) ?restpb25
            case hypb25 => intro w hSw; (try dsimp only at hSw); go_simp; all_goals (with_reducible rfl)
            try simp only [Act.put, List.setIfInBounds_toArray, List.set_cons_zero, List.set_cons_succ]
            refine wpAnyH_take (i := 27) (oi := ({ dst := some 84, op := Op.move (Operand.tmp 10), type := 3, pos := "law.go:185", after := #[{ on := 26, ground := Ground.guard }], guard := some (26, false) } : Oper)) (v := ?vpb26) rfl (by kernel_rfl) (by kernel_rfl) (by kernel_rfl) (fun _ _ _ h => h) (Or.inl ⟨by rfl, ?hypb26⟩) (by assumption) ?restpb26
            case hypb26 => intro w hSw; (try dsimp only at hSw); go_simp; all_goals (with_reducible rfl)
            try simp only [Act.put, List.setIfInBounds_toArray, List.set_cons_zero, List.set_cons_succ]
            refine wpAnyH_take (i := 28) (oi := ({ dst := some 85, op := Op.binOp BinOp.eql 3 (Operand.tmp 84) (Operand.const (Value.int IntKind.i64 0)) 3, type := 4, pos := "law.go:185", after := #[{ on := 27, ground := Ground.data }, { on := 26, ground := Ground.guard }], guard := some (26, false) } : Oper)) (v := ?vpb27) rfl (by kernel_rfl) (by kernel_rfl) (by kernel_rfl) (fun _ _ _ h => h) (Or.inl ⟨by rfl, ?hypb27⟩) (by assumption) ?restpb27
            case hypb27 => intro w hSw; (try dsimp only at hSw); go_simp; all_goals (with_reducible rfl)
            try simp only [Act.put, List.setIfInBounds_toArray, List.set_cons_zero, List.set_cons_succ]
            refine wpAnyH_take (i := 29) (oi := ({ dst := some 86, op := Op.load 29 (Operand.tmp 7), type := 29, pos := "law.go:185", after := #[{ on := 26, ground := Ground.guard }], guard := some (26, false) } : Oper)) (v := ?vpb28) rfl (by kernel_rfl) (by kernel_rfl) (by kernel_rfl) (fun _ _ _ h => h) (Or.inl ⟨by rfl, ?hypb28⟩) (by assumption) ?restpb28
            case hypb28 => intro w hSw; (try dsimp only at hSw); go_simp; all_goals (with_reducible rfl)
            try simp only [Act.put, List.setIfInBounds_toArray, List.set_cons_zero, List.set_cons_succ]
            refine wpAnyH_take (i := 31) (oi := ({ dst := some 88, op := Op.load 29 (Operand.tmp 8), type := 29, pos := "law.go:185", after := #[{ on := 26, ground := Ground.guard }], guard := some (26, false) } : Oper)) (v := ?vpb29) rfl (by kernel_rfl) (by kernel_rfl) (by kernel_rfl) (fun _ _ _ h => h) (Or.inl ⟨by rfl, ?hypb29⟩) (by assumption) ?restpb29
            case hypb29 => intro w hSw; (try dsimp only at hSw); go_simp; all_goals (with_reducible rfl)
            try simp only [Act.put, List.setIfInBounds_toArray, List.set_cons_zero, List.set_cons_succ]
            refine wpAnyH_ready (rs := [30]) (by kernel_rfl) (by simp) ?_
            refine (AllReadyH.cons (o := ({ dst := some 87, op := Op.call { callee := Callee.value (Operand.func 10), args := #[Operand.tmp 86], argTypes := #[29] }, type := 9, pos := "law.go:185", after := #[{ on := 29, ground := Ground.data }, { on := 26, ground := Ground.chain }, { on := 26, ground := Ground.guard }], guard := some (26, false) } : Oper)) rfl (fun K hK => ?_) AllReadyH.nil)
            go_simp
            refine (HTX1.out _ hb22).mono ?_; rintro e' w23 ⟨rfl, hb23⟩
            refine hK.out _ _ ?_ (fun hHeld => ?_)
            · (try dsimp only); exact KS7.out _ hb23
            clear hK K
            try simp only [Act.put, List.setIfInBounds_toArray, List.set_cons_zero, List.set_cons_succ]
            refine wpAnyH_ready (rs := [32]) (by kernel_rfl) (by simp) ?_
            refine (AllReadyH.cons (o := ({ dst := some 89, op := Op.call { callee := Callee.value (Operand.func 10), args := #[Operand.tmp 88], argTypes := #[29] }, type := 9, pos := "law.go:185", after := #[{ on := 31, ground := Ground.data }, { on := 30, ground := Ground.chain }, { on := 26, ground := Ground.guard }], guard := some (26, false) } : Oper)) rfl (fun K hK => ?_) AllReadyH.nil)
            go_simp
            refine (HTX2.out _ hb23).mono ?_; rintro e' w24 ⟨rfl, hb24⟩
            refine hK.out _ _ ?_ (fun hHeld => ?_)
            · (try dsimp only); exact KS7.out _ hb24
            clear hK K
            try simp only [Act.put, List.setIfInBounds_toArray, List.set_cons_zero, List.set_cons_succ]
            refine wpAnyH_take (i := 33) (oi := ({ dst := some 90, op := Op.binOp BinOp.eql 9 (Operand.tmp 87) (Operand.tmp 89) 9, type := 4, pos := "law.go:185", after := #[{ on := 30, ground := Ground.data }, { on := 32, ground := Ground.data }, { on := 26, ground := Ground.guard }], guard := some (26, false) } : Oper)) (v := ?vpb30) rfl (by kernel_rfl) (by kernel_rfl) (by kernel_rfl) (fun _ _ _ h => h) (Or.inl ⟨by rfl, ?hypb30⟩) (by assumption) ?restpb30
            case hypb30 => intro w hSw; (try dsimp only at hSw); go_simp; all_goals (with_reducible rfl)
            try simp only [Act.put, List.setIfInBounds_toArray, List.set_cons_zero, List.set_cons_succ]
            refine wpAnyH_take (i := 34) (oi := ({ dst := some 91, op := Op.binOp BinOp.neq 4 (Operand.tmp 85) (Operand.tmp 90) 4, type := 4, pos := "law.go:185", after := #[{ on := 28, ground := Ground.data }, { on := 33, ground := Ground.data }, { on := 26, ground := Ground.guard }], guard := some (26, false) } : Oper)) (v := ?vpb31) rfl (by kernel_rfl) (by kernel_rfl) (by kernel_rfl) (fun _ _ _ h => h) (Or.inl ⟨by rfl, ?hypb31⟩) (by assumption) ?restpb31
            case hypb31 => intro w hSw; (try dsimp only at hSw); go_simp; all_goals (with_reducible rfl)
            try simp only [Act.put, List.setIfInBounds_toArray, List.set_cons_zero, List.set_cons_succ]
            refine wpAnyH_take (i := 35) (oi := ({ dst := some 92, op := Op.pick (Operand.tmp 83) (Operand.const (Value.bool true)) (Operand.tmp 91), type := 4, pos := "law.go:185", after := #[{ on := 26, ground := Ground.data }, { on := 34, ground := Ground.data }], guard := none } : Oper)) (v := ?vpb32) rfl (by kernel_rfl) (by kernel_rfl) (by kernel_rfl) (fun _ _ _ h => h) (Or.inl ⟨by rfl, ?hypb32⟩) (by assumption) ?restpb32
            case hypb32 => intro w hSw; (try dsimp only at hSw); go_simp; all_goals (with_reducible rfl)
            try simp only [Act.put, List.setIfInBounds_toArray, List.set_cons_zero, List.set_cons_succ]
            refine wpAnyH_done (by kernel_rfl) ?_ _
            have HST7 := Lib.hid (HST6.out.below hb24)
            have q0 : w24.cell? ⟨xb, 0, none⟩ = some (.slice Al1 n1 cl1) := HST7.out.p1.cell 0
            clear hb21 hb22 hb23 hb24 KS7 HC21 HSA HTX1 HTX2 y2 y3 y4 y5 s1
            go_wp2_with fail
            go_loopg [13, 14] n1 (fun g sv vv wr => ∃ k, k ≤ n1 ∧ g = n1 - k ∧ vv = .int .i64 (k : Nat) ∧ sv = .int .i64 (degSum E1 k : Nat) ∧ St w xb Al1 Ae1 A1 n1 cl1 m1 ce1 d1 g1 L1 E1 Al2 Ae2 A2 n2 cl2 m2 ce2 d2 g2 L2 E2 Al3 Ae3 A3 n3 cl3 m3 ce3 d3 g3 L3 E3 wr)
            case atStart => exact ⟨0, Nat.zero_le _, rfl, rfl, rfl, HST7.out⟩
            case round =>
              obtain ⟨k, hk, rfl, rfl, rfl, hS⟩ := hrel
              have hf1 := HF1.out
              have hD := degSum_two (n := n1) (E := E1) (fun e he => by have := HR1.out.ends e he; rw [HN1.out] at this; exact this)
              rw [HM1.out] at hD
              have x0 : wr.cell? ⟨xb, 0, none⟩ = some (.slice Al1 n1 cl1) := hS.p1.cell 0
              have p0 : wr.cell? ⟨g1, 0, none⟩ = some (.slice Al1 n1 cl1) := hS.w1.cell 0
              have p1 : wr.cell? ⟨g1, 1, none⟩ = some (.slice A1 m1 d1) := hS.w1.cell 1
              by_cases hlt : k < n1
              · have hmono := degSum_mono E1 (k + 1) (n1 - (k + 1))
                rw [show k + 1 + (n1 - (k + 1)) = n1 by omega] at hmono
                have hnx : degSum E1 (k + 1) = degSum E1 k + E1.countP (atEnd (k : Int)) := rfl
                have DG := degree_any (AL := Al1) (nL := n1) (cL := cl1) hS.e1 HM1.out (by omega) (k : Int)
                obtain ⟨c, hc⟩ : ∃ c, E1.countP (atEnd (k : Int)) = c := ⟨_, rfl⟩
                obtain ⟨D, hDk⟩ : ∃ D, degSum E1 k = D := ⟨_, rfl⟩
                rw [hc] at DG hnx
                rw [hDk] at hnx ⊢
                have hbd : D + c ≤ 120 := by omega
                have t3 : decide (k < n1) = true := decide_eq_true hlt
                have hkb : k ≤ 20 := by omega
                have j1 : (D : Int) + c ≤ 120 := by omega
                have j2 : (0 : Int) ≤ D := by omega
                have j3 : (0 : Int) ≤ c := by omega
                have HDG := Lib.hid DG; have HNX := Lib.hid hnx; have HLT := Lib.hid hlt; have HS := Lib.hid hS
                clear hmono hnx DG hc hDk hD hlt hS hf1
                go_wp2_with fail
                refine HDG.out.mono ?_; rintro e wq ⟨rfl, hb⟩
                have HSq := Lib.hid (HS.out.below hb)
                clear hb
                go_wp2_with fail
                go_roundg (n1 - (k + 1))
                case rel => exact ⟨k + 1, HLT.out, rfl, by go_num, by rw [HNX.out]; go_num, HSq.out⟩
                case measure => have := HLT.out; omega
              · obtain rfl : k = n1 := by omega
                have t3 : decide (k < k) = false := by simp
                rw [hD]
                have hlen := HLEN.out
                have CM := compare_any hS.l1 hS.e1 hS.l1 hS.e1 hlen.1.1 hlen.1.2 hlen.1.1 hlen.1.2
                rw [cmpPat_self] at CM
                have x1 : wr.cell? ⟨xb, 1, none⟩ = some (.slice Ae1 m1 ce1) := hS.p1.cell 1
                have x2 : wr.cell? ⟨xb + 1, 0, none⟩ = some (.slice Al2 n2 cl2) := hS.p2.cell 0
                have j1 : (m1 : Int) ≤ 60 := by omega
                have j2 : (0 : Int) ≤ m1 := by omega
                have HCM := Lib.hid CM; have HS := Lib.hid hS
                have hshort : k < n2 → r1 < 0 := fun h => by
                  rw [← HDr1.out]
                  exact cmpPat_short (by rw [HN1.out, HN2.out]; exact h)
                have HSH := Lib.hid hshort
                clear hD hlen CM hlt hS hf1 hshort
                by_cases hn : n2 ≤ k
                · have t4 : decide (n2 ≤ k) = true := decide_eq_true hn
                  clear hn
                  go_wp2_with fail
                  refine HCM.out.mono ?_; rintro e wq ⟨rfl, hb⟩
                  have HSq := Lib.hid (HS.out.below hb)
                  clear hb
                  go_wp2_with fail
                  go_ret
                  exact ⟨rfl, HSq.out.bel⟩
                · have t4 : decide (n2 ≤ k) = false := decide_eq_false hn
                  have t5 : decide (r1 < 0) = true := decide_eq_true (HSH.out (by omega))
                  clear hn
                  go_wp2_with fail
                  refine HCM.out.mono ?_; rintro e wq ⟨rfl, hb⟩
                  have HSq := Lib.hid (HS.out.below hb)
                  clear hb
                  go_wp2_with fail
                  go_ret
                  exact ⟨rfl, HSq.out.bel⟩
          | true =>
            have k3 : decide (0 < r3) = false := decide_eq_false (by have := HTR.out (of_decide_eq_true hk1') (of_decide_eq_true hk2'); omega)
            go_region_held3 (fun W => W.cell? ⟨g1, 0, none⟩ = some (.slice Al1 n1 cl1) ∧ W.cell? ⟨g1, 1, none⟩ = some (.slice A1 m1 d1) ∧ W.cell? ⟨g2, 0, none⟩ = some (.slice Al2 n2 cl2) ∧ W.cell? ⟨g2, 1, none⟩ = some (.slice A2 m2 d2) ∧ W.cell? ⟨xb + 1, 0, none⟩ = some (.slice Al2 n2 cl2) ∧ W.cell? ⟨xb + 1, 1, none⟩ = some (.slice Ae2 m2 ce2))
              (refine KS7.out _ (by first | assumption | exact below_drewN' (Below.refl _ _) _))
              (first
                | (go_at_call 8; refine (HC21.out _ (by first | assumption | exact below_drewN' (Below.refl _ _) _)).mono ?_; rintro e' w21 ⟨rfl, hb21⟩)
                | (go_at_call 9; refine (HSA.out _ (by first | assumption | exact below_drewN' (Below.refl _ _) _)).mono ?_; rintro e' w22 ⟨rfl, hb22⟩)
                | (go_at_call 10; refine (HTX2.out _ hb23).mono ?_; rintro e' w24 ⟨rfl, hb24⟩)
                | (go_at_call 10; refine (HTX1.out _ (by first | assumption | exact below_drewN' (Below.refl _ _) _)).mono ?_; rintro e' w23 ⟨rfl, hb23⟩))
            have HST7 := Lib.hid (HST6.out.below hb24)
            have q0 : w24.cell? ⟨xb, 0, none⟩ = some (.slice Al1 n1 cl1) := HST7.out.p1.cell 0
            clear hb21 hb22 hb23 hb24 KS7 HC21 HSA HTX1 HTX2 y2 y3 y4 y5 s1
            go_wp2_with fail
            go_loopg [13, 14] n1 (fun g sv vv wr => ∃ k, k ≤ n1 ∧ g = n1 - k ∧ vv = .int .i64 (k : Nat) ∧ sv = .int .i64 (degSum E1 k : Nat) ∧ St w xb Al1 Ae1 A1 n1 cl1 m1 ce1 d1 g1 L1 E1 Al2 Ae2 A2 n2 cl2 m2 ce2 d2 g2 L2 E2 Al3 Ae3 A3 n3 cl3 m3 ce3 d3 g3 L3 E3 wr)
            case atStart => exact ⟨0, Nat.zero_le _, rfl, rfl, rfl, HST7.out⟩
            case round =>
              obtain ⟨k, hk, rfl, rfl, rfl, hS⟩ := hrel
              have hf1 := HF1.out
              have hD := degSum_two (n := n1) (E := E1) (fun e he => by have := HR1.out.ends e he; rw [HN1.out] at this; exact this)
              rw [HM1.out] at hD
              have x0 : wr.cell? ⟨xb, 0, none⟩ = some (.slice Al1 n1 cl1) := hS.p1.cell 0
              have p0 : wr.cell? ⟨g1, 0, none⟩ = some (.slice Al1 n1 cl1) := hS.w1.cell 0
              have p1 : wr.cell? ⟨g1, 1, none⟩ = some (.slice A1 m1 d1) := hS.w1.cell 1
              by_cases hlt : k < n1
              · have hmono := degSum_mono E1 (k + 1) (n1 - (k + 1))
                rw [show k + 1 + (n1 - (k + 1)) = n1 by omega] at hmono
                have hnx : degSum E1 (k + 1) = degSum E1 k + E1.countP (atEnd (k : Int)) := rfl
                have DG := degree_any (AL := Al1) (nL := n1) (cL := cl1) hS.e1 HM1.out (by omega) (k : Int)
                obtain ⟨c, hc⟩ : ∃ c, E1.countP (atEnd (k : Int)) = c := ⟨_, rfl⟩
                obtain ⟨D, hDk⟩ : ∃ D, degSum E1 k = D := ⟨_, rfl⟩
                rw [hc] at DG hnx
                rw [hDk] at hnx ⊢
                have hbd : D + c ≤ 120 := by omega
                have t3 : decide (k < n1) = true := decide_eq_true hlt
                have hkb : k ≤ 20 := by omega
                have j1 : (D : Int) + c ≤ 120 := by omega
                have j2 : (0 : Int) ≤ D := by omega
                have j3 : (0 : Int) ≤ c := by omega
                have HDG := Lib.hid DG; have HNX := Lib.hid hnx; have HLT := Lib.hid hlt; have HS := Lib.hid hS
                clear hmono hnx DG hc hDk hD hlt hS hf1
                go_wp2_with fail
                refine HDG.out.mono ?_; rintro e wq ⟨rfl, hb⟩
                have HSq := Lib.hid (HS.out.below hb)
                clear hb
                go_wp2_with fail
                go_roundg (n1 - (k + 1))
                case rel => exact ⟨k + 1, HLT.out, rfl, by go_num, by rw [HNX.out]; go_num, HSq.out⟩
                case measure => have := HLT.out; omega
              · obtain rfl : k = n1 := by omega
                have t3 : decide (k < k) = false := by simp
                rw [hD]
                have hlen := HLEN.out
                have CM := compare_any hS.l1 hS.e1 hS.l1 hS.e1 hlen.1.1 hlen.1.2 hlen.1.1 hlen.1.2
                rw [cmpPat_self] at CM
                have x1 : wr.cell? ⟨xb, 1, none⟩ = some (.slice Ae1 m1 ce1) := hS.p1.cell 1
                have x2 : wr.cell? ⟨xb + 1, 0, none⟩ = some (.slice Al2 n2 cl2) := hS.p2.cell 0
                have j1 : (m1 : Int) ≤ 60 := by omega
                have j2 : (0 : Int) ≤ m1 := by omega
                have HCM := Lib.hid CM; have HS := Lib.hid hS
                have hshort : k < n2 → r1 < 0 := fun h => by
                  rw [← HDr1.out]
                  exact cmpPat_short (by rw [HN1.out, HN2.out]; exact h)
                have HSH := Lib.hid hshort
                clear hD hlen CM hlt hS hf1 hshort
                by_cases hn : n2 ≤ k
                · have t4 : decide (n2 ≤ k) = true := decide_eq_true hn
                  clear hn
                  go_wp2_with fail
                  refine HCM.out.mono ?_; rintro e wq ⟨rfl, hb⟩
                  have HSq := Lib.hid (HS.out.below hb)
                  clear hb
                  go_wp2_with fail
                  go_ret
                  exact ⟨rfl, HSq.out.bel⟩
                · have t4 : decide (n2 ≤ k) = false := decide_eq_false hn
                  have t5 : decide (r1 < 0) = true := decide_eq_true (HSH.out (by omega))
                  clear hn
                  go_wp2_with fail
                  refine HCM.out.mono ?_; rintro e wq ⟨rfl, hb⟩
                  have HSq := Lib.hid (HS.out.below hb)
                  clear hb
                  go_wp2_with fail
                  go_ret
                  exact ⟨rfl, HSq.out.bel⟩
end Go.Proofs.YtgolcogigpnbeaaDoor
