/- pat: Right. -/
import Derived.Test.YtgolcogigpnbeaaGreatDoorPat4
import Derived.Deep.RegionHeld3
import Derived.Deep.DrawnRows
namespace Go.Proofs.YtgolcogigpnbeaaGreatDoor
open Go.RowKit

theorem ErrTo.err {c p : Int} {o : Option (Int × Int)} {w w' : World} {e : Ending} (h : ErrTo o w e w') (ho : o = some (c, p)) : ∃ b, e = .returned (.iface 95 (.pointer (some ⟨b, 0, none⟩))) ∧ FaultAt c p w' (.iface 95 (.pointer (some ⟨b, 0, none⟩))) ∧ Below w.heap.size w w' := by
  obtain ⟨hb, ⟨h1, _⟩ | ⟨c', p', u, h1, rfl, hf⟩⟩ := h
  · rw [h1] at ho; cases ho
  · rw [h1] at ho
    injection ho with ho
    injection ho with e1 e2
    subst e1 e2
    obtain ⟨b, s, rfl, hw⟩ := hf
    exact ⟨b, rfl, ⟨b, s, rfl, hw⟩, hb⟩
theorem ErrTo.nil {o : Option (Int × Int)} {w w' : World} {e : Ending} (h : ErrTo o w e w') (ho : o = none) : e = .returned .nilIface ∧ Below w.heap.size w w' := by
  obtain ⟨hb, ⟨_, h1⟩ | ⟨c', p', u, h1, _⟩⟩ := h
  · exact ⟨h1, hb⟩
  · rw [h1] at ho; cases ho

set_option maxRecDepth 100000 in
set_option maxHeartbeats 4000000 in
theorem right_any {w : World} {vl ve : Value} {L : List Int} {E : List (Int × Int)} (hl : SeqV w vl L) (he : EdgesV w ve E) (h1 : L.length ≤ 1000000) (h2 : E.length ≤ 1000000) :
    Calls Tryz.prog 21 #[.agg #[vl, ve]] w (ErrTo (rightF L E) w) := by
  have HE := Lib.hid he
  obtain ⟨Al, cl, rfl⟩ := IntsV.form hl
  obtain ⟨Ae, ce, rfl⟩ := he.form
  obtain ⟨n, hn⟩ : ∃ n, L.length = n := ⟨_, rfl⟩
  obtain ⟨m, hm⟩ : ∃ m, E.length = m := ⟨_, rfl⟩
  have hb1 : Below w.heap.size w (w.alloc (.cells #[.slice Al n cl, .slice Ae m ce] 31)) := (Below.refl _ _).alloc (Nat.le_refl _) _
  obtain ⟨w1, hw1⟩ : ∃ W, w.alloc (.cells #[.slice Al n cl, .slice Ae m ce] 31) = W := ⟨_, rfl⟩
  obtain ⟨xb, hxb⟩ : ∃ g, w.heap.size = g := ⟨_, rfl⟩
  have hx := Whole.new w 31 #[.slice Al n cl, .slice Ae m ce]
  rw [hw1] at hx hb1
  have CL := checkLabels_any (hl.below hb1 (Nat.le_refl _)) hn (by omega)
  rw [hn] at h1 CL ⊢
  rw [hm] at HE h2 ⊢
  have HN := Lib.hid hn; have HM := Lib.hid hm; have HB1 := Lib.hid hb1; have HW1 := Lib.hid hw1; have HX := Lib.hid hx; have HCL := Lib.hid CL
  rw [hxb] at HX
  have HXB := Lib.hid hxb
  have c0 : w1.cell? ⟨xb, 0, none⟩ = some (.slice Al n cl) := HX.out.cell 0
  have c1 : w1.cell? ⟨xb, 1, none⟩ = some (.slice Ae m ce) := HX.out.cell 1
  clear hl he hn hm hb1 hw1 hxb hx CL
  go_enter Tryz.func21, Tryz.ntmps21
  go_upto_region 1 with fail
  rw [HW1.out, HXB.out]
  go_wp2_with fail
  refine HCL.out.mono ?_; rintro e w2 hto
  obtain ⟨o, ho⟩ : ∃ o, labF L = o := ⟨_, rfl⟩
  rw [ho] at hto
  clear c0 c1
  rcases o with _ | ⟨c, p⟩
  · obtain ⟨rfl, hb2⟩ := hto.nil rfl
    have hx2 := HX.out.below hb2 HX.out.lt
    have c0 : w2.cell? ⟨xb, 0, none⟩ = some (.slice Al n cl) := hx2.cell 0
    have c1 : w2.cell? ⟨xb, 1, none⟩ = some (.slice Ae m ce) := hx2.cell 1
    have HX2 := Lib.hid hx2; have HB2 := Lib.hid (HB1.out.trans (hb2.mono HB1.out.size)); have HO := Lib.hid ho
    clear hto hb2 hx2 ho
    go_wp2_with fail
    go_loopg [17] m (fun g y wr => ∃ k, k ≤ m ∧ g = m - k ∧ y = .int .i64 (k : Nat) ∧ (∀ i, i < k → edgeAtF n E i = none) ∧ Below w.heap.size w wr ∧ Whole wr xb 31 #[.slice Al n cl, .slice Ae m ce])
    case atStart => exact ⟨0, Nat.zero_le _, rfl, rfl, fun i hi => absurd hi (Nat.not_lt_zero i), HB2.out, HX2.out⟩
    case round =>
      obtain ⟨k, hk, rfl, rfl, hall, hB, hX⟩ := hrel
      have HALL := Lib.hid hall
      clear hall
      by_cases hlt : k < m
      · have hkE : k < E.length := by rw [HM.out]; exact hlt
        obtain ⟨b, off, rfl, d0, d1⟩ := (HE.out.below hB (Nat.le_refl _)).pos (i := k) hkE
        obtain ⟨x, hxx⟩ : ∃ x, E.getD k (0, 0) = x := ⟨_, rfl⟩
        rw [hxx] at d0 d1
        obtain ⟨a, q⟩ := x
        simp only at d0 d1
        have t3 : decide (k < m) = true := decide_eq_true hlt
        have i1 : (k : Int) < m := by omega
        have i2 : (0 : Int) ≤ k := by omega
        have hb3 : Below w.heap.size w (wr.alloc (.cells #[.int .i64 a, .int .i64 q] 62)) := hB.alloc hB.size _
        have hX3 := hX.alloc (.cells #[.int .i64 a, .int .i64 q] 62)
        have hG3 := Whole.new wr 62 #[.int .i64 a, .int .i64 q]
        have hE3 := HE.out.below hb3 (Nat.le_refl _)
        obtain ⟨w3, hw3⟩ : ∃ W, wr.alloc (.cells #[.int .i64 a, .int .i64 q] 62) = W := ⟨_, rfl⟩
        obtain ⟨gb, hgb⟩ : ∃ g, wr.heap.size = g := ⟨_, rfl⟩
        rw [hw3] at hb3 hX3 hG3 hE3
        rw [hgb] at hG3
        have HW3 := Lib.hid hw3; have HGB := Lib.hid hgb; have HB3 := Lib.hid hb3; have HX3 := Lib.hid hX3; have HG3 := Lib.hid hG3; have HE3 := Lib.hid hE3; have HLT := Lib.hid hlt; have HXX := Lib.hid hxx; have HKE := Lib.hid hkE
        clear hB hX hlt hxx hw3 hgb hb3 hX3 hG3 hE3 hkE
        have HFIN : Hid (∀ wrong, wrongB E k = wrong → edgeF n k a q wrong = edgeAtF n E k) := Lib.hid (fun wrong h => by
          unfold edgeAtF
          rw [HXX.out, h])
        have HCE := Lib.hid (fun (wr : Bool) (W : World) => checkEdge_any (n : Int) (k : Int) a q wr W)
        have e0 : w3.cell? ⟨gb, 0, none⟩ = some (.int .i64 a) := HG3.out.cell 0
        have e1 : w3.cell? ⟨gb, 1, none⟩ = some (.int .i64 q) := HG3.out.cell 1
        have x0 : w3.cell? ⟨xb, 0, none⟩ = some (.slice Al n cl) := HX3.out.cell 0
        have x1 : w3.cell? ⟨xb, 1, none⟩ = some (.slice (some ⟨b, off, none⟩) m ce) := HX3.out.cell 1
        go_upto_region 7 with fail
        rw [HW3.out, HGB.out]
        by_cases haq : q ≤ a
        · have HWR : Hid (wrongB E k = true) := Lib.hid (by
            unfold wrongB
            rw [HXX.out, decide_eq_true haq]; rfl)
          have t5 : decide (q ≤ a) = true := decide_eq_true haq
          clear haq
          go_quiet (fail)
          go_wp2_with fail
          refine (HCE.out true (w3.drewN _)).mono ?_; rintro e w5 hto
          obtain ⟨o, ho⟩ : ∃ o, edgeAtF n E k = o := ⟨_, rfl⟩
          rw [HFIN.out _ HWR.out, ho] at hto
          have HO5 := Lib.hid ho
          clear ho
          rcases o with _ | ⟨c, p⟩
          · obtain ⟨rfl, hb5⟩ := hto.nil rfl
            have HB5 := Lib.hid ((below_drewN' HB3.out _).trans (hb5.mono (below_drewN' HB3.out _).size))
            have HX5 := Lib.hid ((HX3.out.drewN _).below hb5 (HX3.out.drewN _).lt)
            clear hto hb5
            go_wp2_with fail
            go_roundg (m - (k + 1))
            case rel =>
              refine ⟨k + 1, HLT.out, rfl, by go_num, fun i hi => ?_, HB5.out, HX5.out⟩
              rcases Nat.lt_or_ge i k with h | h
              · exact HALL.out i h
              · obtain rfl : i = k := by omega
                exact HO5.out
            case measure => have := HLT.out; omega
          · obtain ⟨fb, rfl, hf, hb5⟩ := hto.err rfl
            have HF : Hid (rightF L E = some (c, p)) := Lib.hid (by
              unfold rightF
              rw [HO.out]
              simp only
              exact some_at HKE.out (fun i hi => by rw [HN.out]; exact HALL.out i hi) (by rw [HN.out]; exact HO5.out))
            have HFA := Lib.hid hf
            have HB5 := Lib.hid ((below_drewN' HB3.out _).trans (hb5.mono (below_drewN' HB3.out _).size))
            clear hto hf hb5
            go_wp2_with fail
            go_ret
            exact ⟨HB5.out, Or.inr ⟨c, p, _, HF.out, rfl, HFA.out⟩⟩
        · have t5 : decide (q ≤ a) = false := decide_eq_false haq
          have HAQ := Lib.hid haq
          clear haq
          rcases Nat.eq_zero_or_pos k with hk0 | hk0
          · have HWR : Hid (wrongB E k = false) := Lib.hid (by
              unfold wrongB
              rw [HXX.out, decide_eq_false HAQ.out, decide_eq_false (by omega)]; rfl)
            have t6 : decide (0 < k) = false := decide_eq_false (by omega)
            have t6' : decide ((0 : Int) < (k : Int)) = false := decide_eq_false (by omega)
            clear hk0
            go_quiet (fail)
            go_wp2_with fail
            refine (HCE.out false (w3.drewN _)).mono ?_; rintro e w5 hto
            obtain ⟨o, ho⟩ : ∃ o, edgeAtF n E k = o := ⟨_, rfl⟩
            rw [HFIN.out _ HWR.out, ho] at hto
            have HO5 := Lib.hid ho
            clear ho
            rcases o with _ | ⟨c, p⟩
            · obtain ⟨rfl, hb5⟩ := hto.nil rfl
              have HB5 := Lib.hid ((below_drewN' HB3.out _).trans (hb5.mono (below_drewN' HB3.out _).size))
              have HX5 := Lib.hid ((HX3.out.drewN _).below hb5 (HX3.out.drewN _).lt)
              clear hto hb5
              go_wp2_with fail
              go_roundg (m - (k + 1))
              case rel =>
                refine ⟨k + 1, HLT.out, rfl, by go_num, fun i hi => ?_, HB5.out, HX5.out⟩
                rcases Nat.lt_or_ge i k with h | h
                · exact HALL.out i h
                · obtain rfl : i = k := by omega
                  exact HO5.out
              case measure => have := HLT.out; omega
            · obtain ⟨fb, rfl, hf, hb5⟩ := hto.err rfl
              have HF : Hid (rightF L E = some (c, p)) := Lib.hid (by
                unfold rightF
                rw [HO.out]
                simp only
                exact some_at HKE.out (fun i hi => by rw [HN.out]; exact HALL.out i hi) (by rw [HN.out]; exact HO5.out))
              have HFA := Lib.hid hf
              have HB5 := Lib.hid ((below_drewN' HB3.out _).trans (hb5.mono (below_drewN' HB3.out _).size))
              clear hto hf hb5
              go_wp2_with fail
              go_ret
              exact ⟨HB5.out, Or.inr ⟨c, p, _, HF.out, rfl, HFA.out⟩⟩
          · obtain ⟨j, hj⟩ : ∃ j, k = j + 1 := ⟨k - 1, by omega⟩
            obtain ⟨b', off', hA, f0, f1⟩ := HE3.out.pos (i := j) (by have := HKE.out; omega)
            injection hA with hA
            injection hA with z1 z2
            subst z1 z2
            obtain ⟨z, hz⟩ : ∃ z, E.getD j (0, 0) = z := ⟨_, rfl⟩
            rw [hz] at f0 f1
            obtain ⟨a', q'⟩ := z
            simp only at f0 f1
            have s1 : IntKind.i64.wrap ((k : Int) - 1) = (j : Int) := by rw [IntKind.wrap_i64] <;> omega
            have t6 : decide (0 < k) = true := decide_eq_true (by omega)
            have t6' : decide ((0 : Int) < (k : Int)) = true := decide_eq_true (by omega)
            have j1 : (j : Int) < m := by omega
            have j2 : (0 : Int) ≤ j := by omega
            have hbl := World.block_lt_of_cell? _ _ f0
            have KS := Lib.hid (fun (W : World) (hb : Below w3.heap.size w3 W) => (show Below w3.heap.size w3 W ∧ W.cell? ⟨gb, 0, none⟩ = some (.int .i64 a) ∧ W.cell? ⟨gb, 1, none⟩ = some (.int .i64 q) ∧ W.cell? ⟨xb, 1, none⟩ = some (.slice (some ⟨b, off, none⟩) m ce) ∧ W.cell? ⟨b, off + j * 2, none⟩ = some (.int .i64 a') ∧ W.cell? ⟨b, off + j * 2 + 1, none⟩ = some (.int .i64 q') from
              ⟨hb, (hb.cell (p := ⟨gb, 0, none⟩) HG3.out.lt).trans e0, (hb.cell (p := ⟨gb, 1, none⟩) HG3.out.lt).trans e1, (hb.cell (p := ⟨xb, 1, none⟩) HX3.out.lt).trans x1, (hb.cell (p := ⟨b, off + j * 2, none⟩) hbl).trans f0, (hb.cell (p := ⟨b, off + j * 2 + 1, none⟩) hbl).trans f1⟩))
            obtain ⟨r, hr⟩ : ∃ r, cmpE (a', q') (a, q) = r := ⟨_, rfl⟩
            have HCMP : Hid (∀ W, Below w3.heap.size w3 W → Calls Tryz.prog 44 #[.agg #[.int .i64 a', .int .i64 q'], .agg #[.int .i64 a, .int .i64 q]] W fun e w' => e = .returned (.int .i64 r) ∧ Below w3.heap.size w3 w') := Lib.hid (fun W hb => by
              have h := cmpEdges_below (a', q') (a, q) W
              rw [hr] at h
              exact h.mono fun e w' ⟨h1, h2⟩ => ⟨h1, hb.trans (h2.mono hb.size)⟩)
            have HWR : Hid (wrongB E k = decide (0 ≤ r)) := Lib.hid (by
              unfold wrongB
              rw [HXX.out, decide_eq_false HAQ.out, show k - 1 = j by omega, hz, hr, decide_eq_true (by omega : 0 < k)]; simp)
            have HBL := Lib.hid hbl
            clear hz hr hk0 hbl hj
            go_region_held3 (fun W => Below w3.heap.size w3 W ∧ W.cell? ⟨gb, 0, none⟩ = some (.int .i64 a) ∧ W.cell? ⟨gb, 1, none⟩ = some (.int .i64 q) ∧ W.cell? ⟨xb, 1, none⟩ = some (.slice (some ⟨b, off, none⟩) m ce) ∧ W.cell? ⟨b, off + j * 2, none⟩ = some (.int .i64 a') ∧ W.cell? ⟨b, off + j * 2 + 1, none⟩ = some (.int .i64 q'))
              (exact KS.out _ (by first | assumption | exact below_drewN' (Below.refl _ _) _))
              (first
                | (go_at_call 44; refine (HCMP.out _ (by first | assumption | exact below_drewN' (Below.refl _ _) _)).mono ?_; rintro e' w4 ⟨rfl, hb4⟩))
            have hX4 := HX3.out.below hb4 HX3.out.lt
            have hG4 := HG3.out.below hb4 HG3.out.lt
            have g0 : w4.cell? ⟨gb, 0, none⟩ = some (.int .i64 a) := hG4.cell 0
            have g1 : w4.cell? ⟨gb, 1, none⟩ = some (.int .i64 q) := hG4.cell 1
            have y0 : w4.cell? ⟨xb, 0, none⟩ = some (.slice Al n cl) := hX4.cell 0
            have HX4 := Lib.hid hX4; have HB4 := Lib.hid (HB3.out.trans (hb4.mono HB3.out.size))
            obtain ⟨zw, hzw⟩ : ∃ z, decide (0 ≤ r) = z := ⟨_, rfl⟩
            rw [hzw] at HWR ⊢
            clear hX4 hG4 hb4 hzw
            go_wp2_with fail
            refine (HCE.out zw w4).mono ?_; rintro e w5 hto
            obtain ⟨o, ho⟩ : ∃ o, edgeAtF n E k = o := ⟨_, rfl⟩
            rw [HFIN.out _ HWR.out, ho] at hto
            have HO5 := Lib.hid ho
            clear ho
            rcases o with _ | ⟨c, p⟩
            · obtain ⟨rfl, hb5⟩ := hto.nil rfl
              have HB5 := Lib.hid (HB4.out.trans (hb5.mono HB4.out.size))
              have HX5 := Lib.hid (HX4.out.below hb5 HX4.out.lt)
              clear hto hb5
              go_wp2_with fail
              go_roundg (m - (k + 1))
              case rel =>
                refine ⟨k + 1, HLT.out, rfl, by go_num, fun i hi => ?_, HB5.out, HX5.out⟩
                rcases Nat.lt_or_ge i k with h | h
                · exact HALL.out i h
                · obtain rfl : i = k := by omega
                  exact HO5.out
              case measure => have := HLT.out; omega
            · obtain ⟨fb, rfl, hf, hb5⟩ := hto.err rfl
              have HF : Hid (rightF L E = some (c, p)) := Lib.hid (by
                unfold rightF
                rw [HO.out]
                simp only
                exact some_at HKE.out (fun i hi => by rw [HN.out]; exact HALL.out i hi) (by rw [HN.out]; exact HO5.out))
              have HFA := Lib.hid hf
              have HB5 := Lib.hid (HB4.out.trans (hb5.mono HB4.out.size))
              clear hto hf hb5
              go_wp2_with fail
              go_ret
              exact ⟨HB5.out, Or.inr ⟨c, p, _, HF.out, rfl, HFA.out⟩⟩
      · obtain rfl : k = m := by omega
        have t1 : decide (k < k) = false := by simp
        have HF : Hid (rightF L E = none) := Lib.hid (by
          unfold rightF
          rw [HO.out]
          simp only
          rw [HM.out]
          exact some_none (fun i hi => by rw [HN.out]; exact HALL.out i hi))
        have HBB := Lib.hid hB
        clear hlt hB hX
        go_wp2_with fail
        go_ret
        exact ⟨HBB.out, Or.inl ⟨HF.out, rfl⟩⟩
  · obtain ⟨b, rfl, hf, hb2⟩ := hto.err rfl
    have HF : Hid (rightF L E = some (c, p)) := Lib.hid (by unfold rightF; rw [ho])
    have HFA := Lib.hid hf
    have HB2 := Lib.hid (HB1.out.trans (hb2.mono HB1.out.size))
    clear hto hf hb2 ho
    go_wp2_with fail
    go_ret
    exact ⟨HB2.out, Or.inr ⟨c, p, _, HF.out, rfl, HFA.out⟩⟩
end Go.Proofs.YtgolcogigpnbeaaGreatDoor
