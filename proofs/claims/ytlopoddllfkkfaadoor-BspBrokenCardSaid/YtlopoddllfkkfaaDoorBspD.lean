/- Finish. -/
import Derived.Test.YtlopoddllfkkfaaDoorJD
namespace Go.Proofs.YtlopoddllfkkfaaDoor
open Go.RowKit

/-- In a round. -/
structure Same (p p' : MP) : Prop where
  k : p'.k = p.k
  rd : p'.rd = p.rd
  st : p'.st = p.st
  bx : p'.bx = p.bx
theorem Same.refl (p : MP) : Same p p := ⟨rfl, rfl, rfl, rfl⟩
theorem Same.trans {p q r : MP} (h : Same p q) (k : Same q r) : Same p r := ⟨k.k.trans h.k, k.rd.trans h.rd, k.st.trans h.st, k.bx.trans h.bx⟩
theorem Same.round {TL : List (List Int)} {p p' : MP} (h : Same p p') : roundP TL p' = roundP TL p := by
  have e1 : stOf p' = stOf p := by funext a; unfold stOf; rw [h.st]
  have e2 : bxOf p' = bxOf p := by funext a; unfold bxOf; rw [h.bx]
  unfold roundP nextSt
  rw [h.k, h.rd, e1, e2]
theorem cnt_le (p : MP) : cntW p ≤ p.wk.length := List.count_le_length
theorem OpTo.before {w w1 w2 : World} {base M : Nat} {q : MP} {job : Value} {m : Nat} {R R' : Nat → Prop} (h : OpTo base M q job m R' w1 w2) (hfr : Fr w.heap.size R w w1) (hsub : ∀ g, R' g → R g ∨ w.heap.size ≤ g) (hbel : Below base w w1) : OpTo base M q job m R w w2 := by
  obtain ⟨R2, k1, k2, k3, k4⟩ := h
  refine ⟨R2, k1, hfr.more k2 hfr.size hsub, fun g hg => ?_, hbel.trans k4⟩
  rcases k3 g hg with e | e
  · exact hsub g e
  · exact Or.inr (Nat.le_trans hfr.size e)
def MidTo (TL : List (List Int)) (q : Nat) (p : MP) (P : MP → Prop) (base : Nat) (vt : Value) (m : Nat) (R : Nat → Prop) (w wr : World) : Prop :=
  ∃ p', Same p p' ∧ MInv TL q p' ∧ P p' ∧ OpTo base (q + 8 * cntW p') p' (wordJob vt) m R w wr
theorem stepP_zero {n : NetP} (h : 0 < n.fly.length) : (stepP n 2 0 0 ⟨#[]⟩).2 = 0 ∧ (stepP n 2 0 0 ⟨#[]⟩).1.fly.length = n.fly.length - 1 := by
  unfold stepP
  rw [if_neg (by decide), dif_pos ⟨by decide, by omega⟩, if_neg (by decide)]
  refine ⟨rfl, ?_⟩
  show (cameP (dropP n 0) _).fly.length = _
  unfold cameP
  split <;> simp [dropP]
set_option maxRecDepth 100000 in
set_option maxHeartbeats 4000000 in
theorem mfinish_any {w : World} {base q : Nat} {p : MP} {vt : Value} {m : Nat} {R : Nat → Prop} {TL : List (List Int)} (h : MachB w base (q + 8 * cntW p) p (wordJob vt) m R) (hi : MInv TL q p) (hq : q ≤ 300) (hbase : base ≤ w.heap.size) (hrd : p.rd ≤ 1000000) (hT : ∀ W, Below base w W → ListsV W vt TL) :
    Calls Tryd.prog 18 #[.pointer (some ⟨m, 0, none⟩)] w fun e w' => e = .returned .nilIface ∧ OpTo base 0 (roundP TL p) (wordJob vt) m R w w' := by
  have H0 : Hid (OpTo base (q + 8 * cntW p) p (wordJob vt) m R w w) := Lib.hid (OpTo.of_below h (Below.refl _ _) hbase)
  have HI := Lib.hid hi; have HT := Lib.hid hT; have HBASE := Lib.hid hbase; have HRD := Lib.hid hrd; have HQ := Lib.hid hq
  obtain ⟨nb, wb, ib, b, sv, us, Rn, hm, _⟩ := h
  obtain ⟨sb, so, sc, _, _, _, c2, _⟩ := hm.cells
  obtain ⟨k, hk⟩ : ∃ k, p.k = k := ⟨_, rfl⟩
  rw [hk] at c2
  have hk8 : k ≤ 8 := by rw [← hk]; exact hi.k2
  have HK := Lib.hid hk
  clear hm hk hi hT hbase hrd hq
  go_enter Tryd.func18, Tryd.ntmps18
  go_wp2_with fail
  go_loopg [14] k (fun g y wr => ∃ i, i ≤ k ∧ g = k - i ∧ y = .int .i64 (i : Nat) ∧ MidTo TL q p (fun p' => ∀ j, j < i → p'.wk.getD j false = true) base vt m R w wr)
  case atStart => exact ⟨0, Nat.zero_le _, rfl, rfl, p, Same.refl p, HI.out, fun j hj => absurd hj (Nat.not_lt_zero _), H0.out⟩
  case round =>
    obtain ⟨i, hi, rfl, rfl, p', hsm, hmi, hwk, hop⟩ := hrel
    have HSM := Lib.hid hsm; have HMI := Lib.hid hmi; have HWK := Lib.hid hwk; have HOP := Lib.hid hop
    obtain ⟨R', hmb, hfr, hsub, hbel⟩ := hop
    have HMB := Lib.hid hmb; have HFR := Lib.hid hfr; have HSUB := Lib.hid hsub; have HBEL := Lib.hid hbel
    have hpk : p'.k = k := by rw [hsm.k]; exact HK.out
    have hcnt : cntW p' ≤ k := by rw [← hpk, ← hmi.l5]; exact cnt_le p'
    have hbw : base ≤ wr.heap.size := Nat.le_trans HBASE.out hfr.size
    by_cases hlt : i < k
    · obtain ⟨nb', wb', ib', b', sv', us', Rn', hm', _⟩ := hmb
      obtain ⟨_, _, _, _, _, _, _, _, _, c5, _⟩ := hm'.cells
      have d5 := bools_pos hm'.work (show i < p'.wk.length by rw [hm'.l5, hpk]; exact hlt)
      rw [hpk] at c5
      obtain ⟨x, hx⟩ : ∃ x, p'.wk.getD i false = x := ⟨_, rfl⟩
      rw [hx] at d5
      have t7 : decide (i < k) = true := decide_eq_true hlt
      have t7' : decide ((i : Int) < k) = true := decide_eq_true (by omega)
      have i1 : (i : Int) < k := by omega
      have HLT := Lib.hid hlt
      have HX := Lib.hid hx
      cases x
      · have hc1 : cntW (workP p' i (TL.getD i [])) = cntW p' + 1 := count_set_true _ _ (by rw [hmi.l5, hpk]; exact hlt) hx
        have hq3 := HQ.out
        have hlt2 : cntW p' + 1 ≤ k := by
          rw [← hc1, ← hpk]
          have h9 := cnt_le (workP p' i (TL.getD i []))
          have h8 : (workP p' i (TL.getD i [])).wk.length = p'.k := by show (p'.wk.set i true).length = _; rw [List.length_set]; exact hmi.l5
          omega
        have htl := hmi.tl i
        have WK := Lib.hid (mwork_good TL HMB.out (fun W hW => HT.out W (hbel.trans hW)) hmi.good i (by rw [hpk]; exact hlt) hx (by omega) (by omega) hbw (hmi.tr i) (by have := hmi.s1 i; unfold stOf at this; omega) (fun y hy => hmi.s2 i y hy) (hmi.s3 i))
        have HMW := Lib.hid (hmi.work (by rw [hpk]; exact hlt) hx (by omega))
        have HC1 := Lib.hid hc1; have HTL := Lib.hid htl
        clear hsm hmi hwk hfr hsub hbel hpk hcnt hbw hlt hm' hx hc1 hq3 hlt2 htl hi
        go_wp2_with fail
        refine WK.out.mono ?_; rintro e w1 ⟨rfl, ho⟩
        have HO := Lib.hid ho
        clear ho
        go_wp2_with fail
        go_roundg (k - (i + 1))
        case rel =>
          refine ⟨i + 1, HLT.out, rfl, rfl, workP p' i (TL.getD i []), HSM.out.trans ⟨rfl, rfl, rfl, rfl⟩, HMW.out, fun j hj => ?_, ?_⟩
          · show (p'.wk.set i true).getD j false = true
            by_cases hji : j = i
            · subst hji
              exact getD_set_self (by rw [HMI.out.l5, HSM.out.k, HK.out]; exact HLT.out)
            · rw [getD_set_ne hji]
              exact HWK.out j (by omega)
          · have htl := HTL.out
            exact (OpTo.before HO.out HFR.out HSUB.out HBEL.out).mono (by rw [HC1.out]; omega)
        case measure => have := HLT.out; omega
      · clear hsm hmi hwk hfr hsub hbel hpk hcnt hbw hlt hm' hx hi
        go_wp2_with fail
        go_roundg (k - (i + 1))
        case rel =>
          refine ⟨i + 1, HLT.out, rfl, rfl, p', HSM.out, HMI.out, fun j hj => ?_, HOP.out⟩
          by_cases hji : j = i
          · rw [hji]; exact HX.out
          · exact HWK.out j (by omega)
        case measure => have := HLT.out; omega
    · have t7 : decide (i < k) = false := decide_eq_false hlt
      have t7' : decide ((i : Int) < k) = false := decide_eq_false (by omega)
      obtain rfl : k = i := by omega
      obtain ⟨w5, hw5⟩ : ∃ W, W = wr := ⟨_, rfl⟩
      subst hw5
      have hall : p'.wk.all id = true := by
        rw [List.all_eq_true]
        intro y hy
        obtain ⟨j, hj, rfl⟩ := List.mem_iff_getElem.1 hy
        have h9 := hwk j (by rw [← hpk, ← hmi.l5]; exact hj)
        simpa [List.getD, hj] using h9
      obtain ⟨nb', wb', ib', b', sv', us', Rn', hm', _⟩ := hmb
      have hfl := hmi.good.fl
      have hq3 := HQ.out
      obtain ⟨f, hf⟩ : ∃ f, p'.nt.fly.length = f := ⟨_, rfl⟩
      rw [hf] at hfl
      have hf4 : f ≤ 364 := by omega
      have FL := Lib.hid (mflying_any hm' (by rw [hf]; omega))
      rw [hf] at FL
      have HALL := Lib.hid hall; have HF := Lib.hid hf; have HCN := Lib.hid hcnt
      clear hsm hmi hwk hfr hsub hbel hpk hcnt hbw hlt hm' hall hq3 hf hfl hi c2
      go_wp2_with fail
      refine FL.out.mono ?_; rintro e w6 ⟨rfl, hb6⟩
      have HB6 := Lib.hid hb6
      have HO6 : Hid (OpTo base (q + 8 * cntW p') p' (wordJob vt) m R w w6) := Lib.hid (OpTo.before (OpTo.of_below HMB.out hb6 (by have := HFR.out.size; have := HBASE.out; omega)) HFR.out HSUB.out HBEL.out)
      clear hb6
      go_wp2_with fail
      go_loopg [33] f (fun g y wr => ∃ j, j ≤ f ∧ g = f - j ∧ y = .int .i64 (j : Nat) ∧ MidTo TL (q + j) p (fun p' => p'.wk.all id = true ∧ p'.nt.fly.length = f - j) base vt m R w wr)
      case atStart => exact ⟨0, Nat.zero_le _, rfl, rfl, p', HSM.out, HMI.out, ⟨HALL.out, HF.out⟩, HO6.out⟩
      case round =>
        obtain ⟨j, hj, rfl, rfl, p2, hsm, hmi, ⟨hall, hfl⟩, hop⟩ := hrel
        have HSM2 := Lib.hid hsm; have HMI2 := Lib.hid hmi; have HALL2 := Lib.hid hall; have HFL2 := Lib.hid hfl
        obtain ⟨R2, hmb, hfr, hsub, hbel⟩ := hop
        have HMB2 := Lib.hid hmb; have HFR2 := Lib.hid hfr; have HSUB2 := Lib.hid hsub; have HBEL2 := Lib.hid hbel
        have hcnt : cntW p2 ≤ k := by rw [← HK.out, ← hsm.k, ← hmi.l5]; exact cnt_le p2
        have hbw : base ≤ wr.heap.size := Nat.le_trans HBASE.out hfr.size
        have hq3 := HQ.out
        by_cases hlt : j < f
        · obtain ⟨hz0, hz1⟩ := stepP_zero (n := p2.nt) (by omega)
          have D := Lib.hid (mdeliver_any hmb hmi.good (by omega) (by omega) hbw 0)
          rw [hz0] at D
          have HMN := Lib.hid (hmi.net (by omega) 2 0 (Or.inr rfl))
          have HZ1 := Lib.hid hz1
          have t7 : decide (j < f) = true := decide_eq_true hlt
          have t7' : decide ((j : Int) < f) = true := decide_eq_true (by omega)
          have i1 : (j : Int) < f := by omega
          have HLT := Lib.hid hlt
          clear hsm hmi hall hfl hmb hfr hsub hbel hcnt hbw hq3 hlt hz0 hz1 hj
          go_wp2_with fail
          refine D.out.mono ?_; rintro e w7 ⟨u, rfl, ⟨_, rfl⟩ | ⟨h0, _⟩, ho⟩
          case inr => exact absurd rfl h0
          have HO := Lib.hid ho
          clear ho
          go_wp2_with fail
          go_roundg (f - (j + 1))
          case rel =>
            refine ⟨j + 1, HLT.out, rfl, rfl, netP p2 2 0, HSM2.out.trans ⟨rfl, rfl, rfl, rfl⟩, HMN.out, ⟨HALL2.out, ?_⟩, ?_⟩
            · show (stepP p2.nt 2 0 0 ⟨#[]⟩).1.fly.length = _
              rw [HZ1.out, HFL2.out]
              omega
            · exact (OpTo.before HO.out HFR2.out HSUB2.out HBEL2.out).mono (by show q + j + 8 * cntW p2 + 1 ≤ q + (j + 1) + 8 * cntW p2; omega)
          case measure => have := HLT.out; omega
        · have t7 : decide (j < f) = false := decide_eq_false hlt
          have t7' : decide ((j : Int) < f) = false := decide_eq_false (by omega)
          obtain rfl : f = j := by omega
          have hfly : p2.nt.fly = [] := List.eq_nil_of_length_eq_zero (by rw [hfl]; omega)
          have hmiss : p2.nt.miss = 0 := FullI.quiet ⟨hmi.full, hmi.inv⟩ hfly
          have PS := Lib.hid (mpass_go hmb hall hmiss hbw (fun a c => Nat.le_trans (hmi.good.sn a c) (by omega)) (by rw [hsm.rd]; exact HRD.out))
          rw [hmi.pass_eq hall hmiss, hsm.round] at PS
          clear hsm hmi hall hfl hmb hfr hsub hbel hcnt hbw hq3 hlt hj hfly hmiss
          go_wp2_with fail
          refine PS.out.mono ?_; rintro e w7 ⟨rfl, ho⟩
          have HO := Lib.hid (OpTo.before ho HFR2.out HSUB2.out HBEL2.out)
          clear ho
          go_wp2_with fail
          go_ret
          exact ⟨rfl, HO.out⟩
end Go.Proofs.YtlopoddllfkkfaaDoor
