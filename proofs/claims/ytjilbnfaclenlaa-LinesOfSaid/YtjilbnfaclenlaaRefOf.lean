/- The document's line graph. -/
import Derived.Test.YtjilbnfaclenlaaRefO
import Derived.Test.YtjilbnfaclenlaaLinesW
namespace Go.Proofs.Ytjilbnfaclenlaa
open Go.RowKit

/-- One result: a graph of the document that lies in a box. -/
theorem results_graph1 {fn : Func} {p : Tmp} (h : fn.results = #[.cell p 27]) (tmps : Array Value) (w : World) (g : Nat) (x y : Value) (hp : tmps.getD p undef = .pointer (some ⟨g, 0, none⟩)) (hc : Whole w g 27 #[x, y]) :
    (results fn tmps).run Try.prog w = .ok (.agg #[x, y]) w := by
  have hp' : tmps[p]?.getD undef = .pointer (some ⟨g, 0, none⟩) := by simpa using hp
  have c0 : w.cell? ⟨g, 0, none⟩ = some x := hc.cell 0
  have c1 : w.cell? ⟨g, 1, none⟩ = some y := hc.cell 1
  simp [results, h, hp', asAddr, loadVar, go_sem, c0, c1]

set_option maxRecDepth 100000 in
set_option maxHeartbeats 4000000 in
theorem refOf_any (S : List (Int × Int)) (vl ve : Value) (w : World) (he : EdgesV w ve S) (hS : S.length ≤ 5000) :
    Calls Try.prog 11 #[.agg #[vl, ve]] w fun e w' => ∃ lb A c, e = .returned (.agg #[.slice lb S.length S.length, .slice A (refTo S S.length).length c]) ∧ EdgesV w' (.slice A (refTo S S.length).length c) (refTo S S.length) ∧ Below w.heap.size w w' := by
  obtain ⟨j1, hi1, ky0, ky1, ky2⟩ := info_parts Try.infoInt6
  obtain ⟨j0, hj0, hz0, hz1, hz2⟩ := info_parts Try.infoRE
  have mkI : ∀ (k : Nat) (V : World), k ≤ 5000 → (Instr.makeSlice 22 (.int .i64 (k : Nat)) (.int .i64 (k : Nat))).run Try.prog V = .ok (.slice (some ⟨V.heap.size, 0, none⟩) k k) (V.alloc (.cells (madeCells #[.int .i64 0] k) 3)) := by
    intro k V hk
    have h := run_make (P := Try.prog) V 22 3 j1 (.int .i64 0) Try.underlying22 hi1 ky0 .i64 .i64 (k : Int) (k : Int) (by omega) (by omega) (by rw [ky2]; omega) (by omega)
    rw [h, ky1, Int.toNat_natCast, Nat.mul_one]
    rfl
  obtain ⟨Ae, ce, rfl⟩ := he.form
  obtain ⟨m, hmm⟩ : ∃ m, S.length = m := ⟨_, rfl⟩
  rw [hmm] at he hS ⊢
  have HRE := fun k => refTo_le S k
  have HRR := fun a k => refRow_le S a k
  rw [hmm] at HRE
  have mk := fun V => mkI m V hS
  have hG1 := Whole.new w 27 #[vl, .slice Ae m ce]
  have hB1 : Below w.heap.size w (w.alloc (.cells #[vl, .slice Ae m ce] 27)) := (Below.refl _ _).alloc (Nat.le_refl _) _
  obtain ⟨w1, hw1⟩ : ∃ W, w.alloc (.cells #[vl, .slice Ae m ce] 27) = W := ⟨_, rfl⟩
  rw [hw1] at hG1 hB1
  have hG2 := hG1.alloc (.cells #[.slice none 0 0, .slice none 0 0] 27)
  have hR2 := Whole.new w1 27 #[.slice none 0 0, .slice none 0 0]
  have hB2 : Below w.heap.size w (w1.alloc (.cells #[.slice none 0 0, .slice none 0 0] 27)) := hB1.alloc hB1.size _
  obtain ⟨w2, hw2⟩ : ∃ W, w1.alloc (.cells #[.slice none 0 0, .slice none 0 0] 27) = W := ⟨_, rfl⟩
  obtain ⟨rb, hrb⟩ : ∃ b, w1.heap.size = b := ⟨_, rfl⟩
  rw [hw2] at hG2 hR2 hB2
  rw [hrb] at hR2
  have hG3 := hG2.alloc (.cells (madeCells #[.int .i64 0] m) 3)
  have hR3 := hR2.alloc (.cells (madeCells #[.int .i64 0] m) 3)
  have hB3 : Below w.heap.size w (w2.alloc (.cells (madeCells #[.int .i64 0] m) 3)) := hB2.alloc hB2.size _
  obtain ⟨w3, hw3⟩ : ∃ W, w2.alloc (.cells (madeCells #[.int .i64 0] m) 3) = W := ⟨_, rfl⟩
  obtain ⟨zb, hzb⟩ : ∃ b, w2.heap.size = b := ⟨_, rfl⟩
  rw [hw3] at hG3 hR3 hB3
  obtain ⟨zs, hzs⟩ : ∃ z, (Value.slice (some ⟨zb, 0, none⟩) m m) = z := ⟨_, rfl⟩
  have hG4 := hG3.alloc (.cells #[zs, .slice none 0 0] 27)
  have hR4 := hR3.alloc (.cells #[zs, .slice none 0 0] 27)
  have hO4 := Whole.new w3 27 #[zs, .slice none 0 0]
  have hB4 : Below w.heap.size w (w3.alloc (.cells #[zs, .slice none 0 0] 27)) := hB3.alloc hB3.size _
  obtain ⟨w4, hw4⟩ : ∃ W, w3.alloc (.cells #[zs, .slice none 0 0] 27) = W := ⟨_, rfl⟩
  obtain ⟨ob, hob⟩ : ∃ b, w3.heap.size = b := ⟨_, rfl⟩
  rw [hw4] at hG4 hR4 hO4 hB4
  rw [hob] at hO4
  have c2 : w2.cell? ⟨w.heap.size, 1, none⟩ = some (.slice Ae m ce) := hG2.cell 1
  have hwob : w.heap.size < ob := by rw [← hob]; exact hG3.lt
  have hwrb : w.heap.size < rb := by rw [← hrb]; exact hG1.lt
  have hrob : rb < ob := by rw [← hob]; exact hR3.lt
  have hrb' : w.heap.size + 1 = rb := by rw [← hrb, ← hw1]; simp
  have hob' : w2.heap.size + 1 = ob := by rw [← hob, ← hw3]; simp
  have HRB' := Lib.hid hrb'; have HOB' := Lib.hid hob'
  clear hrb' hob'
  have HW1 := Lib.hid hw1; have HW2 := Lib.hid hw2; have HW3 := Lib.hid hw3; have HW4 := Lib.hid hw4; have HRB := Lib.hid hrb; have HZB := Lib.hid hzb; have HZS := Lib.hid hzs; have HOB := Lib.hid hob
  have HG := Lib.hid hG4; have HR := Lib.hid hR4; have HO := Lib.hid hO4; have HB := Lib.hid hB4; have HSE := Lib.hid he; have HM := Lib.hid hmm; have HRE := Lib.hid HRE; have HRR := Lib.hid HRR
  have HWOB := Lib.hid hwob; have HWRB := Lib.hid hwrb; have HROB := Lib.hid hrob
  clear he hmm hw1 hw2 hw3 hw4 hrb hzb hzs hob hG1 hG2 hG3 hG4 hR2 hR3 hR4 hO4 hB1 hB2 hB3 hB4 mkI hwob hwrb hrob
  go_enter Try.func11, Try.ntmps11
  go_upto_region 1 with fail
  rw [HW1.out, HW2.out, HRB'.out]
  go_wp2_with fail
  rw [HW3.out, HOB'.out, HZB.out, HZS.out, HW4.out]
  go_loopg [4] m (fun gh yv wr => ∃ a A c, a ≤ m ∧ gh = m - a ∧ yv = .int .i64 (a : Nat) ∧ Whole wr ob 27 #[zs, .slice A (refTo S a).length c] ∧ wr.ownsRow w.heap.size 43 2 (.slice A (refTo S a).length c) (refTo S a).length (eL (refTo S a)) ∧ Whole wr rb 27 #[.slice none 0 0, .slice none 0 0] ∧ Whole wr w.heap.size 27 #[vl, .slice Ae m ce] ∧ Below w.heap.size w wr)
  case atStart => exact ⟨0, none, 0, Nat.zero_le _, rfl, rfl, HO.out, World.ownsRow_nil _ _ _ 2, HR.out, HG.out, HB.out⟩
  case round =>
    obtain ⟨a, A, c, ha, rfl, rfl, hO, hrow, hR, hG, hB⟩ := hrel
    have g1 : wr.cell? ⟨w.heap.size, 1, none⟩ = some (.slice Ae m ce) := hG.cell 1
    by_cases hat : a < m
    · have t3 : decide (a < m) = true := decide_eq_true hat
      have i1 : (a : Int) < m := by omega
      have i2 : (0 : Int) ≤ a := by omega
      have HAT := Lib.hid hat
      have hst : refTo S a ++ refRow S a (a + 1) = refTo S a := by rw [refRow_start, List.append_nil]
      have HST := Lib.hid hst
      have HOa := Lib.hid hO; have HROW := Lib.hid hrow; have HRa := Lib.hid hR; have HGa := Lib.hid hG; have HBa := Lib.hid hB
      clear hat hO hrow hR hG hB hst
      go_wp2_with fail
      go_loopg [5] (m - (a + 1)) (fun gh yv ws => ∃ b A c, b ≤ m ∧ a < b ∧ gh = m - b ∧ yv = .int .i64 (b : Nat) ∧ Whole ws ob 27 #[zs, .slice A (refTo S a ++ refRow S a b).length c] ∧ ws.ownsRow w.heap.size 43 2 (.slice A (refTo S a ++ refRow S a b).length c) (refTo S a ++ refRow S a b).length (eL (refTo S a ++ refRow S a b)) ∧ Whole ws rb 27 #[.slice none 0 0, .slice none 0 0] ∧ Whole ws w.heap.size 27 #[vl, .slice Ae m ce] ∧ Below w.heap.size w ws)
      case atStart => exact ⟨a + 1, A, c, HAT.out, Nat.lt_succ_self _, rfl, by go_num, by rw [HST.out]; exact HOa.out, by rw [HST.out]; exact HROW.out, HRa.out, HGa.out, HBa.out⟩
      case round =>
        obtain ⟨b, A, c, hb, hab, rfl, rfl, hO, hrow, hR, hG, hB⟩ := hrel
        have g1 : wr.cell? ⟨w.heap.size, 1, none⟩ = some (.slice Ae m ce) := hG.cell 1
        have g0 : wr.cell? ⟨w.heap.size, 0, none⟩ = some vl := hG.cell 0
        by_cases hbt : b < m
        · have T1 := refTouch_any S vl (.slice Ae m ce) (a : Int) (b : Int) wr (HSE.out.below hB (Nat.le_refl _))
          have hsucc := refRow_succ S hab
          have hl1 := HRE.out a
          have hl2 := HRR.out a b
          have hlen : (refTo S a ++ refRow S a b).length ≤ 100000000 := by
            rw [List.length_append]
            have : a * m ≤ 5000 * 5000 := Nat.mul_le_mul (by have := HAT.out; omega) hS
            omega
          obtain ⟨tb, htb⟩ : ∃ t, touchB S (a : Int) (b : Int) = t := ⟨_, rfl⟩
          rw [htb] at T1 hsucc
          obtain ⟨Q, hQ⟩ : ∃ Q, refTo S a ++ refRow S a b = Q := ⟨_, rfl⟩
          have hnext : refTo S a ++ refRow S a (b + 1) = Q ++ (if tb = true then [((a : Int), (b : Int))] else []) := by rw [hsucc, ← List.append_assoc, hQ]
          rw [hQ] at hO hrow hlen
          obtain ⟨q, hq⟩ : ∃ q, Q.length = q := ⟨_, rfl⟩
          rw [hq] at hO hrow hlen
          have t3 : decide (b < m) = true := decide_eq_true hbt
          have i1 : (b : Int) < m := by omega
          have i2 : (0 : Int) ≤ b := by omega
          have HT1 := Lib.hid T1; have HNX := Lib.hid hnext; have HQ := Lib.hid hq; have HBT := Lib.hid hbt; have HAB := Lib.hid hab
          have HOb := Lib.hid hO; have HROb := Lib.hid hrow; have HRb := Lib.hid hR; have HGb := Lib.hid hG; have HBb := Lib.hid hB
          clear T1 hsucc hl1 hl2 htb hQ hnext hq hbt hab hO hrow hR hG hB
          cases tb with
          | false =>
            have HN : Hid (refTo S a ++ refRow S a (b + 1) = Q) := Lib.hid (by rw [HNX.out]; simp)
            go_wp2_with fail
            refine HT1.out.mono ?_; rintro e w6 ⟨rfl, hb6⟩
            have H1 := Lib.hid (HOb.out.below hb6 HOb.out.lt); have H2 := Lib.hid (own_below HROb.out hb6 (Nat.le_refl _)); have H3 := Lib.hid (HRb.out.below hb6 HRb.out.lt); have H4 := Lib.hid (HGb.out.below hb6 HGb.out.lt); have H5 := Lib.hid (HBb.out.trans (hb6.mono HBb.out.size))
            clear hb6 g0 g1
            go_wp2_with fail
            go_roundg (m - (b + 1))
            case rel => exact ⟨b + 1, A, c, HBT.out, by have := HAB.out; omega, rfl, by go_num, by rw [HN.out, HQ.out]; exact H1.out, by rw [HN.out, HQ.out]; exact H2.out, H3.out, H4.out, H5.out⟩
            case measure => have := HBT.out; omega
          | true =>
            have HN : Hid (refTo S a ++ refRow S a (b + 1) = Q ++ [((a : Int), (b : Int))]) := Lib.hid (by rw [HNX.out]; simp)
            go_wp2_with fail
            refine HT1.out.mono ?_; rintro e w6 ⟨rfl, hb6⟩
            have h1 := HOb.out.below hb6 HOb.out.lt
            have o1 : w6.cell? ⟨ob, 1, none⟩ = some (.slice A q c) := h1.cell 1
            have hb7 : Below w6.heap.size w6 (w6.alloc (.cells #[.int .i64 a, .int .i64 b] 43)) := (Below.refl _ _).alloc (Nat.le_refl _) _
            have H1 := Lib.hid (h1.alloc (.cells #[.int .i64 a, .int .i64 b] 43)); have H2 := Lib.hid (own_below (own_below HROb.out hb6 (Nat.le_refl _)) hb7 (Nat.le_refl _)); have H3 := Lib.hid ((HRb.out.below hb6 HRb.out.lt).alloc (.cells #[.int .i64 a, .int .i64 b] 43)); have H4 := Lib.hid ((HGb.out.below hb6 HGb.out.lt).alloc (.cells #[.int .i64 a, .int .i64 b] 43))
            have H5 := Lib.hid ((HBb.out.trans (hb6.mono HBb.out.size)).alloc (HBb.out.trans (hb6.mono HBb.out.size)).size (.cells #[.int .i64 a, .int .i64 b] 43))
            have HN2 := Lib.hid (edges_new w6 43 (a : Int) (b : Int) 1)
            have hs2 := H5.out.size
            clear hb6 h1 hb7 g0 g1
            go_wp2_with (at_builtin; refine wpList_appEdges _ rfl _ _ 23 43 rfl w.heap.size j0 (.agg #[.int .i64 0, .int .i64 0]) Try.underlying23 hj0 hz0 rfl hz1 hz2 _ q _ rfl H2.out _ [((a : Int), (b : Int))] rfl HN2.out (by simp; omega) hs2 ?_)
            intro A3 c3 w8 hown3 hgrow3
            have h8o := H1.out.grown hgrow3.1 (fun e => own_ne H2.out H1.out (by decide) e.symm)
            have h8r := H3.out.grown hgrow3.1 (fun e => own_ne H2.out H3.out (by decide) e.symm)
            have h8g := H4.out.grown hgrow3.1 (fun e => own_ne H2.out H4.out (by decide) e.symm)
            have h8b := hgrow3.below H2.out H5.out (Nat.le_refl _) hs2
            have o2 : w8.cell? ⟨ob, 1, none⟩ = some (.slice A q c) := h8o.cell 1
            have f2 := h8o.free 1
            have hne := own_ne hown3 h8o (by decide)
            have K1 := Lib.hid (h8o.put 1 (.slice A3 (q + 1) c3)); have K2 := Lib.hid (own_put hown3 (p := ⟨ob, 1, none⟩) hne (.slice A3 (q + 1) c3))
            have K3 := Lib.hid (h8r.other (p := ⟨ob, 1, none⟩) (by have := HROB.out; simp; omega) (.slice A3 (q + 1) c3)); have K4 := Lib.hid (h8g.other (p := ⟨ob, 1, none⟩) (by have := HWOB.out; simp; omega) (.slice A3 (q + 1) c3))
            have K5 := Lib.hid (h8b.setCell (p := ⟨ob, 1, none⟩) (by have := HWOB.out; simp; omega) (.slice A3 (q + 1) c3))
            clear hown3 hgrow3 h8o h8r h8g h8b hne o1
            go_wp2_with fail
            go_roundg (m - (b + 1))
            case rel => exact ⟨b + 1, A3, c3, HBT.out, by have := HAB.out; omega, rfl, by go_num, by rw [HN.out, List.length_append, HQ.out]; exact K1.out, by rw [HN.out, List.length_append, HQ.out, eL_app]; exact K2.out, K3.out, K4.out, K5.out⟩
            case measure => have := HBT.out; omega
        · obtain rfl : m = b := by omega
          have t3 : decide (m < m) = false := by simp
          have HSU : Hid (refTo S (a + 1) = refTo S a ++ refRow S a m) := Lib.hid (by rw [refTo_succ, HM.out])
          have HOb := Lib.hid hO; have HROb := Lib.hid hrow; have HRb := Lib.hid hR; have HGb := Lib.hid hG; have HBb := Lib.hid hB
          clear hbt hO hrow hR hG hB
          go_wp2_with fail
          go_roundg (m - (a + 1))
          case rel => exact ⟨a + 1, A, c, HAT.out, rfl, by go_num, by rw [HSU.out]; exact HOb.out, by rw [HSU.out]; exact HROb.out, HRb.out, HGb.out, HBb.out⟩
          case measure => have := HAT.out; omega
    · obtain rfl : m = a := by omega
      have t3 : decide (m < m) = false := by simp
      have hzz := HZS.out
      subst hzz
      have o0 : wr.cell? ⟨ob, 0, none⟩ = some (.slice (some ⟨zb, 0, none⟩) m m) := hO.cell 0
      have o1 : wr.cell? ⟨ob, 1, none⟩ = some (.slice A (refTo S m).length c) := hO.cell 1
      have r0 : wr.cell? ⟨rb, 0, none⟩ = some (.slice none 0 0) := hR.cell 0
      have r1 : wr.cell? ⟨rb, 1, none⟩ = some (.slice none 0 0) := hR.cell 1
      have f0 := hR.free 0
      have f1 := hR.free 1
      have hne := own_ne hrow hR (by decide)
      have K1 := Lib.hid ((hR.put 0 (.slice (some ⟨zb, 0, none⟩) m m)).put 1 (.slice A (refTo S m).length c))
      have K2 := Lib.hid (own_edges (own_put (own_put hrow (p := ⟨rb, 0, none⟩) hne (.slice (some ⟨zb, 0, none⟩) m m)) (p := ⟨rb, 1, none⟩) hne (.slice A (refTo S m).length c)))
      have K3 := Lib.hid ((hB.setCell (p := ⟨rb, 0, none⟩) (by have := HWRB.out; simp; omega) (.slice (some ⟨zb, 0, none⟩) m m)).setCell (p := ⟨rb, 1, none⟩) (by have := HWRB.out; simp; omega) (.slice A (refTo S m).length c))
      clear hat hO hrow hR hG hB hne
      go_wp2_with fail
      exact bodyPost_ret (results_graph1 rfl _ _ _ _ _ rfl K1.out) rfl ⟨_, _, _, rfl, K2.out, K3.out⟩
end Go.Proofs.Ytjilbnfaclenlaa
