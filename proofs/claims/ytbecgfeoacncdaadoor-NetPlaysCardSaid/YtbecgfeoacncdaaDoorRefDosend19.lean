/- NetPlays: the document's Do: send. -/
import Derived.Test.YtbecgfeoacncdaaDoorRefDo19
namespace Go.Proofs.YtbecgfeoacncdaaDoor
open Go.RowKit

set_option maxRecDepth 100000 in
set_option maxHeartbeats 4000000 in
theorem refDo_off {w : World} {kk : Nat} {vS vF vC : Value} {S F C : List Let} (hS : LetsAt w vS S) (hF : LetsAt w vF F) (hC : LetsAt w vC C) {nS nF nC : Nat} (hnS : S.length = nS) (hnF : F.length = nF) (hnC : C.length = nC) (a c : Int) (x : ByteArray) (ha : ¬ (hasB kk a && hasB kk c) = true) :
    Calls Tryd.prog 12 #[.agg #[.int .i64 kk, vS, vF, vC], .agg #[.int .i64 0, .int .i64 a, .int .i64 c, .string x]] w (DoR kk vS vF vC ⟨kk, S, F, C⟩ ⟨kk, S, F, C⟩ 3 w) := by
  have HS := Lib.hid hS; have HF := Lib.hid hF; have HC := Lib.hid hC
  obtain ⟨AS, cS, rfl, _⟩ := hS
  obtain ⟨AF, cF, rfl, _⟩ := hF
  obtain ⟨AC, cC, rfl, _⟩ := hC
  rw [hnS] at HS ⊢
  rw [hnF] at HF ⊢
  rw [hnC] at HC ⊢
  obtain ⟨W3, hW3⟩ : ∃ W, ((w.alloc (.cells #[.int .i64 kk, .slice AS nS cS, .slice AF nF cF, .slice AC nC cC] 33)).alloc (.cells #[.int .i64 0, .int .i64 a, .int .i64 c, .string x] 37)).alloc (.cells #[.int .i64 0, .slice none 0 0, .slice none 0 0, .slice none 0 0] 33) = W := ⟨_, rfl⟩
  obtain ⟨xb, hxb⟩ : ∃ b, w.heap.size = b := ⟨_, rfl⟩
  have hb3 : Below w.heap.size w W3 := by rw [← hW3]; exact (((Below.refl _ _).alloc (Nat.le_refl _) _).alloc (by rw [World.size_alloc]; omega) _).alloc (by rw [World.size_alloc, World.size_alloc]; omega) _
  have hx3 : Whole W3 xb 33 #[.int .i64 kk, .slice AS nS cS, .slice AF nF cF, .slice AC nC cC] := by rw [← hW3, ← hxb]; exact ((Whole.new w _ _).alloc _).alloc _
  have hy3 : Whole W3 (xb + 1) 37 #[.int .i64 0, .int .i64 a, .int .i64 c, .string x] := by
    have := (Whole.new (w.alloc (.cells #[.int .i64 kk, .slice AS nS cS, .slice AF nF cF, .slice AC nC cC] 33)) 37 #[.int .i64 0, .int .i64 a, .int .i64 c, .string x]).alloc (.cells #[.int .i64 0, .slice none 0 0, .slice none 0 0, .slice none 0 0] 33)
    rw [hW3, World.size_alloc, hxb] at this
    exact this
  have hz3 : Whole W3 (xb + 1 + 1) 33 #[.int .i64 0, .slice none 0 0, .slice none 0 0, .slice none 0 0] := by
    have := Whole.new ((w.alloc (.cells #[.int .i64 kk, .slice AS nS cS, .slice AF nF cF, .slice AC nC cC] 33)).alloc (.cells #[.int .i64 0, .int .i64 a, .int .i64 c, .string x] 37)) 33 #[.int .i64 0, .slice none 0 0, .slice none 0 0, .slice none 0 0]
    rw [hW3, World.size_alloc, World.size_alloc, hxb] at this
    exact this
  have hs3 : W3.heap.size = xb + 1 + 1 + 1 := by rw [← hW3, World.size_alloc, World.size_alloc, World.size_alloc, hxb]
  obtain ⟨yb, hyb⟩ : ∃ b, xb + 1 = b := ⟨_, rfl⟩
  rw [hyb] at hy3 hz3 hs3
  obtain ⟨zb, hzb⟩ : ∃ b, yb + 1 = b := ⟨_, rfl⟩
  rw [hzb] at hz3 hs3
  have HW3 := Lib.hid hW3; have HXB := Lib.hid hxb; have HYB := Lib.hid hyb; have HZB := Lib.hid hzb; have HB3 := Lib.hid hb3; have HX3 := Lib.hid hx3; have HY3 := Lib.hid hy3; have HZ3 := Lib.hid hz3; have HS3 := Lib.hid hs3; have HNF := Lib.hid hnF
  have hdone := done_refNet (m := ⟨kk, S, F, C⟩) (m0 := ⟨kk, S, F, C⟩) (code := 3) hz3 ⟨rfl, HS.out.below hb3 (Nat.le_refl _), HF.out.below hb3 (Nat.le_refl _), HC.out.below hb3 (Nat.le_refl _)⟩ (Off19.of HS.out (by omega)) (Off19.of HF.out (by omega)) (Off19.of HC.out (by omega)) hb3 (by omega) (Or.inl ⟨rfl, rfl⟩) (Or.inl ⟨rfl, rfl⟩) (Or.inl ⟨rfl, rfl⟩)
  have HDONE := Lib.hid hdone
  have c1 : W3.cell? ⟨xb, 1, none⟩ = some (.slice AS nS cS) := hx3.cell 1
  have c2 : W3.cell? ⟨xb, 2, none⟩ = some (.slice AF nF cF) := hx3.cell 2
  have k0 : W3.cell? ⟨yb, 0, none⟩ = some (.int .i64 0) := hy3.cell 0
  have k1 : W3.cell? ⟨yb, 1, none⟩ = some (.int .i64 a) := hy3.cell 1
  have k2 : W3.cell? ⟨yb, 2, none⟩ = some (.int .i64 c) := hy3.cell 2
  have c0 : W3.cell? ⟨xb, 0, none⟩ = some (.int .i64 kk) := hx3.cell 0
  have c3 : W3.cell? ⟨xb, 3, none⟩ = some (.slice AC nC cC) := hx3.cell 3
  have z0 : (W3.cell? ⟨zb, 0, none⟩) = some (.int .i64 0) := hz3.cell 0
  have z1 : (W3.cell? ⟨zb, 1, none⟩) = some (.slice none 0 0) := hz3.cell 1
  have z2 : (W3.cell? ⟨zb, 2, none⟩) = some (.slice none 0 0) := hz3.cell 2
  have z3 : (W3.cell? ⟨zb, 3, none⟩) = some (.slice none 0 0) := hz3.cell 3
  have f0 : W3.frozen? ⟨zb, 0, none⟩ = false := hz3.free 0
  have f1 : W3.frozen? ⟨zb, 1, none⟩ = false := hz3.free 1
  have f2 : W3.frozen? ⟨zb, 2, none⟩ = false := hz3.free 2
  have f3 : W3.frozen? ⟨zb, 3, none⟩ = false := hz3.free 3
  have hc2 : decide (a < 0) = true ∨ (decide (a < 0) = false ∧ (decide (c < 0) = true ∨ (decide (c < 0) = false ∧ (decide ((kk : Int) ≤ a) = true ∨ (decide ((kk : Int) ≤ a) = false ∧ decide ((kk : Int) ≤ c) = true))))) := by
    simp only [decide_eq_true_eq, decide_eq_false_iff_not]
    unfold hasB at ha
    simp only [Bool.and_eq_true, decide_eq_true_eq] at ha
    omega
  clear ha hnS hnF hnC hW3 hxb hb3 hx3 hy3 hz3 hs3 hyb hzb hdone
  rcases hc2 with t1 | ⟨t1, t2 | ⟨t2, t3 | ⟨t3, t4⟩⟩⟩
  all_goals
    go_enter Tryd.func12, Tryd.ntmps12
    go_upto_region 1 with fail
    rw [HW3.out, HXB.out, HYB.out, HZB.out]
    go_wp2_with fail
    exact bodyPost_ret (results_refNet rfl _ _ _ _ _ _ _ (.int .i64 3) rfl rfl HDONE.out.1) rfl HDONE.out.2
set_option maxRecDepth 100000 in
set_option maxHeartbeats 4000000 in
theorem refDo_send {w : World} {kk : Nat} {vS vF vC : Value} {S F C : List Let} (hS : LetsAt w vS S) (hF : LetsAt w vF F) (hC : LetsAt w vC C) {nS nF nC : Nat} (hnS : S.length = nS) (hnF : F.length = nF) (hnC : C.length = nC) (hF1 : nF ≤ 1000) (hS1 : nS ≤ 1000) (a c : Int) (x : ByteArray) (ha : (hasB kk a && hasB kk c) = true) :
    Calls Tryd.prog 12 #[.agg #[.int .i64 kk, vS, vF, vC], .agg #[.int .i64 0, .int .i64 a, .int .i64 c, .string x]] w (DoR kk vS vF vC ⟨kk, S, F, C⟩ (sendR ⟨kk, S, F, C⟩ a c x) 0 w) := by
  obtain ⟨i0, hi0, hz0, hz1, hz2⟩ := info_parts Tryd.infoRefL
  have HS := Lib.hid hS; have HF := Lib.hid hF; have HC := Lib.hid hC
  obtain ⟨AS, cS, rfl, _⟩ := hS
  obtain ⟨AF, cF, rfl, _⟩ := hF
  obtain ⟨AC, cC, rfl, _⟩ := hC
  rw [hnS] at HS ⊢
  rw [hnF] at HF ⊢
  rw [hnC] at HC ⊢
  obtain ⟨W3, hW3⟩ : ∃ W, ((w.alloc (.cells #[.int .i64 kk, .slice AS nS cS, .slice AF nF cF, .slice AC nC cC] 33)).alloc (.cells #[.int .i64 0, .int .i64 a, .int .i64 c, .string x] 37)).alloc (.cells #[.int .i64 0, .slice none 0 0, .slice none 0 0, .slice none 0 0] 33) = W := ⟨_, rfl⟩
  obtain ⟨xb, hxb⟩ : ∃ b, w.heap.size = b := ⟨_, rfl⟩
  have hb3 : Below w.heap.size w W3 := by rw [← hW3]; exact (((Below.refl _ _).alloc (Nat.le_refl _) _).alloc (by rw [World.size_alloc]; omega) _).alloc (by rw [World.size_alloc, World.size_alloc]; omega) _
  have hx3 : Whole W3 xb 33 #[.int .i64 kk, .slice AS nS cS, .slice AF nF cF, .slice AC nC cC] := by rw [← hW3, ← hxb]; exact ((Whole.new w _ _).alloc _).alloc _
  have hy3 : Whole W3 (xb + 1) 37 #[.int .i64 0, .int .i64 a, .int .i64 c, .string x] := by
    have := (Whole.new (w.alloc (.cells #[.int .i64 kk, .slice AS nS cS, .slice AF nF cF, .slice AC nC cC] 33)) 37 #[.int .i64 0, .int .i64 a, .int .i64 c, .string x]).alloc (.cells #[.int .i64 0, .slice none 0 0, .slice none 0 0, .slice none 0 0] 33)
    rw [hW3, World.size_alloc, hxb] at this
    exact this
  have hz3 : Whole W3 (xb + 1 + 1) 33 #[.int .i64 0, .slice none 0 0, .slice none 0 0, .slice none 0 0] := by
    have := Whole.new ((w.alloc (.cells #[.int .i64 kk, .slice AS nS cS, .slice AF nF cF, .slice AC nC cC] 33)).alloc (.cells #[.int .i64 0, .int .i64 a, .int .i64 c, .string x] 37)) 33 #[.int .i64 0, .slice none 0 0, .slice none 0 0, .slice none 0 0]
    rw [hW3, World.size_alloc, World.size_alloc, hxb] at this
    exact this
  have hs3 : W3.heap.size = xb + 1 + 1 + 1 := by rw [← hW3, World.size_alloc, World.size_alloc, World.size_alloc, hxb]
  obtain ⟨yb, hyb⟩ : ∃ b, xb + 1 = b := ⟨_, rfl⟩
  rw [hyb] at hy3 hz3 hs3
  obtain ⟨zb, hzb⟩ : ∃ b, yb + 1 = b := ⟨_, rfl⟩
  rw [hzb] at hz3 hs3
  have HW3 := Lib.hid hW3; have HXB := Lib.hid hxb; have HYB := Lib.hid hyb; have HZB := Lib.hid hzb; have HB3 := Lib.hid hb3; have HX3 := Lib.hid hx3; have HY3 := Lib.hid hy3; have HZ3 := Lib.hid hz3; have HS3 := Lib.hid hs3; have HNF := Lib.hid hnF
  have HNS := Lib.hid hnS
  obtain ⟨W4, hW4⟩ : ∃ W, W3.alloc (.cells #[.int .i64 a, .int .i64 c, .int .i64 0, .string x] 62) = W := ⟨_, rfl⟩
  have hb4 : Below W3.heap.size W3 W4 := by rw [← hW4]; exact (Below.refl _ _).alloc (Nat.le_refl _) _
  obtain ⟨lb, hlb⟩ : ∃ b, W3.heap.size = b := ⟨_, rfl⟩
  have hl4 : Whole W4 lb 62 #[.int .i64 a, .int .i64 c, .int .i64 0, .string x] := by rw [← hW4, ← hlb]; exact Whole.new _ _ _
  have hx4 := hx3.below hb4 (by omega)
  have hy4 := hy3.below hb4 (by omega)
  have hz4 := hz3.below hb4 (by omega)
  have hs4 : W4.heap.size = lb + 1 := by rw [← hW4, World.size_alloc, hlb]
  have hb04 : Below w.heap.size w W4 := hb3.trans (hb4.mono (by omega))
  have HW4 := Lib.hid hW4; have HLB := Lib.hid hlb; have HL4 := Lib.hid hl4; have HX4 := Lib.hid hx4; have HY4 := Lib.hid hy4; have HZ4 := Lib.hid hz4; have HS4 := Lib.hid hs4; have HB04 := Lib.hid hb04
  have c0 : W3.cell? ⟨xb, 0, none⟩ = some (.int .i64 kk) := hx3.cell 0
  have k0 : W3.cell? ⟨yb, 0, none⟩ = some (.int .i64 0) := hy3.cell 0
  have k1 : W3.cell? ⟨yb, 1, none⟩ = some (.int .i64 a) := hy3.cell 1
  have k2 : W3.cell? ⟨yb, 2, none⟩ = some (.int .i64 c) := hy3.cell 2
  have k3 : W3.cell? ⟨yb, 3, none⟩ = some (.string x) := hy3.cell 3
  have hh : 0 ≤ a ∧ a < kk ∧ 0 ≤ c ∧ c < kk := by
    unfold hasB at ha
    simp only [Bool.and_eq_true, decide_eq_true_eq] at ha
    omega
  have t1 : decide (a < 0) = false := decide_eq_false (by omega)
  have t2 : decide (c < 0) = false := decide_eq_false (by omega)
  have t3 : decide ((kk : Int) ≤ a) = false := decide_eq_false (by omega)
  have t4 : decide ((kk : Int) ≤ c) = false := decide_eq_false (by omega)
  clear ha hnS hnF hnC hW3 hxb hb3 hx3 hy3 hz3 hs3 hyb hzb hh hW4 hb4 hlb hl4 hx4 hy4 hz4 hs4 hb04
  go_enter Tryd.func12, Tryd.ntmps12
  go_upto_region 1 with fail
  rw [HW3.out, HXB.out, HYB.out, HZB.out]
  go_upto_region 5 with fail
  rw [HW4.out, HLB.out]
  clear c0 k0 k1 k2 k3 t1 t2 t3 t4
  go_wp2_with fail
  go_loopg [7] nS (fun g y wx => ∃ j V, V = wx ∧ j ≤ nS ∧ g = nS - j ∧ y = .int .i64 (j : Nat) ∧ Whole V lb 62 #[.int .i64 a, .int .i64 c, .int .i64 (cntS (S.take j) a c : Nat), .string x] ∧ Below lb W4 V)
  case atStart => exact ⟨0, _, rfl, Nat.zero_le _, rfl, rfl, by rw [List.take_zero]; exact HL4.out, Below.refl _ _⟩
  case round =>
    obtain ⟨j, V, rfl, hj, rfl, rfl, hlV, hBV⟩ := hrel
    have n1 := HXB.out; have n2 := HYB.out; have n3 := HZB.out; have n4 := HS3.out; have n5 := HLB.out; have n6 := HS4.out
    have hxV := HX4.out.below hBV (by omega)
    have hyV := HY4.out.below hBV (by omega)
    have hzV := HZ4.out.below hBV (by omega)
    have hbV : Below w.heap.size w V := HB04.out.trans (hBV.mono (by omega))
    obtain ⟨cnt, hcnt⟩ : ∃ m, cntS (S.take j) a c = m := ⟨_, rfl⟩
    rw [hcnt] at hlV
    have hcj : cnt ≤ j := by
      rw [← hcnt]
      unfold cntS
      refine Nat.le_trans List.countP_le_length ?_
      rw [List.length_take]
      omega
    have c1 : V.cell? ⟨xb, 1, none⟩ = some (.slice AS nS cS) := hxV.cell 1
    have k1 : V.cell? ⟨yb, 1, none⟩ = some (.int .i64 a) := hyV.cell 1
    have k2 : V.cell? ⟨yb, 2, none⟩ = some (.int .i64 c) := hyV.cell 2
    have s2 : V.cell? ⟨lb, 2, none⟩ = some (.int .i64 cnt) := hlV.cell 2
    have s2f : V.frozen? ⟨lb, 2, none⟩ = false := hlV.free 2
    have HLV := Lib.hid hlV; have HBV := Lib.hid hBV; have HbV := Lib.hid hbV; have HXV := Lib.hid hxV; have HZV := Lib.hid hzV; have HYV := Lib.hid hyV
    clear n1 n2 n3 n4 n5 n6 hxV hyV hzV hbV hlV hBV
    by_cases hlt : j < nS
    · have hjS : j < S.length := by rw [HNS.out]; exact hlt
      obtain ⟨⟨yf, yt, ys, yx⟩, hy⟩ : ∃ y, S[j] = y := ⟨_, rfl⟩
      obtain ⟨gc, oc, rfl, g0, g1, g2, g3⟩ := (HS.out.below HbV.out (Nat.le_refl _)).pos (i := j) hjS
      rw [hy] at g0 g1 g2 g3
      simp only at g0 g1 g2 g3
      have hnx : cntS (S.take (j + 1)) a c = cnt + (if isWay a c ⟨yf, yt, ys, yx⟩ = true then 1 else 0) := by
        unfold cntS at hcnt ⊢
        rw [List.take_succ_eq_append_getElem hjS, List.countP_append, hcnt, hy]
        simp only [List.countP_cons, List.countP_nil, Nat.zero_add]
      have t5 : decide (j < nS) = true := decide_eq_true hlt
      have t5' : decide ((j : Int) < (nS : Int)) = true := decide_eq_true (by omega)
      have j3 : (j : Int) < nS := by omega
      have j4 : (0 : Int) ≤ j := by omega
      have sw : IntKind.i64.wrap ((cnt : Int) + 1) = (cnt : Int) + 1 := by rw [IntKind.wrap_i64] <;> omega
      have HLT := Lib.hid hlt; have HNX := Lib.hid hnx
      by_cases h1 : yf = a
      · by_cases h2 : yt = c
        · have hw : isWay a c ⟨yf, yt, ys, yx⟩ = true := by simp [isWay, h1, h2]
          have HNX2 : Hid (cntS (S.take (j + 1)) a c = cnt + 1) := Lib.hid (by rw [hnx, if_pos hw])
          have u1 : (yf == a) = true := by simpa using h1
          have u2 : (yt == c) = true := by simpa using h2
          have u1' : decide (yf = a) = true := decide_eq_true h1
          have u2' : decide (yt = c) = true := decide_eq_true h2
          clear hy hjS hnx hcnt hw h1 h2 HNX
          go_wp2_with fail
          go_quiet (fail)
          go_wp2_with fail
          go_roundg (nS - (j + 1))
          case rel => exact ⟨j + 1, _, rfl, HLT.out, rfl, by go_num, by rw [HNX2.out]; exact (HLV.out.drewN nq).put 2 _, (below_drewN' HBV.out nq).setCell (Nat.le_refl _) _⟩
          case measure => have := HLT.out; omega
        · have hw : ¬ isWay a c ⟨yf, yt, ys, yx⟩ = true := by simp [isWay, h2]
          have HNX2 : Hid (cntS (S.take (j + 1)) a c = cnt) := Lib.hid (by rw [hnx, if_neg hw]; rfl)
          have u1 : (yf == a) = true := by simpa using h1
          have u2 : (yt == c) = false := by simpa using h2
          have u1' : decide (yf = a) = true := decide_eq_true h1
          have u2' : decide (yt = c) = false := decide_eq_false h2
          clear hy hjS hnx hcnt hw h1 h2 HNX
          go_wp2_with fail
          go_quiet (fail)
          go_wp2_with fail
          go_roundg (nS - (j + 1))
          case rel => exact ⟨j + 1, _, rfl, HLT.out, rfl, by go_num, by rw [HNX2.out]; exact HLV.out.drewN nq, below_drewN' HBV.out nq⟩
          case measure => have := HLT.out; omega
      · have hw : ¬ isWay a c ⟨yf, yt, ys, yx⟩ = true := by simp [isWay, h1]
        have HNX2 : Hid (cntS (S.take (j + 1)) a c = cnt) := Lib.hid (by rw [hnx, if_neg hw]; rfl)
        have u1 : (yf == a) = false := by simpa using h1
        have u1' : decide (yf = a) = false := decide_eq_false h1
        clear hy hjS hnx hcnt hw h1 HNX
        go_wp2_with fail
        go_quiet (fail)
        go_wp2_with fail
        go_roundg (nS - (j + 1))
        case rel => exact ⟨j + 1, _, rfl, HLT.out, rfl, by go_num, by rw [HNX2.out]; exact HLV.out.drewN nq, below_drewN' HBV.out nq⟩
        case measure => have := HLT.out; omega
    · obtain rfl : j = nS := by omega
      have t5 : decide (j < j) = false := decide_eq_false (by omega)
      have HCN : Hid (cntS S a c = cnt) := Lib.hid (by rw [← hcnt, ← HNS.out, List.take_length])
      have HF1 := Lib.hid hF1; have HS1 := Lib.hid hS1
      clear hcnt hcj
      go_upto_region 10 with fail
      have hV := HLV.out; have hXV := HXV.out
      have xb_lt : Hid (xb < V.heap.size) := Lib.hid hXV.lt
      have xb_fz : Hid (∀ W, Below V.heap.size V W → W.frozen? ⟨xb, 1, none⟩ = false) := Lib.hid (fun W hW => (hXV.below hW hXV.lt).free 1)
      have HKS : Hid (∀ W, Below V.heap.size V W → W.cell? ⟨xb, 1, none⟩ = some (.slice AS j cS) ∧ W.cell? ⟨lb, 0, none⟩ = some (.int .i64 a) ∧ W.cell? ⟨lb, 1, none⟩ = some (.int .i64 c) ∧ W.cell? ⟨lb, 2, none⟩ = some (.int .i64 cnt) ∧ W.cell? ⟨lb, 3, none⟩ = some (.string x)) :=
        Lib.hid (fun W hW => ⟨(hXV.below hW hXV.lt).cell 1, (hV.below hW hV.lt).cell 0, (hV.below hW hV.lt).cell 1, (hV.below hW hV.lt).cell 2, (hV.below hW hV.lt).cell 3⟩)
      have HSR : Hid (RowAt V 4 (.slice AS j cS) j (letsC S)) := Lib.hid (by have := (HS.out.below HbV.out (Nat.le_refl _)).row; rw [HNS.out] at this; exact this)
      clear hV hXV c1 k1 k2 s2 s2f
      go_upto_region 10 with fail
      go_cut [] (fun wx => AppCut V xb 1 j (S ++ [⟨a, c, cnt, x⟩]) wx)
      case first =>
        refine region_app2 [1, 2, 4] 8 (by kernel_rfl) (by kernel_rfl) (fun W => W.cell? ⟨xb, 1, none⟩ = some (.slice AS j cS) ∧ W.cell? ⟨lb, 0, none⟩ = some (.int .i64 a) ∧ W.cell? ⟨lb, 1, none⟩ = some (.int .i64 c) ∧ W.cell? ⟨lb, 2, none⟩ = some (.int .i64 cnt) ∧ W.cell? ⟨lb, 3, none⟩ = some (.string x)) (HKS.out _ (below_drewN' (Below.refl _ _) 1)) (by kernel_rfl) (by kernel_rfl) ?_
        refine ⟨({ dst := some 76, op := Op.fieldAddr 33 (Operand.tmp 2) 1, type := 0, pos := "ref.go:34", after := #[], guard := none } : Oper), ?vc1, rfl, Or.inl ⟨by rfl, ?hyc1⟩, fun _ _ _ h => h, ?restc1⟩
        case hyc1 => (intro w' hSw; obtain ⟨s1, s2, s3, s4, s5⟩ := hSw; go_simp; try with_reducible rfl)
        try simp only [Act.put, List.setIfInBounds_toArray, List.set_cons_zero, List.set_cons_succ]
        refine ⟨({ dst := some 77, op := Op.load 31 (Operand.tmp 76), type := 31, pos := "ref.go:34", after := #[{ on := 1, ground := Ground.data }], guard := none } : Oper), ?vc2, rfl, Or.inl ⟨by rfl, ?hyc2⟩, fun _ _ _ h => h, ?restc2⟩
        case hyc2 => (intro w' hSw; obtain ⟨s1, s2, s3, s4, s5⟩ := hSw; go_simp; try with_reducible rfl)
        try simp only [Act.put, List.setIfInBounds_toArray, List.set_cons_zero, List.set_cons_succ]
        refine ⟨({ dst := some 79, op := Op.load 62 (Operand.tmp 6), type := 62, pos := "ref.go:34", after := #[], guard := none } : Oper), ?vc4, rfl, Or.inl ⟨by rfl, ?hyc4⟩, fun _ _ _ h => h, ?restc4⟩
        case hyc4 => (intro w' hSw; obtain ⟨s1, s2, s3, s4, s5⟩ := hSw; go_simp; try with_reducible rfl)
        try simp only [Act.put, List.setIfInBounds_toArray, List.set_cons_zero, List.set_cons_succ]
        refine reads_nil ?_
        refine until_app2 (R := [1, 2, 4]) (oe := ({ dst := some 75, op := Op.buildSlice 31 0 #[], type := 31, pos := "ref.go:34", after := #[], guard := none } : Oper)) (oa := ({ dst := some 78, op := Op.call { callee := Callee.builtin Builtin.append, args := #[Operand.tmp 75, Operand.tmp 77], argTypes := #[31, 31] }, type := 31, pos := "ref.go:34", after := #[{ on := 0, ground := Ground.data }, { on := 2, ground := Ground.data }], guard := none } : Oper)) (ol := ({ dst := some 80, op := Op.buildSlice 31 1 #[(0, Operand.tmp 79)], type := 31, pos := "ref.go:34", after := #[{ on := 4, ground := Ground.data }], guard := none } : Oper)) (ob := ({ dst := some 81, op := Op.call { callee := Callee.builtin Builtin.append, args := #[Operand.tmp 78, Operand.tmp 80], argTypes := #[31, 31] }, type := 31, pos := "ref.go:34", after := #[{ on := 3, ground := Ground.data }, { on := 5, ground := Ground.data }, { on := 3, ground := Ground.chain }], guard := none } : Oper)) (oj := ({ dst := some 82, op := Op.fieldAddr 33 (Operand.tmp 2) 1, type := 0, pos := "ref.go:34", after := #[{ on := 0, ground := Ground.phase }, { on := 1, ground := Ground.phase }, { on := 2, ground := Ground.phase }, { on := 3, ground := Ground.phase }, { on := 4, ground := Ground.phase }, { on := 5, ground := Ground.phase }, { on := 6, ground := Ground.phase }], guard := none } : Oper)) (ok := ({ dst := none, op := Op.store 31 (Operand.tmp 82) (Operand.tmp 81), type := 0, pos := "ref.go:34", after := #[{ on := 7, ground := Ground.data }, { on := 6, ground := Ground.data }, { on := 6, ground := Ground.chain }, { on := 0, ground := Ground.phase }, { on := 1, ground := Ground.phase }, { on := 2, ground := Ground.phase }, { on := 3, ground := Ground.phase }, { on := 4, ground := Ground.phase }, { on := 5, ground := Ground.phase }, { on := 6, ground := Ground.phase }], guard := none } : Oper)) (ie := 0) (ia := 3) (il := 5) (ib := 6) (ij := 7) (ik := 8) (de := 75) (da := 78) (dl := 80) (tx := 77) (ty := 79) (dbo := some 81) (by kernel_rfl) rfl rfl rfl rfl rfl rfl rfl rfl rfl rfl rfl rfl 31 62 i0 (letV letZ) 4 40 Tryd.underlying31 hi0 hz0 hz1 hz2 rfl (by decide) (by decide) rfl rfl rfl rfl rfl rfl rfl rfl (by decide) (by decide) (by decide) (by decide) (by decide) (by decide) ?zde ?zda ?zdl (u := .slice AS j cS) (y := .agg #[.int .i64 a, .int .i64 c, .int .i64 cnt, .string x]) (m := j) (cs := letsC S) (ys := letC ⟨a, c, cnt, x⟩) ?hx ?hy ?hu (letsC_cell _) (letC_cell _) rfl (by have := HS1.out; omega) slice0_19 (fun W => slice1_19 W _ _ _ _) (fun W hW => HKS.out W (below_of_drew hW)) ?fin rfl
        case zde => exact (show 75 < 162 by decide)
        case zda => exact (show 78 < 162 by decide)
        case zdl => exact (show 80 < 162 by decide)
        case hx => rfl
        case hy => rfl
        case hu => exact RowAt.drew HSR.out
        case fin =>
        simp only [Act.put, List.setIfInBounds_toArray, List.set_cons_zero, List.set_cons_succ]
        intro ve va vl A' c' w' ho hb
        refine wp_bare (fun K hK => ?_)
        have hwx := AppTo.of (j := 1) (L := S ++ [⟨a, c, cnt, x⟩]) (W0 := V) (xb_lt.out) (by rw [letsC_app, letsC_one]; exact ho) (below_of_drew hb)
        have HWX := Lib.hid hwx; have HKW := Lib.hid (HKS.out w' (below_of_drew hb))
        have s1 := (HKS.out w' (below_of_drew hb)).1
        have s2 := xb_fz.out w' (below_of_drew hb)
        clear ho hb hwx
        go_simp
        refine hK.out _ _ ⟨HKW.out, ?_⟩
        refine wp_bare (fun K hK => ?_)
        go_simp
        refine hK.out _ _ ?_
        go_wp2_with fail
        go_meet
        exact ⟨_, rfl, HWX.out⟩
      case rest =>
      obtain ⟨wr, rfl, A7, c7, hg7, hx7, hf7, ho7⟩ := hcut
      have hx7 := hx7 _ HXV.out
      have n1 := HXB.out; have n2 := HYB.out; have n3 := HZB.out; have n4 := HS3.out; have n5 := HLB.out; have n6 := HS4.out
      have hz7 := HZV.out.grown hg7 (by intro e; injection e with e; omega)
      have hl7 := HLV.out.grown hg7 (by intro e; injection e with e; omega)
      have hb7 : Below w.heap.size w wr := HbV.out.trans (Below.ofGrown hg7 (by omega) xb_lt.out)
      have hF7 : LetsAt wr (.slice AF nF cF) F := (HF.out.below HbV.out (Nat.le_refl _)).off hg7 (Off19.of HF.out (by omega))
      have hC7 : LetsAt wr (.slice AC nC cC) C := (HC.out.below HbV.out (Nat.le_refl _)).off hg7 (Off19.of HC.out (by omega))
      have hVs : lb < V.heap.size := HLV.out.lt
      have xb_lt : Hid (xb < wr.heap.size) := Lib.hid hx7.lt
      have xb_fz : Hid (∀ W, Below wr.heap.size wr W → W.frozen? ⟨xb, 2, none⟩ = false) := Lib.hid (fun W hW => (hx7.below hW hx7.lt).free 2)
      have HKS : Hid (∀ W, Below wr.heap.size wr W → W.cell? ⟨xb, 2, none⟩ = some (.slice AF nF cF) ∧ W.cell? ⟨lb, 0, none⟩ = some (.int .i64 a) ∧ W.cell? ⟨lb, 1, none⟩ = some (.int .i64 c) ∧ W.cell? ⟨lb, 2, none⟩ = some (.int .i64 cnt) ∧ W.cell? ⟨lb, 3, none⟩ = some (.string x)) :=
        Lib.hid (fun W hW => ⟨(hx7.below hW hx7.lt).cell 2, (hl7.below hW hl7.lt).cell 0, (hl7.below hW hl7.lt).cell 1, (hl7.below hW hl7.lt).cell 2, (hl7.below hW hl7.lt).cell 3⟩)
      have HFR : Hid (RowAt wr 4 (.slice AF nF cF) nF (letsC F)) := Lib.hid (by have := hF7.row; rw [HNF.out] at this; exact this)
      have HX7 := Lib.hid hx7; have HZ7 := Lib.hid hz7; have HB7 := Lib.hid hb7; have HS7 := Lib.hid hf7; have HC7 := Lib.hid hC7; have HO7 := Lib.hid ho7; have HVS := Lib.hid hVs
      clear hg7 hx7 hf7 ho7 hz7 hl7 hb7 hF7 hC7 n1 n2 n3 n4 n5 n6 hVs
      go_upto_region 11 with fail
      go_cut [] (fun wx => AppCut wr xb 2 nF (F ++ [⟨a, c, cnt, x⟩]) wx)
      case first =>
        refine region_app2 [1, 2, 4] 8 (by kernel_rfl) (by kernel_rfl) (fun W => W.cell? ⟨xb, 2, none⟩ = some (.slice AF nF cF) ∧ W.cell? ⟨lb, 0, none⟩ = some (.int .i64 a) ∧ W.cell? ⟨lb, 1, none⟩ = some (.int .i64 c) ∧ W.cell? ⟨lb, 2, none⟩ = some (.int .i64 cnt) ∧ W.cell? ⟨lb, 3, none⟩ = some (.string x)) (HKS.out _ (below_drewN' (Below.refl _ _) 1)) (by kernel_rfl) (by kernel_rfl) ?_
        refine ⟨({ dst := some 84, op := Op.fieldAddr 33 (Operand.tmp 2) 2, type := 0, pos := "ref.go:35", after := #[], guard := none } : Oper), ?vd1, rfl, Or.inl ⟨by rfl, ?hyd1⟩, fun _ _ _ h => h, ?restd1⟩
        case hyd1 => (intro w' hSw; obtain ⟨s1, s2, s3, s4, s5⟩ := hSw; go_simp; try with_reducible rfl)
        try simp only [Act.put, List.setIfInBounds_toArray, List.set_cons_zero, List.set_cons_succ]
        refine ⟨({ dst := some 85, op := Op.load 31 (Operand.tmp 84), type := 31, pos := "ref.go:35", after := #[{ on := 1, ground := Ground.data }], guard := none } : Oper), ?vd2, rfl, Or.inl ⟨by rfl, ?hyd2⟩, fun _ _ _ h => h, ?restd2⟩
        case hyd2 => (intro w' hSw; obtain ⟨s1, s2, s3, s4, s5⟩ := hSw; go_simp; try with_reducible rfl)
        try simp only [Act.put, List.setIfInBounds_toArray, List.set_cons_zero, List.set_cons_succ]
        refine ⟨({ dst := some 87, op := Op.load 62 (Operand.tmp 6), type := 62, pos := "ref.go:35", after := #[], guard := none } : Oper), ?vd4, rfl, Or.inl ⟨by rfl, ?hyd4⟩, fun _ _ _ h => h, ?restd4⟩
        case hyd4 => (intro w' hSw; obtain ⟨s1, s2, s3, s4, s5⟩ := hSw; go_simp; try with_reducible rfl)
        try simp only [Act.put, List.setIfInBounds_toArray, List.set_cons_zero, List.set_cons_succ]
        refine reads_nil ?_
        refine until_app2 (R := [1, 2, 4]) (oe := ({ dst := some 83, op := Op.buildSlice 31 0 #[], type := 31, pos := "ref.go:35", after := #[], guard := none } : Oper)) (oa := ({ dst := some 86, op := Op.call { callee := Callee.builtin Builtin.append, args := #[Operand.tmp 83, Operand.tmp 85], argTypes := #[31, 31] }, type := 31, pos := "ref.go:35", after := #[{ on := 0, ground := Ground.data }, { on := 2, ground := Ground.data }], guard := none } : Oper)) (ol := ({ dst := some 88, op := Op.buildSlice 31 1 #[(0, Operand.tmp 87)], type := 31, pos := "ref.go:35", after := #[{ on := 4, ground := Ground.data }], guard := none } : Oper)) (ob := ({ dst := some 89, op := Op.call { callee := Callee.builtin Builtin.append, args := #[Operand.tmp 86, Operand.tmp 88], argTypes := #[31, 31] }, type := 31, pos := "ref.go:35", after := #[{ on := 3, ground := Ground.data }, { on := 5, ground := Ground.data }, { on := 3, ground := Ground.chain }], guard := none } : Oper)) (oj := ({ dst := some 90, op := Op.fieldAddr 33 (Operand.tmp 2) 2, type := 0, pos := "ref.go:35", after := #[{ on := 0, ground := Ground.phase }, { on := 1, ground := Ground.phase }, { on := 2, ground := Ground.phase }, { on := 3, ground := Ground.phase }, { on := 4, ground := Ground.phase }, { on := 5, ground := Ground.phase }, { on := 6, ground := Ground.phase }], guard := none } : Oper)) (ok := ({ dst := none, op := Op.store 31 (Operand.tmp 90) (Operand.tmp 89), type := 0, pos := "ref.go:35", after := #[{ on := 7, ground := Ground.data }, { on := 6, ground := Ground.data }, { on := 6, ground := Ground.chain }, { on := 0, ground := Ground.phase }, { on := 1, ground := Ground.phase }, { on := 2, ground := Ground.phase }, { on := 3, ground := Ground.phase }, { on := 4, ground := Ground.phase }, { on := 5, ground := Ground.phase }, { on := 6, ground := Ground.phase }], guard := none } : Oper)) (ie := 0) (ia := 3) (il := 5) (ib := 6) (ij := 7) (ik := 8) (de := 83) (da := 86) (dl := 88) (tx := 85) (ty := 87) (dbo := some 89) (by kernel_rfl) rfl rfl rfl rfl rfl rfl rfl rfl rfl rfl rfl rfl 31 62 i0 (letV letZ) 4 40 Tryd.underlying31 hi0 hz0 hz1 hz2 rfl (by decide) (by decide) rfl rfl rfl rfl rfl rfl rfl rfl (by decide) (by decide) (by decide) (by decide) (by decide) (by decide) ?zde ?zda ?zdl (u := .slice AF nF cF) (y := .agg #[.int .i64 a, .int .i64 c, .int .i64 cnt, .string x]) (m := nF) (cs := letsC F) (ys := letC ⟨a, c, cnt, x⟩) ?hx ?hy ?hu (letsC_cell _) (letC_cell _) rfl (by have := HF1.out; omega) slice0_19 (fun W => slice1_19 W _ _ _ _) (fun W hW => HKS.out W (below_of_drew hW)) ?fin rfl
        case zde => exact (show 83 < 162 by decide)
        case zda => exact (show 86 < 162 by decide)
        case zdl => exact (show 88 < 162 by decide)
        case hx => rfl
        case hy => rfl
        case hu => exact RowAt.drew HFR.out
        case fin =>
        simp only [Act.put, List.setIfInBounds_toArray, List.set_cons_zero, List.set_cons_succ]
        intro ve va vl A' c' w' ho hb
        refine wp_bare (fun K hK => ?_)
        have hwx := AppTo.of (j := 2) (L := F ++ [⟨a, c, cnt, x⟩]) (W0 := wr) (xb_lt.out) (by rw [letsC_app, letsC_one]; exact ho) (below_of_drew hb)
        have HWX := Lib.hid hwx; have HKW := Lib.hid (HKS.out w' (below_of_drew hb))
        have s1 := (HKS.out w' (below_of_drew hb)).1
        have s2 := xb_fz.out w' (below_of_drew hb)
        clear ho hb hwx
        go_simp
        refine hK.out _ _ ⟨HKW.out, ?_⟩
        refine wp_bare (fun K hK => ?_)
        go_simp
        refine hK.out _ _ ?_
        go_wp2_with fail
        go_meet
        exact ⟨_, rfl, HWX.out⟩
      case rest =>
      obtain ⟨wq, rfl, A8, c8, hg8, hx8, hf8, ho8⟩ := hcut
      have hx8 := hx8 _ HX7.out
      have n1 := HXB.out; have n2 := HYB.out; have n3 := HZB.out; have n4 := HS3.out; have n5 := HLB.out; have n6 := HS4.out; have n7 := HVS.out; have n8 := HZ7.out.lt
      have hz8 := HZ7.out.grown hg8 (by intro e; injection e with e; omega)
      have hb8 : Below w.heap.size w wq := HB7.out.trans (Below.ofGrown hg8 (by omega) xb_lt.out)
      have hS8 : LetsAt wq (.slice A7 (j + 1) c7) (S ++ [⟨a, c, cnt, x⟩]) := HS7.out.off hg8 (Or.inr (fun e => by have := HO7.out _ e; omega))
      have hC8 : LetsAt wq (.slice AC nC cC) C := HC7.out.off hg8 (Off19.of HC.out (by omega))
      have hcm : sendR ⟨kk, S, F, C⟩ a c x = ⟨kk, S ++ [⟨a, c, cnt, x⟩], F ++ [⟨a, c, cnt, x⟩], C⟩ := by
        unfold sendR
        simp only [HCN.out]
      have hdone := done_refNet (m := ⟨kk, S ++ [⟨a, c, cnt, x⟩], F ++ [⟨a, c, cnt, x⟩], C⟩) (m0 := ⟨kk, S, F, C⟩) (code := 0) (oS := .slice AS j cS) (oF := .slice AF nF cF) hz8 ⟨rfl, hS8, hf8, hC8⟩ (Or.inr (fun e => by have := HO7.out _ e; omega)) (Or.inr (fun e => by have := ho8 _ e; omega)) (Off19.of HC.out (by omega)) hb8 (by omega) (Or.inr (fun g hg => by have := HO7.out _ hg; omega)) (Or.inr (fun g hg => by have := ho8 _ hg; have := HB7.out.size; omega)) (Or.inl ⟨rfl, rfl⟩)
      rw [← hcm] at hdone
      have c0 : wq.cell? ⟨xb, 0, none⟩ = some (.int .i64 kk) := hx8.cell 0
      have c1 : wq.cell? ⟨xb, 1, none⟩ = some (.slice A7 (j + 1) c7) := hx8.cell 1
      have c2 : wq.cell? ⟨xb, 2, none⟩ = some (.slice A8 (nF + 1) c8) := hx8.cell 2
      have c3 : wq.cell? ⟨xb, 3, none⟩ = some (.slice AC nC cC) := hx8.cell 3
      have z0 : wq.cell? ⟨zb, 0, none⟩ = some (.int .i64 0) := hz8.cell 0
      have z1 : wq.cell? ⟨zb, 1, none⟩ = some (.slice none 0 0) := hz8.cell 1
      have z2 : wq.cell? ⟨zb, 2, none⟩ = some (.slice none 0 0) := hz8.cell 2
      have z3 : wq.cell? ⟨zb, 3, none⟩ = some (.slice none 0 0) := hz8.cell 3
      have f0 : wq.frozen? ⟨zb, 0, none⟩ = false := hz8.free 0
      have f1 : wq.frozen? ⟨zb, 1, none⟩ = false := hz8.free 1
      have f2 : wq.frozen? ⟨zb, 2, none⟩ = false := hz8.free 2
      have f3 : wq.frozen? ⟨zb, 3, none⟩ = false := hz8.free 3
      have HD := Lib.hid hdone
      clear hg8 hx8 hf8 ho8 hz8 hb8 hS8 hC8 hdone hcm n1 n2 n3 n4 n5 n6 n7 n8
      go_wp2_with fail
      exact bodyPost_ret (results_refNet rfl _ _ _ _ _ _ _ (.int .i64 0) rfl rfl HD.out.1) rfl HD.out.2
end Go.Proofs.YtbecgfeoacncdaaDoor
