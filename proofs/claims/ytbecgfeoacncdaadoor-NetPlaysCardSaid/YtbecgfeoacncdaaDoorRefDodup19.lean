/- NetPlays: the document's Do: dup. -/
import Derived.Test.YtbecgfeoacncdaaDoorRefDo19
namespace Go.Proofs.YtbecgfeoacncdaaDoor
open Go.RowKit

set_option maxRecDepth 100000 in
set_option maxHeartbeats 4000000 in
theorem refDo_dup {w : World} {kk : Nat} {vS vF vC : Value} {S F C : List Let} (hS : LetsAt w vS S) (hF : LetsAt w vF F) (hC : LetsAt w vC C) {nS nF nC : Nat} (hnS : S.length = nS) (hnF : F.length = nF) (hnC : C.length = nC) (hF1 : nF ≤ 1000) (i : Nat) (l : Let) (hl : F[i]? = some l) (c : Int) (x : ByteArray) :
    Calls Tryd.prog 12 #[.agg #[.int .i64 kk, vS, vF, vC], .agg #[.int .i64 1, .int .i64 i, .int .i64 c, .string x]] w (DoR kk vS vF vC ⟨kk, S, F, C⟩ (dupR ⟨kk, S, F, C⟩ l) 0 w) := by
  obtain ⟨i0, hi0, hz0, hz1, hz2⟩ := info_parts Tryd.infoRefL
  have HS := Lib.hid hS; have HF := Lib.hid hF; have HC := Lib.hid hC
  obtain ⟨AS, cS, rfl, _⟩ := hS
  obtain ⟨AF, cF, rfl, _⟩ := hF
  obtain ⟨AC, cC, rfl, _⟩ := hC
  rw [hnS] at HS ⊢
  rw [hnF] at HF ⊢
  rw [hnC] at HC ⊢
  obtain ⟨W3, hW3⟩ : ∃ W, ((w.alloc (.cells #[.int .i64 kk, .slice AS nS cS, .slice AF nF cF, .slice AC nC cC] 33)).alloc (.cells #[.int .i64 1, .int .i64 i, .int .i64 c, .string x] 37)).alloc (.cells #[.int .i64 0, .slice none 0 0, .slice none 0 0, .slice none 0 0] 33) = W := ⟨_, rfl⟩
  obtain ⟨xb, hxb⟩ : ∃ b, w.heap.size = b := ⟨_, rfl⟩
  have hb3 : Below w.heap.size w W3 := by rw [← hW3]; exact (((Below.refl _ _).alloc (Nat.le_refl _) _).alloc (by rw [World.size_alloc]; omega) _).alloc (by rw [World.size_alloc, World.size_alloc]; omega) _
  have hx3 : Whole W3 xb 33 #[.int .i64 kk, .slice AS nS cS, .slice AF nF cF, .slice AC nC cC] := by rw [← hW3, ← hxb]; exact ((Whole.new w _ _).alloc _).alloc _
  have hy3 : Whole W3 (xb + 1) 37 #[.int .i64 1, .int .i64 i, .int .i64 c, .string x] := by
    have := (Whole.new (w.alloc (.cells #[.int .i64 kk, .slice AS nS cS, .slice AF nF cF, .slice AC nC cC] 33)) 37 #[.int .i64 1, .int .i64 i, .int .i64 c, .string x]).alloc (.cells #[.int .i64 0, .slice none 0 0, .slice none 0 0, .slice none 0 0] 33)
    rw [hW3, World.size_alloc, hxb] at this
    exact this
  have hz3 : Whole W3 (xb + 1 + 1) 33 #[.int .i64 0, .slice none 0 0, .slice none 0 0, .slice none 0 0] := by
    have := Whole.new ((w.alloc (.cells #[.int .i64 kk, .slice AS nS cS, .slice AF nF cF, .slice AC nC cC] 33)).alloc (.cells #[.int .i64 1, .int .i64 i, .int .i64 c, .string x] 37)) 33 #[.int .i64 0, .slice none 0 0, .slice none 0 0, .slice none 0 0]
    rw [hW3, World.size_alloc, World.size_alloc, hxb] at this
    exact this
  have hs3 : W3.heap.size = xb + 1 + 1 + 1 := by rw [← hW3, World.size_alloc, World.size_alloc, World.size_alloc, hxb]
  obtain ⟨yb, hyb⟩ : ∃ b, xb + 1 = b := ⟨_, rfl⟩
  rw [hyb] at hy3 hz3 hs3
  obtain ⟨zb, hzb⟩ : ∃ b, yb + 1 = b := ⟨_, rfl⟩
  rw [hzb] at hz3 hs3
  have HW3 := Lib.hid hW3; have HXB := Lib.hid hxb; have HYB := Lib.hid hyb; have HZB := Lib.hid hzb; have HB3 := Lib.hid hb3; have HX3 := Lib.hid hx3; have HY3 := Lib.hid hy3; have HZ3 := Lib.hid hz3; have HS3 := Lib.hid hs3; have HNF := Lib.hid hnF
  obtain ⟨lf, lt, ls, lx⟩ := l
  obtain ⟨hi, hl⟩ := List.getElem?_eq_some_iff.1 hl
  obtain ⟨fb, fo, rfl, d0, d1, d2, d3⟩ := (HF.out.below hb3 (Nat.le_refl _)).pos (i := i) hi
  rw [hl] at d0 d1 d2 d3
  simp only at d0 d1 d2 d3
  rw [hnF] at hi
  obtain ⟨W4, hW4⟩ : ∃ W, W3.alloc (.cells #[.int .i64 lf, .int .i64 lt, .int .i64 ls, .string lx] 62) = W := ⟨_, rfl⟩
  have hb4 : Below W3.heap.size W3 W4 := by rw [← hW4]; exact (Below.refl _ _).alloc (Nat.le_refl _) _
  obtain ⟨lb, hlb⟩ : ∃ b, W3.heap.size = b := ⟨_, rfl⟩
  have hl4 : Whole W4 lb 62 #[.int .i64 lf, .int .i64 lt, .int .i64 ls, .string lx] := by rw [← hW4, ← hlb]; exact Whole.new _ _ _
  have hx4 := hx3.below hb4 (by omega)
  have hy4 := hy3.below hb4 (by omega)
  have hz4 := hz3.below hb4 (by omega)
  have hs4 : W4.heap.size = lb + 1 := by rw [← hW4, World.size_alloc, hlb]
  have HF4 := Lib.hid ((HF.out.below hb3 (Nat.le_refl _)).below hb4 (Nat.le_refl _))
  have xb_lt : Hid (xb < W4.heap.size) := Lib.hid (by omega)
  have xb_fz : Hid (∀ W, Below W4.heap.size W4 W → W.frozen? ⟨xb, 2, none⟩ = false) := Lib.hid (fun W hW => (hx4.below hW (by omega)).free 2)
  have HKS : Hid (∀ W, Below W4.heap.size W4 W → W.cell? ⟨xb, 2, none⟩ = some (.slice (some ⟨fb, fo, none⟩) nF cF) ∧ W.cell? ⟨lb, 0, none⟩ = some (.int .i64 lf) ∧ W.cell? ⟨lb, 1, none⟩ = some (.int .i64 lt) ∧ W.cell? ⟨lb, 2, none⟩ = some (.int .i64 ls) ∧ W.cell? ⟨lb, 3, none⟩ = some (.string lx)) :=
    Lib.hid (fun W hW => ⟨(hx4.below hW (by omega)).cell 2, (hl4.below hW (by omega)).cell 0, (hl4.below hW (by omega)).cell 1, (hl4.below hW (by omega)).cell 2, (hl4.below hW (by omega)).cell 3⟩)
  have HFR : Hid (RowAt W4 4 (.slice (some ⟨fb, fo, none⟩) nF cF) nF (letsC F)) := Lib.hid (by have := HF4.out.row; rw [hnF] at this; exact this)
  have HFL : Hid (nF ≤ 1000) := Lib.hid hF1
  have HW4 := Lib.hid hW4; have HLB := Lib.hid hlb; have HB4 := Lib.hid hb4; have HL4 := Lib.hid hl4; have HX4 := Lib.hid hx4; have HZ4 := Lib.hid hz4; have HS4 := Lib.hid hs4
  have c1 : W3.cell? ⟨xb, 1, none⟩ = some (.slice AS nS cS) := hx3.cell 1
  have c2 : W3.cell? ⟨xb, 2, none⟩ = some (.slice (some ⟨fb, fo, none⟩) nF cF) := hx3.cell 2
  have k0 : W3.cell? ⟨yb, 0, none⟩ = some (.int .i64 1) := hy3.cell 0
  have k1 : W3.cell? ⟨yb, 1, none⟩ = some (.int .i64 i) := hy3.cell 1
  have k40 : W4.cell? ⟨yb, 0, none⟩ = some (.int .i64 1) := hy4.cell 0
  have t1 : decide ((i : Int) < 0) = false := decide_eq_false (by omega)
  have t2 : decide ((nF : Int) ≤ i) = false := decide_eq_false (by omega)
  have t2' : decide (nF ≤ i) = false := decide_eq_false (by omega)
  have j1 : (i : Int) < nF := by omega
  have j2 : (0 : Int) ≤ i := by omega
  clear hnS hnF hnC hW3 hxb hb3 hx3 hy3 hz3 hs3 hyb hzb hF1 hl hW4 hb4 hlb hl4 hx4 hy4 hz4 hs4
  go_enter Tryd.func12, Tryd.ntmps12
  go_upto_region 1 with fail
  rw [HW3.out, HXB.out, HYB.out, HZB.out]
  go_upto_region 16 with fail
  rw [HW4.out, HLB.out]
  clear c1 c2 k0 k1 d0 d1 d2 d3
  go_upto_region 17 with fail
  go_cut [] (fun wx => AppCut W4 xb 2 nF (F ++ [⟨lf, lt, ls, lx⟩]) wx)
  case first =>
    refine region_app2 [1, 2, 4] 8 (by kernel_rfl) (by kernel_rfl) (fun W => W.cell? ⟨xb, 2, none⟩ = some (.slice (some ⟨fb, fo, none⟩) nF cF) ∧ W.cell? ⟨lb, 0, none⟩ = some (.int .i64 lf) ∧ W.cell? ⟨lb, 1, none⟩ = some (.int .i64 lt) ∧ W.cell? ⟨lb, 2, none⟩ = some (.int .i64 ls) ∧ W.cell? ⟨lb, 3, none⟩ = some (.string lx)) (HKS.out _ (below_drewN' (Below.refl _ _) 1)) (by kernel_rfl) (by kernel_rfl) ?_
    refine ⟨({ dst := some 114, op := Op.fieldAddr 33 (Operand.tmp 2) 2, type := 0, pos := "ref.go:43", after := #[], guard := none } : Oper), ?va1, rfl, Or.inl ⟨by rfl, ?hya1⟩, fun _ _ _ h => h, ?resta1⟩
    case hya1 => (intro w' hSw; obtain ⟨s1, s2, s3, s4, s5⟩ := hSw; go_simp; try with_reducible rfl)
    try simp only [Act.put, List.setIfInBounds_toArray, List.set_cons_zero, List.set_cons_succ]
    refine ⟨({ dst := some 115, op := Op.load 31 (Operand.tmp 114), type := 31, pos := "ref.go:43", after := #[{ on := 1, ground := Ground.data }], guard := none } : Oper), ?va2, rfl, Or.inl ⟨by rfl, ?hya2⟩, fun _ _ _ h => h, ?resta2⟩
    case hya2 => (intro w' hSw; obtain ⟨s1, s2, s3, s4, s5⟩ := hSw; go_simp; try with_reducible rfl)
    try simp only [Act.put, List.setIfInBounds_toArray, List.set_cons_zero, List.set_cons_succ]
    refine ⟨({ dst := some 117, op := Op.load 62 (Operand.tmp 8), type := 62, pos := "ref.go:43", after := #[], guard := none } : Oper), ?va4, rfl, Or.inl ⟨by rfl, ?hya4⟩, fun _ _ _ h => h, ?resta4⟩
    case hya4 => (intro w' hSw; obtain ⟨s1, s2, s3, s4, s5⟩ := hSw; go_simp; try with_reducible rfl)
    try simp only [Act.put, List.setIfInBounds_toArray, List.set_cons_zero, List.set_cons_succ]
    refine reads_nil ?_
    refine until_app2 (R := [1, 2, 4]) (oe := ({ dst := some 113, op := Op.buildSlice 31 0 #[], type := 31, pos := "ref.go:43", after := #[], guard := none } : Oper)) (oa := ({ dst := some 116, op := Op.call { callee := Callee.builtin Builtin.append, args := #[Operand.tmp 113, Operand.tmp 115], argTypes := #[31, 31] }, type := 31, pos := "ref.go:43", after := #[{ on := 0, ground := Ground.data }, { on := 2, ground := Ground.data }], guard := none } : Oper)) (ol := ({ dst := some 118, op := Op.buildSlice 31 1 #[(0, Operand.tmp 117)], type := 31, pos := "ref.go:43", after := #[{ on := 4, ground := Ground.data }], guard := none } : Oper)) (ob := ({ dst := some 119, op := Op.call { callee := Callee.builtin Builtin.append, args := #[Operand.tmp 116, Operand.tmp 118], argTypes := #[31, 31] }, type := 31, pos := "ref.go:43", after := #[{ on := 3, ground := Ground.data }, { on := 5, ground := Ground.data }, { on := 3, ground := Ground.chain }], guard := none } : Oper)) (oj := ({ dst := some 120, op := Op.fieldAddr 33 (Operand.tmp 2) 2, type := 0, pos := "ref.go:43", after := #[{ on := 0, ground := Ground.phase }, { on := 1, ground := Ground.phase }, { on := 2, ground := Ground.phase }, { on := 3, ground := Ground.phase }, { on := 4, ground := Ground.phase }, { on := 5, ground := Ground.phase }, { on := 6, ground := Ground.phase }], guard := none } : Oper)) (ok := ({ dst := none, op := Op.store 31 (Operand.tmp 120) (Operand.tmp 119), type := 0, pos := "ref.go:43", after := #[{ on := 7, ground := Ground.data }, { on := 6, ground := Ground.data }, { on := 6, ground := Ground.chain }, { on := 0, ground := Ground.phase }, { on := 1, ground := Ground.phase }, { on := 2, ground := Ground.phase }, { on := 3, ground := Ground.phase }, { on := 4, ground := Ground.phase }, { on := 5, ground := Ground.phase }, { on := 6, ground := Ground.phase }], guard := none } : Oper)) (ie := 0) (ia := 3) (il := 5) (ib := 6) (ij := 7) (ik := 8) (de := 113) (da := 116) (dl := 118) (tx := 115) (ty := 117) (dbo := some 119) (by kernel_rfl) rfl rfl rfl rfl rfl rfl rfl rfl rfl rfl rfl rfl 31 62 i0 (letV letZ) 4 40 Tryd.underlying31 hi0 hz0 hz1 hz2 rfl (by decide) (by decide) rfl rfl rfl rfl rfl rfl rfl rfl (by decide) (by decide) (by decide) (by decide) (by decide) (by decide) ?zde ?zda ?zdl (u := .slice (some ⟨fb, fo, none⟩) nF cF) (y := .agg #[.int .i64 lf, .int .i64 lt, .int .i64 ls, .string lx]) (m := nF) (cs := letsC F) (ys := letC ⟨lf, lt, ls, lx⟩) ?hx ?hy ?hu (letsC_cell _) (letC_cell _) rfl (by have := HFL.out; omega) slice0_19 (fun W => slice1_19 W _ _ _ _) (fun W hW => HKS.out W (below_of_drew hW)) ?fin rfl
    case zde => exact (show 113 < 162 by decide)
    case zda => exact (show 116 < 162 by decide)
    case zdl => exact (show 118 < 162 by decide)
    case hx => rfl
    case hy => rfl
    case hu => exact RowAt.drew HFR.out
    case fin =>
    simp only [Act.put, List.setIfInBounds_toArray, List.set_cons_zero, List.set_cons_succ]
    intro ve va vl A' c' w' ho hb
    refine wp_bare (fun K hK => ?_)
    have hwx := AppTo.of (j := 2) (L := F ++ [⟨lf, lt, ls, lx⟩]) (W0 := W4) (xb_lt.out) (by rw [letsC_app, letsC_one]; exact ho) (below_of_drew hb)
    have HWX := Lib.hid hwx; have HKW := Lib.hid (HKS.out w' (below_of_drew hb))
    have s1 := (HKS.out w' (below_of_drew hb)).1
    have s2 := xb_fz.out w' (below_of_drew hb)
    clear ho hb hwx
    go_simp
    refine hK.out _ _ ⟨HKW.out, ?_⟩
    refine wp_bare (fun K hK => ?_)
    go_simp
    refine hK.out _ _ ?_
    go_wp2_with fail
    go_meet
    exact ⟨_, rfl, HWX.out⟩
  case rest =>
  obtain ⟨wr, rfl, A7, c7, hg7, hx7, hf7, ho7⟩ := hcut
  have hx7 := hx7 _ HX4.out
  have hz7 := HZ4.out.grown hg7 (by intro e; injection e with e; have := HYB.out; have := HZB.out; omega)
  have hb7 : Below w.heap.size w wr := HB3.out.trans ((HB4.out.mono (by have := HS3.out; have := HXB.out; have := HYB.out; have := HZB.out; omega)).trans (Below.ofGrown hg7 (by have := HXB.out; omega) xb_lt.out))
  have hoff : ∀ {v : Value} {S : List Let}, LetsAt w v S → LetsAt wr v S := fun {v S} h => ((h.below HB3.out (Nat.le_refl _)).below HB4.out (Nat.le_refl _)).off hg7 (Off19.of h (by have := HXB.out; omega))
  have hdone := done_refNet (m := dupR ⟨kk, S, F, C⟩ ⟨lf, lt, ls, lx⟩) (m0 := ⟨kk, S, F, C⟩) (code := 0) (oF := .slice (some ⟨fb, fo, none⟩) nF cF) hz7 ⟨rfl, hoff HS.out, hf7, hoff HC.out⟩ (Off19.of HS.out (by have := HXB.out; have := HYB.out; have := HZB.out; omega)) (Or.inr (fun e => by have := ho7 _ e; have := HS4.out; have := HS3.out; have := HLB.out; have := HYB.out; have := HZB.out; omega)) (Off19.of HC.out (by have := HXB.out; have := HYB.out; have := HZB.out; omega)) hb7 (by have := HXB.out; have := HYB.out; have := HZB.out; omega) (Or.inl ⟨rfl, rfl⟩) (Or.inr (fun g hg => by have := ho7 _ hg; have := HXB.out; have := HS4.out; have := HS3.out; have := HLB.out; have := HYB.out; have := HZB.out; omega)) (Or.inl ⟨rfl, rfl⟩)
  have c0 : wr.cell? ⟨xb, 0, none⟩ = some (.int .i64 kk) := hx7.cell 0
  have c1 : wr.cell? ⟨xb, 1, none⟩ = some (.slice AS nS cS) := hx7.cell 1
  have c2 : wr.cell? ⟨xb, 2, none⟩ = some (.slice A7 (nF + 1) c7) := hx7.cell 2
  have c3 : wr.cell? ⟨xb, 3, none⟩ = some (.slice AC nC cC) := hx7.cell 3
  have z0 : wr.cell? ⟨zb, 0, none⟩ = some (.int .i64 0) := hz7.cell 0
  have z1 : wr.cell? ⟨zb, 1, none⟩ = some (.slice none 0 0) := hz7.cell 1
  have z2 : wr.cell? ⟨zb, 2, none⟩ = some (.slice none 0 0) := hz7.cell 2
  have z3 : wr.cell? ⟨zb, 3, none⟩ = some (.slice none 0 0) := hz7.cell 3
  have f0 : wr.frozen? ⟨zb, 0, none⟩ = false := hz7.free 0
  have f1 : wr.frozen? ⟨zb, 1, none⟩ = false := hz7.free 1
  have f2 : wr.frozen? ⟨zb, 2, none⟩ = false := hz7.free 2
  have f3 : wr.frozen? ⟨zb, 3, none⟩ = false := hz7.free 3
  have HDONE := Lib.hid hdone
  clear hg7 hx7 hf7 ho7 hz7 hb7 hoff hdone
  go_wp2_with fail
  exact bodyPost_ret (results_refNet rfl _ _ _ _ _ _ _ (.int .i64 0) rfl rfl HDONE.out.1) rfl HDONE.out.2
end Go.Proofs.YtbecgfeoacncdaaDoor
