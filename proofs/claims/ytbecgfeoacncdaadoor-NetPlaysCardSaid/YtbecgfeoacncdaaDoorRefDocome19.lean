/- NetPlays: the document's Do: come. -/
import Derived.Test.YtbecgfeoacncdaaDoorRefDo19
namespace Go.Proofs.YtbecgfeoacncdaaDoor
open Go.RowKit

theorem sl_pre2 (g o m c k : Nat) (hk : k ≤ c) (W : World) : (Instr.slice 31 (.slice (some ⟨g, o, none⟩) m c) none (some (.int .i64 k)) none).run Tryd.prog W = .ok (.slice (some ⟨g, o, none⟩) k c) W := by
  rw [run_slice_h (P := Tryd.prog) W 31 (some ⟨g, o, none⟩) m c (by kernel_rfl) .i64 k (by omega) (by omega)]
  have e : Tryd.prog.elem 31 = 62 := by kernel_rfl
  rw [e]
  simp [go_sem, sliced, Addr.add]
theorem sl_suf2 (g o m c k : Nat) (hk : k + 1 ≤ m) :
    ∃ u, (∀ W, (Instr.slice 31 (.slice (some ⟨g, o, none⟩) m c) (some (.int .i64 ((k : Int) + 1))) none none).run Tryd.prog W = .ok u W) ∧
      if c = k + 1 then u = .slice (some ⟨g, o, none⟩) (m - (k + 1)) (c - (k + 1)) else u = .slice (some ⟨g, o + (k + 1) * 4, none⟩) (m - (k + 1)) (c - (k + 1)) := by
  refine ⟨sliced (some ⟨g, o, none⟩) (k + 1) m c 4, fun W => ?_, ?_⟩
  · rw [run_slice_l (P := Tryd.prog) W 31 (some ⟨g, o, none⟩) m c (by kernel_rfl) .i64 ((k : Int) + 1) (by omega) (by omega)]
    have e : Tryd.prog.elem 31 = 62 := by kernel_rfl
    rw [e, show ((k : Int) + 1).toNat = k + 1 by omega]
    simp [go_sem]
  · by_cases hc : c = k + 1
    · simp [sliced, hc]
    · simp only [sliced, hc, if_false, Option.map_some, addr_plus']
/-- The two appends that leave a letter out. -/
theorem come_runs {W : World} {g o n c i q : Nat} {F : List Let} (h : LetsAt W (.slice (some ⟨g, o, none⟩) n c) F) (hn : F.length = n) (hn1 : n ≤ 1000) (hi : i < n) (hq : i + (n - (i + 1)) = q) :
    ∃ A4 c4 w4 A5 c5 w5,
      (Builtin.append_ #[31, 31] 31 #[.slice (some ⟨W.heap.size, 0, none⟩) 0 0, .slice (some ⟨g, o, none⟩) i c]).run Tryd.prog (W.alloc (.cells #[] 62)) = .ok (.slice A4 i c4) w4 ∧
      (∃ u, (∀ V, (Instr.slice 31 (.slice (some ⟨g, o, none⟩) n c) (some (.int .i64 ((i : Int) + 1))) none none).run Tryd.prog V = .ok u V) ∧
        (Builtin.append_ #[31, 31] 31 #[.slice A4 i c4, u]).run Tryd.prog w4 = .ok (.slice A5 q c5) w5) ∧
      (∀ V, (Instr.slice 31 (.slice (some ⟨g, o, none⟩) n c) none (some (.int .i64 i)) none).run Tryd.prog V = .ok (.slice (some ⟨g, o, none⟩) i c) V) ∧
      w5.ownsRow W.heap.size 62 4 (.slice A5 q c5) q (letsC (F.take i ++ F.drop (i + 1))) ∧ Below W.heap.size W w4 ∧ Below W.heap.size W w5 := by
  obtain ⟨i0, hi0, hz0, hz1, hz2⟩ := info_parts Tryd.infoRefL
  obtain ⟨_, _, hf, hnc, _⟩ := id h
  injection hf with _ hf2 hf3
  subst hf3
  have hb1 : Below W.heap.size W (W.alloc (.cells #[] 62)) := (Below.refl _ _).alloc (Nat.le_refl _) _
  have ho1 : (W.alloc (.cells #[] 62)).ownsRow W.heap.size 62 4 (.slice (some ⟨W.heap.size, 0, none⟩) 0 0) 0 [] := World.ownsRow_lit (size := 4) W #[] 0 (Nat.le_refl _) (by decide) (by simp)
  obtain ⟨A4, c4, w4, hr4, ho4, hg4⟩ := run_appRow (P := Tryd.prog) _ 31 31 62 W.heap.size i0 (letV letZ) 4 40 Tryd.underlying31 hi0 hz0 hz1 hz2 rfl (by decide) (by decide) _ 0 [] ho1 (.slice (some ⟨g, o, none⟩) i c) i (letsC (F.take i))
    ((h.take (by omega) c).below hb1 (Nat.le_refl _)) (letsC_cell _) (by omega) hb1.size
  rw [Nat.zero_add, List.nil_append] at ho4
  rw [Nat.zero_add] at hr4
  have hb4 : Below W.heap.size W w4 := hb1.grown hg4 hb1.size (fun q hq => (ho1.lt q hq).1)
  obtain ⟨u, hu1, hu2⟩ := sl_suf2 g o n c i (by omega)
  have hne : F ≠ [] := by
    intro e
    rw [e] at hn
    simp at hn
    omega
  have hrow : RowAt w4 4 u (n - (i + 1)) (letsC (F.drop (i + 1))) := by
    by_cases hc : c = i + 1
    · rw [if_pos hc] at hu2
      have h0 : n - (i + 1) = 0 := by omega
      rw [hu2, h0, List.drop_of_length_le (by omega)]
      exact RowAt.none _ _ _ _
    · rw [if_neg hc] at hu2
      have hd := (h.drop (k := i + 1) (by omega) hne (c - (i + 1))).below hb4 (Nat.le_refl _)
      rw [hn] at hd
      rw [hu2]
      exact hd
  obtain ⟨A5, c5, w5, hr5, ho5, hg5⟩ := run_appRow (P := Tryd.prog) w4 31 31 62 W.heap.size i0 (letV letZ) 4 40 Tryd.underlying31 hi0 hz0 hz1 hz2 rfl (by decide) (by decide) _ i _ ho4 u (n - (i + 1)) (letsC (F.drop (i + 1))) hrow (letsC_cell _) (by omega) hb4.size
  rw [hq] at hr5 ho5
  have hb5 : Below W.heap.size W w5 := hb4.grown hg5 hb4.size (fun q hq => (ho4.lt q hq).1)
  exact ⟨A4, c4, w4, A5, c5, w5, hr4, ⟨u, hu1, hr5⟩, sl_pre2 g o n c i (by omega), by rw [letsC_app]; exact ho5, hb4, hb5⟩
set_option maxRecDepth 100000 in
set_option maxHeartbeats 4000000 in
theorem refDo_come {w : World} {kk : Nat} {vS vF vC : Value} {S F C : List Let} (hS : LetsAt w vS S) (hF : LetsAt w vF F) (hC : LetsAt w vC C) {nS nF nC : Nat} (hnS : S.length = nS) (hnF : F.length = nF) (hnC : C.length = nC) (hF1 : nF ≤ 1000) (hC1 : nC ≤ 1000) (i : Nat) (l : Let) (hl : F[i]? = some l) (kind : Int) (hk0 : kind ≠ 0) (hk1 : kind ≠ 1) (c : Int) (x : ByteArray) :
    Calls Tryd.prog 12 #[.agg #[.int .i64 kk, vS, vF, vC], .agg #[.int .i64 kind, .int .i64 i, .int .i64 c, .string x]] w (DoR kk vS vF vC ⟨kk, S, F, C⟩ (comeR ⟨kk, S, F, C⟩ i l) 0 w) := by
  obtain ⟨i0, hi0, hz0, hz1, hz2⟩ := info_parts Tryd.infoRefL
  have HS := Lib.hid hS; have HF := Lib.hid hF; have HC := Lib.hid hC
  obtain ⟨AS, cS, rfl, _⟩ := hS
  obtain ⟨AF, cF, rfl, _⟩ := hF
  obtain ⟨AC, cC, rfl, _⟩ := hC
  rw [hnS] at HS ⊢
  rw [hnF] at HF ⊢
  rw [hnC] at HC ⊢
  obtain ⟨W3, hW3⟩ : ∃ W, ((w.alloc (.cells #[.int .i64 kk, .slice AS nS cS, .slice AF nF cF, .slice AC nC cC] 33)).alloc (.cells #[.int .i64 kind, .int .i64 i, .int .i64 c, .string x] 37)).alloc (.cells #[.int .i64 0, .slice none 0 0, .slice none 0 0, .slice none 0 0] 33) = W := ⟨_, rfl⟩
  obtain ⟨xb, hxb⟩ : ∃ b, w.heap.size = b := ⟨_, rfl⟩
  have hb3 : Below w.heap.size w W3 := by rw [← hW3]; exact (((Below.refl _ _).alloc (Nat.le_refl _) _).alloc (by rw [World.size_alloc]; omega) _).alloc (by rw [World.size_alloc, World.size_alloc]; omega) _
  have hx3 : Whole W3 xb 33 #[.int .i64 kk, .slice AS nS cS, .slice AF nF cF, .slice AC nC cC] := by rw [← hW3, ← hxb]; exact ((Whole.new w _ _).alloc _).alloc _
  have hy3 : Whole W3 (xb + 1) 37 #[.int .i64 kind, .int .i64 i, .int .i64 c, .string x] := by
    have := (Whole.new (w.alloc (.cells #[.int .i64 kk, .slice AS nS cS, .slice AF nF cF, .slice AC nC cC] 33)) 37 #[.int .i64 kind, .int .i64 i, .int .i64 c, .string x]).alloc (.cells #[.int .i64 0, .slice none 0 0, .slice none 0 0, .slice none 0 0] 33)
    rw [hW3, World.size_alloc, hxb] at this
    exact this
  have hz3 : Whole W3 (xb + 1 + 1) 33 #[.int .i64 0, .slice none 0 0, .slice none 0 0, .slice none 0 0] := by
    have := Whole.new ((w.alloc (.cells #[.int .i64 kk, .slice AS nS cS, .slice AF nF cF, .slice AC nC cC] 33)).alloc (.cells #[.int .i64 kind, .int .i64 i, .int .i64 c, .string x] 37)) 33 #[.int .i64 0, .slice none 0 0, .slice none 0 0, .slice none 0 0]
    rw [hW3, World.size_alloc, World.size_alloc, hxb] at this
    exact this
  have hs3 : W3.heap.size = xb + 1 + 1 + 1 := by rw [← hW3, World.size_alloc, World.size_alloc, World.size_alloc, hxb]
  obtain ⟨yb, hyb⟩ : ∃ b, xb + 1 = b := ⟨_, rfl⟩
  rw [hyb] at hy3 hz3 hs3
  obtain ⟨zb, hzb⟩ : ∃ b, yb + 1 = b := ⟨_, rfl⟩
  rw [hzb] at hz3 hs3
  have HW3 := Lib.hid hW3; have HXB := Lib.hid hxb; have HYB := Lib.hid hyb; have HZB := Lib.hid hzb; have HB3 := Lib.hid hb3; have HX3 := Lib.hid hx3; have HY3 := Lib.hid hy3; have HZ3 := Lib.hid hz3; have HS3 := Lib.hid hs3; have HNF := Lib.hid hnF
  obtain ⟨lf, lt, ls, lx⟩ := l
  obtain ⟨hi, hl⟩ := List.getElem?_eq_some_iff.1 hl
  obtain ⟨fb, fo, rfl, d0, d1, d2, d3⟩ := (HF.out.below hb3 (Nat.le_refl _)).pos (i := i) hi
  rw [hl] at d0 d1 d2 d3
  simp only at d0 d1 d2 d3
  rw [hnF] at hi
  obtain ⟨W4, hW4⟩ : ∃ W, W3.alloc (.cells #[.int .i64 lf, .int .i64 lt, .int .i64 ls, .string lx] 62) = W := ⟨_, rfl⟩
  have hb4 : Below W3.heap.size W3 W4 := by rw [← hW4]; exact (Below.refl _ _).alloc (Nat.le_refl _) _
  obtain ⟨lb, hlb⟩ : ∃ b, W3.heap.size = b := ⟨_, rfl⟩
  have hl4 : Whole W4 lb 62 #[.int .i64 lf, .int .i64 lt, .int .i64 ls, .string lx] := by rw [← hW4, ← hlb]; exact Whole.new _ _ _
  have hx4 := hx3.below hb4 (by omega)
  have hy4 := hy3.below hb4 (by omega)
  have hz4 := hz3.below hb4 (by omega)
  have hs4 : W4.heap.size = lb + 1 := by rw [← hW4, World.size_alloc, hlb]
  have HF4 := Lib.hid ((HF.out.below hb3 (Nat.le_refl _)).below hb4 (Nat.le_refl _))
  have xb_lt0 : Hid (xb < W4.heap.size) := Lib.hid (by omega)
  have xb_fz0 : Hid (∀ W, Below W4.heap.size W4 W → W.frozen? ⟨xb, 2, none⟩ = false) := Lib.hid (fun W hW => (hx4.below hW (by omega)).free 2)
  have HKS0 : Hid (∀ W, Below W4.heap.size W4 W → W.cell? ⟨xb, 2, none⟩ = some (.slice (some ⟨fb, fo, none⟩) nF cF) ∧ W.cell? ⟨lb, 0, none⟩ = some (.int .i64 lf) ∧ W.cell? ⟨lb, 1, none⟩ = some (.int .i64 lt) ∧ W.cell? ⟨lb, 2, none⟩ = some (.int .i64 ls) ∧ W.cell? ⟨lb, 3, none⟩ = some (.string lx)) :=
    Lib.hid (fun W hW => ⟨(hx4.below hW (by omega)).cell 2, (hl4.below hW (by omega)).cell 0, (hl4.below hW (by omega)).cell 1, (hl4.below hW (by omega)).cell 2, (hl4.below hW (by omega)).cell 3⟩)
  have HFR0 : Hid (RowAt W4 4 (.slice (some ⟨fb, fo, none⟩) nF cF) nF (letsC F)) := Lib.hid (by have := HF4.out.row; rw [hnF] at this; exact this)
  have HW4 := Lib.hid hW4; have HLB := Lib.hid hlb; have HB4 := Lib.hid hb4; have HL4 := Lib.hid hl4; have HX4 := Lib.hid hx4; have HZ4 := Lib.hid hz4; have HS4 := Lib.hid hs4; have HNC := Lib.hid hnC
  obtain ⟨q, hq⟩ : ∃ q, i + (nF - (i + 1)) = q := ⟨_, rfl⟩
  have hF4 := HF4.out
  obtain ⟨A4, c4, w4, A5, c5, w5, r4, ⟨u, r7, r5⟩, r8, ho5, hb45, hb5⟩ := come_runs hF4 hnF hF1 hi hq
  have HR4 := Lib.hid r4; have HR5 := Lib.hid r5
  have c1 : W3.cell? ⟨xb, 1, none⟩ = some (.slice AS nS cS) := hx3.cell 1
  have c2 : W3.cell? ⟨xb, 2, none⟩ = some (.slice (some ⟨fb, fo, none⟩) nF cF) := hx3.cell 2
  have k0 : W3.cell? ⟨yb, 0, none⟩ = some (.int .i64 kind) := hy3.cell 0
  have k1 : W3.cell? ⟨yb, 1, none⟩ = some (.int .i64 i) := hy3.cell 1
  have k40 : W4.cell? ⟨yb, 0, none⟩ = some (.int .i64 kind) := hy4.cell 0
  have k41 : W4.cell? ⟨yb, 1, none⟩ = some (.int .i64 i) := hy4.cell 1
  have c42 : W4.cell? ⟨xb, 2, none⟩ = some (.slice (some ⟨fb, fo, none⟩) nF cF) := hx4.cell 2
  have k51 : w4.cell? ⟨yb, 1, none⟩ = some (.int .i64 i) := (hy4.below hb45 (by omega)).cell 1
  have c52 : w4.cell? ⟨xb, 2, none⟩ = some (.slice (some ⟨fb, fo, none⟩) nF cF) := (hx4.below hb45 (by omega)).cell 2
  have hx5 := hx4.below hb5 (by omega)
  have g52 : w5.cell? ⟨xb, 2, none⟩ = some (.slice (some ⟨fb, fo, none⟩) nF cF) := hx5.cell 2
  have g5f : w5.frozen? ⟨xb, 2, none⟩ = false := hx5.free 2
  obtain ⟨W6, hW6⟩ : ∃ W, w5.setCell ⟨xb, 2, none⟩ (.slice A5 q c5) = W := ⟨_, rfl⟩
  have hg6 : W4.grownBy W6 (some xb) := by
    have h1 : W4.grownBy w5 (some xb) := ⟨hb5.os, hb5.tape, hb5.output, hb5.size, fun i hi _ => hb5.block i hi⟩
    have h2 := grown_cell w5 xb 2 (.slice A5 q c5)
    rw [hW6] at h2
    exact ⟨h2.os.trans h1.os, h2.tape.trans h1.tape, h2.output.trans h1.output, Nat.le_trans h1.size h2.size, fun i hi hne => (h2.block i (Nat.lt_of_lt_of_le hi h1.size) hne).trans (h1.block i hi hne)⟩
  have hx6 : Whole W6 xb 33 #[.int .i64 kk, .slice AS nS cS, .slice A5 q c5, .slice AC nC cC] := by rw [← hW6]; exact hx5.put 2 _
  have hz6 := hz4.grown hg6 (by intro e; injection e with e; omega)
  have hl6 := hl4.grown hg6 (by intro e; injection e with e; omega)
  have hown5 : ∀ g, (Value.slice A5 q c5).ownBlock = some g → W4.heap.size ≤ g := fun g hg => (ho5.lt g hg).1
  have hf6 : LetsAt W6 (.slice A5 q c5) (F.take i ++ F.drop (i + 1)) := by
    rw [← hW6]
    exact (own_lets ho5).put (Or.inr (fun e => by have := hown5 _ e; omega)) _ _
  have hb6 : Below w.heap.size w W6 := hb3.trans ((hb4.mono (by omega)).trans (Below.ofGrown hg6 (by omega) (by omega)))
  have hoff : ∀ {v : Value} {S : List Let}, LetsAt w v S → LetsAt W6 v S := fun {v S} h => ((h.below hb3 (Nat.le_refl _)).below hb4 (Nat.le_refl _)).off hg6 (Off19.of h (by omega))
  have hC6 := hoff HC.out
  have HC6 := Lib.hid hC6; have HF6 := Lib.hid hf6; have HS6 := Lib.hid (hoff HS.out); have HB6 := Lib.hid hb6; have HX6 := Lib.hid hx6; have HZ6 := Lib.hid hz6; have HL6 := Lib.hid hl6; have HOWN := Lib.hid hown5; have HW6 := Lib.hid hW6
  have HSZ6 : Hid (W4.heap.size ≤ W6.heap.size) := Lib.hid hg6.size
  have HDONE : Hid (∀ W, Below W6.heap.size W6 W → inC C ⟨lf, lt, ls, lx⟩ = true → _ ∧ DoR kk (.slice AS nS cS) (.slice (some ⟨fb, fo, none⟩) nF cF) (.slice AC nC cC) ⟨kk, S, F, C⟩ (comeR ⟨kk, S, F, C⟩ i ⟨lf, lt, ls, lx⟩) 0 w _ _) := Lib.hid (fun W hW hin => by
    have hcm : comeR ⟨kk, S, F, C⟩ i ⟨lf, lt, ls, lx⟩ = ⟨kk, S, F.take i ++ F.drop (i + 1), C⟩ := by
      unfold comeR
      rw [if_pos hin]
    rw [hcm]
    exact done_refNet (m := ⟨kk, S, F.take i ++ F.drop (i + 1), C⟩) (m0 := ⟨kk, S, F, C⟩) (code := 0) (oF := .slice (some ⟨fb, fo, none⟩) nF cF) (zb := zb) (HZ6.out.below hW (by have := HZ6.out.lt; exact this)) ⟨rfl, HS6.out.below hW (Nat.le_refl _), HF6.out.below hW (Nat.le_refl _), HC6.out.below hW (Nat.le_refl _)⟩ (Off19.of HS.out (by omega)) (Or.inr (fun e => by have := HOWN.out _ e; omega)) (Off19.of HC.out (by omega)) (hb6.trans (hW.mono hb6.size)) (by omega) (Or.inl ⟨rfl, rfl⟩) (Or.inr (fun g hg => by have := HOWN.out _ hg; omega)) (Or.inl ⟨rfl, rfl⟩))
  have t0 : (kind == 0) = false := by simpa using hk0
  have t0' : decide (kind = 0) = false := decide_eq_false hk0
  have t01 : (kind == 1) = false := by simpa using hk1
  have t01' : decide (kind = 1) = false := decide_eq_false hk1
  have t1 : decide ((i : Int) < 0) = false := decide_eq_false (by omega)
  have t2 : decide ((nF : Int) ≤ i) = false := decide_eq_false (by omega)
  have t2' : decide (nF ≤ i) = false := decide_eq_false (by omega)
  have j1 : (i : Int) < nF := by omega
  have j2 : (0 : Int) ≤ i := by omega
  have hxl : xb < W4.heap.size := by omega
  have hyl : yb < W4.heap.size := by omega
  have sw : IntKind.i64.wrap ((i : Int) + 1) = (i : Int) + 1 := by rw [IntKind.wrap_i64] <;> omega
  clear hnS hnF hnC hW3 hxb hb3 hx3 hy3 hz3 hs3 hyb hzb hF1 hl hW4 hb4 hlb hl4 hx4 hy4 hz4 hs4 hq hF4 r4 r5 ho5 hb45 hb5 hx5 hW6 hg6 hx6 hz6 hl6 hown5 hf6 hb6 hoff hC6 hk0 hk1
  go_enter Tryd.func12, Tryd.ntmps12
  go_upto_region 1 with fail
  rw [HW3.out, HXB.out, HYB.out, HZB.out]
  go_upto_region 16 with fail
  rw [HW4.out, HLB.out]
  clear c1 c2 k0 k1 d0 d1 d2 d3 j1 j2
  go_wp2_with (at_builtin; refine wpList_app_stop (v := .slice (some ⟨W4.heap.size, 0, none⟩) 0 0) (u := .slice (some ⟨fb, fo, none⟩) i cF) (v' := .slice A4 i c4) (w' := w4) rfl (.tmp 122) (.tmp 127) 31 rfl rfl rfl HR4.out ?_)
  intro wx hwx; obtain rfl := hwx.out.symm; clear hwx
  go_wp2_with (at_builtin; refine wpList_app_stop (v := .slice A4 i c4) (u := u) (v' := .slice A5 q c5) (w' := w5) rfl (.tmp 129) (.tmp 135) 31 rfl rfl rfl HR5.out ?_)
  intro wx hwx; obtain rfl := hwx.out.symm; clear hwx
  go_upto_region 21 with fail
  rw [HW6.out]
  clear k40 k41 c42 k51 c52 g52 g5f r7 r8 hxl hyl sw
  have hx6 := HX6.out
  have hz6 := HZ6.out
  have hl6 := HL6.out
  have c0 : W6.cell? ⟨xb, 0, none⟩ = some (.int .i64 kk) := hx6.cell 0
  have c1 : W6.cell? ⟨xb, 1, none⟩ = some (.slice AS nS cS) := hx6.cell 1
  have c2 : W6.cell? ⟨xb, 2, none⟩ = some (.slice A5 q c5) := hx6.cell 2
  have c3 : W6.cell? ⟨xb, 3, none⟩ = some (.slice AC nC cC) := hx6.cell 3
  have z0 : W6.cell? ⟨zb, 0, none⟩ = some (.int .i64 0) := hz6.cell 0
  have z1 : W6.cell? ⟨zb, 1, none⟩ = some (.slice none 0 0) := hz6.cell 1
  have z2 : W6.cell? ⟨zb, 2, none⟩ = some (.slice none 0 0) := hz6.cell 2
  have z3 : W6.cell? ⟨zb, 3, none⟩ = some (.slice none 0 0) := hz6.cell 3
  have f0 : W6.frozen? ⟨zb, 0, none⟩ = false := hz6.free 0
  have f1 : W6.frozen? ⟨zb, 1, none⟩ = false := hz6.free 1
  have f2 : W6.frozen? ⟨zb, 2, none⟩ = false := hz6.free 2
  have f3 : W6.frozen? ⟨zb, 3, none⟩ = false := hz6.free 3
  have e0 : W6.cell? ⟨lb, 0, none⟩ = some (.int .i64 lf) := hl6.cell 0
  have e1 : W6.cell? ⟨lb, 1, none⟩ = some (.int .i64 lt) := hl6.cell 1
  have e2 : W6.cell? ⟨lb, 2, none⟩ = some (.int .i64 ls) := hl6.cell 2
  have e3 : W6.cell? ⟨lb, 3, none⟩ = some (.string lx) := hl6.cell 3
  clear hx6 hz6 hl6
  go_wp2_with fail
  go_loopg [10] nC (fun g y wx => ∃ j d, j ≤ nC ∧ g = nC - j ∧ y = .int .i64 (j : Nat) ∧ inC (C.take j) ⟨lf, lt, ls, lx⟩ = false ∧ wx = W6.drewN d)
  case atStart => exact ⟨0, 0, Nat.zero_le _, rfl, rfl, by rw [List.take_zero]; rfl, rfl⟩
  case round =>
    obtain ⟨j, d, hj, rfl, rfl, hno, rfl⟩ := hrel
    by_cases hlt : j < nC
    · have hjC : j < C.length := by rw [HNC.out]; exact hlt
      obtain ⟨⟨yf, yt, ys, yx⟩, hy⟩ : ∃ y, C[j] = y := ⟨_, rfl⟩
      obtain ⟨gc, oc, rfl, g0, g1, g2, g3⟩ := HC6.out.pos (i := j) hjC
      rw [hy] at g0 g1 g2 g3
      simp only at g0 g1 g2 g3
      obtain ⟨z2x, hz2x⟩ : ∃ z, eqLB ⟨yf, yt, ys, yx⟩ ⟨lf, lt, ls, lx⟩ = z := ⟨_, rfl⟩
      have hnx : inC (C.take (j + 1)) ⟨lf, lt, ls, lx⟩ = z2x := by
        unfold inC at hno ⊢
        rw [List.take_succ_eq_append_getElem hjC, List.any_append, hno, hy]
        simp [hz2x]
      have hall : z2x = true → inC C ⟨lf, lt, ls, lx⟩ = true := fun h => by
        rw [h] at hz2x
        refine (inC_iff _ _).2 ?_
        rw [← (eqLB_iff _ _).1 hz2x, ← hy]
        exact List.getElem_mem _
      have Q1 := fun W => eql_refLet ⟨yf, yt, ys, yx⟩ ⟨lf, lt, ls, lx⟩ W
      rw [hz2x] at Q1
      simp only [letV] at Q1
      have Q2 := fun x y W => guard_refLet .eql x y #[.int .i64 yf, .int .i64 yt, .int .i64 ys, .string yx] #[.int .i64 lf, .int .i64 lt, .int .i64 ls, .string lx] W
      have t4 : decide (j < nC) = true := decide_eq_true hlt
      have t4' : decide ((j : Int) < (nC : Int)) = true := decide_eq_true (by omega)
      have j3 : (j : Int) < nC := by omega
      have j4 : (0 : Int) ≤ j := by omega
      have HLT := Lib.hid hlt; have HNX := Lib.hid hnx; have HALL := Lib.hid hall
      clear hz2x hy hjC hnx hall hno
      cases z2x with
      | true =>
        have HIN := Lib.hid (HALL.out rfl)
        clear HALL
        go_wp2_with fail
        go_quiet (fail)
        have hdone := (HDONE.out (W6.drewN (d + nq)) (below_drewN' (Below.refl _ _) (d + nq)) HIN.out)
        have HD := Lib.hid hdone
        clear hdone
        go_wp2_with fail
        exact bodyPost_ret (results_refNet rfl _ _ _ _ _ _ _ (.int .i64 0) rfl rfl HD.out.1) rfl HD.out.2
      | false =>
        go_wp2_with fail
        go_quiet (fail)
        go_wp2_with fail
        go_roundg (nC - (j + 1))
        case rel => exact ⟨j + 1, _, HLT.out, rfl, by go_num, HNX.out, rfl⟩
        case measure => have := HLT.out; omega
    · obtain rfl : j = nC := by omega
      have t4 : decide (j < j) = false := decide_eq_false (by omega)
      have hno2 : inC C ⟨lf, lt, ls, lx⟩ = false := by rw [← HNC.out, List.take_length] at hno; exact hno
      have HNO := Lib.hid hno2
      have HC1 := Lib.hid hC1
      clear hno hno2
      go_upto_region 26 with fail
      obtain ⟨W7, hW7⟩ : ∃ W, W6.drewN d = W := ⟨_, rfl⟩
      have hb67 : Below W6.heap.size W6 W7 := by rw [← hW7]; exact below_drewN' (Below.refl _ _) d
      have hs7 : W7.heap.size = W6.heap.size := by rw [← hW7]; rfl
      rw [hW7]
      have hx7 := HX6.out.below hb67 (by have := HX6.out.lt; exact this)
      have hl7 := HL6.out.below hb67 (by have := HL6.out.lt; exact this)
      have hz7 := HZ6.out.below hb67 (by have := HZ6.out.lt; exact this)
      have HC7 := Lib.hid (HC6.out.below hb67 (Nat.le_refl _))
      have xb_lt : Hid (xb < W7.heap.size) := Lib.hid hx7.lt
      have xb_fz : Hid (∀ W, Below W7.heap.size W7 W → W.frozen? ⟨xb, 3, none⟩ = false) := Lib.hid (fun W hW => (hx7.below hW hx7.lt).free 3)
      have HKS : Hid (∀ W, Below W7.heap.size W7 W → W.cell? ⟨xb, 3, none⟩ = some (.slice AC j cC) ∧ W.cell? ⟨lb, 0, none⟩ = some (.int .i64 lf) ∧ W.cell? ⟨lb, 1, none⟩ = some (.int .i64 lt) ∧ W.cell? ⟨lb, 2, none⟩ = some (.int .i64 ls) ∧ W.cell? ⟨lb, 3, none⟩ = some (.string lx)) :=
        Lib.hid (fun W hW => ⟨(hx7.below hW hx7.lt).cell 3, (hl7.below hW hl7.lt).cell 0, (hl7.below hW hl7.lt).cell 1, (hl7.below hW hl7.lt).cell 2, (hl7.below hW hl7.lt).cell 3⟩)
      have HCR : Hid (RowAt W7 4 (.slice AC j cC) j (letsC C)) := Lib.hid (by have := HC7.out.row; rw [HNC.out] at this; exact this)
      have HX7 := Lib.hid hx7; have HZ7 := Lib.hid hz7; have HB67 := Lib.hid hb67; have HS7 := Lib.hid hs7
      clear hW7 hb67 hx7 hl7 hz7 c0 c1 c2 c3 z0 z1 z2 z3 f0 f1 f2 f3 e0 e1 e2 e3 hs7
      go_upto_region 26 with fail
      go_cut [] (fun wx => AppCut W7 xb 3 j (C ++ [⟨lf, lt, ls, lx⟩]) wx)
      case first =>
        refine region_app2 [1, 2, 4] 8 (by kernel_rfl) (by kernel_rfl) (fun W => W.cell? ⟨xb, 3, none⟩ = some (.slice AC j cC) ∧ W.cell? ⟨lb, 0, none⟩ = some (.int .i64 lf) ∧ W.cell? ⟨lb, 1, none⟩ = some (.int .i64 lt) ∧ W.cell? ⟨lb, 2, none⟩ = some (.int .i64 ls) ∧ W.cell? ⟨lb, 3, none⟩ = some (.string lx)) (HKS.out _ (below_drewN' (Below.refl _ _) 1)) (by kernel_rfl) (by kernel_rfl) ?_
        refine ⟨({ dst := some 154, op := Op.fieldAddr 33 (Operand.tmp 2) 3, type := 0, pos := "ref.go:53", after := #[], guard := none } : Oper), ?vb1, rfl, Or.inl ⟨by rfl, ?hyb1⟩, fun _ _ _ h => h, ?restb1⟩
        case hyb1 => (intro w' hSw; obtain ⟨s1, s2, s3, s4, s5⟩ := hSw; go_simp; try with_reducible rfl)
        try simp only [Act.put, List.setIfInBounds_toArray, List.set_cons_zero, List.set_cons_succ]
        refine ⟨({ dst := some 155, op := Op.load 31 (Operand.tmp 154), type := 31, pos := "ref.go:53", after := #[{ on := 1, ground := Ground.data }], guard := none } : Oper), ?vb2, rfl, Or.inl ⟨by rfl, ?hyb2⟩, fun _ _ _ h => h, ?restb2⟩
        case hyb2 => (intro w' hSw; obtain ⟨s1, s2, s3, s4, s5⟩ := hSw; go_simp; try with_reducible rfl)
        try simp only [Act.put, List.setIfInBounds_toArray, List.set_cons_zero, List.set_cons_succ]
        refine ⟨({ dst := some 157, op := Op.load 62 (Operand.tmp 8), type := 62, pos := "ref.go:53", after := #[], guard := none } : Oper), ?vb4, rfl, Or.inl ⟨by rfl, ?hyb4⟩, fun _ _ _ h => h, ?restb4⟩
        case hyb4 => (intro w' hSw; obtain ⟨s1, s2, s3, s4, s5⟩ := hSw; go_simp; try with_reducible rfl)
        try simp only [Act.put, List.setIfInBounds_toArray, List.set_cons_zero, List.set_cons_succ]
        refine reads_nil ?_
        refine until_app2 (R := [1, 2, 4]) (oe := ({ dst := some 153, op := Op.buildSlice 31 0 #[], type := 31, pos := "ref.go:53", after := #[], guard := none } : Oper)) (oa := ({ dst := some 156, op := Op.call { callee := Callee.builtin Builtin.append, args := #[Operand.tmp 153, Operand.tmp 155], argTypes := #[31, 31] }, type := 31, pos := "ref.go:53", after := #[{ on := 0, ground := Ground.data }, { on := 2, ground := Ground.data }], guard := none } : Oper)) (ol := ({ dst := some 158, op := Op.buildSlice 31 1 #[(0, Operand.tmp 157)], type := 31, pos := "ref.go:53", after := #[{ on := 4, ground := Ground.data }], guard := none } : Oper)) (ob := ({ dst := some 159, op := Op.call { callee := Callee.builtin Builtin.append, args := #[Operand.tmp 156, Operand.tmp 158], argTypes := #[31, 31] }, type := 31, pos := "ref.go:53", after := #[{ on := 3, ground := Ground.data }, { on := 5, ground := Ground.data }, { on := 3, ground := Ground.chain }], guard := none } : Oper)) (oj := ({ dst := some 160, op := Op.fieldAddr 33 (Operand.tmp 2) 3, type := 0, pos := "ref.go:53", after := #[{ on := 0, ground := Ground.phase }, { on := 1, ground := Ground.phase }, { on := 2, ground := Ground.phase }, { on := 3, ground := Ground.phase }, { on := 4, ground := Ground.phase }, { on := 5, ground := Ground.phase }, { on := 6, ground := Ground.phase }], guard := none } : Oper)) (ok := ({ dst := none, op := Op.store 31 (Operand.tmp 160) (Operand.tmp 159), type := 0, pos := "ref.go:53", after := #[{ on := 7, ground := Ground.data }, { on := 6, ground := Ground.data }, { on := 6, ground := Ground.chain }, { on := 0, ground := Ground.phase }, { on := 1, ground := Ground.phase }, { on := 2, ground := Ground.phase }, { on := 3, ground := Ground.phase }, { on := 4, ground := Ground.phase }, { on := 5, ground := Ground.phase }, { on := 6, ground := Ground.phase }], guard := none } : Oper)) (ie := 0) (ia := 3) (il := 5) (ib := 6) (ij := 7) (ik := 8) (de := 153) (da := 156) (dl := 158) (tx := 155) (ty := 157) (dbo := some 159) (by kernel_rfl) rfl rfl rfl rfl rfl rfl rfl rfl rfl rfl rfl rfl 31 62 i0 (letV letZ) 4 40 Tryd.underlying31 hi0 hz0 hz1 hz2 rfl (by decide) (by decide) rfl rfl rfl rfl rfl rfl rfl rfl (by decide) (by decide) (by decide) (by decide) (by decide) (by decide) ?zde ?zda ?zdl (u := .slice AC j cC) (y := .agg #[.int .i64 lf, .int .i64 lt, .int .i64 ls, .string lx]) (m := j) (cs := letsC C) (ys := letC ⟨lf, lt, ls, lx⟩) ?hx ?hy ?hu (letsC_cell _) (letC_cell _) rfl (by have := HC1.out; omega) slice0_19 (fun W => slice1_19 W _ _ _ _) (fun W hW => HKS.out W (below_of_drew hW)) ?fin rfl
        case zde => exact (show 153 < 162 by decide)
        case zda => exact (show 156 < 162 by decide)
        case zdl => exact (show 158 < 162 by decide)
        case hx => rfl
        case hy => rfl
        case hu => exact RowAt.drew HCR.out
        case fin =>
        simp only [Act.put, List.setIfInBounds_toArray, List.set_cons_zero, List.set_cons_succ]
        intro ve va vl A' c' w' ho hb
        refine wp_bare (fun K hK => ?_)
        have hwx := AppTo.of (j := 3) (L := C ++ [⟨lf, lt, ls, lx⟩]) (W0 := W7) (xb_lt.out) (by rw [letsC_app, letsC_one]; exact ho) (below_of_drew hb)
        have HWX := Lib.hid hwx; have HKW := Lib.hid (HKS.out w' (below_of_drew hb))
        have s1 := (HKS.out w' (below_of_drew hb)).1
        have s2 := xb_fz.out w' (below_of_drew hb)
        clear ho hb hwx
        go_simp
        refine hK.out _ _ ⟨HKW.out, ?_⟩
        refine wp_bare (fun K hK => ?_)
        go_simp
        refine hK.out _ _ ?_
        go_wp2_with fail
        go_meet
        exact ⟨_, rfl, HWX.out⟩
      case rest =>
      obtain ⟨wr, rfl, A7, c7, hg7, hx7, hf7, ho7⟩ := hcut
      have hx7 := hx7 _ HX7.out
      have hsz : W4.heap.size ≤ W7.heap.size := by have := HSZ6.out; have := HS7.out; omega
      have n1 := HXB.out; have n2 := HYB.out; have n3 := HZB.out; have n4 := HS3.out; have n5 := HLB.out; have n6 := HS4.out
      have hz7 := HZ7.out.grown hg7 (by intro e; injection e with e; omega)
      have hb07 := HB6.out.trans (HB67.out.mono HB6.out.size)
      have hb7 : Below w.heap.size w wr := hb07.trans (Below.ofGrown hg7 (by omega) xb_lt.out)
      have hoff : ∀ {v : Value} {S : List Let}, LetsAt W7 v S → Off19 xb v S → LetsAt wr v S := fun {v S} h h2 => h.off hg7 h2
      have hcm : comeR ⟨kk, S, F, C⟩ i ⟨lf, lt, ls, lx⟩ = ⟨kk, S, F.take i ++ F.drop (i + 1), C ++ [⟨lf, lt, ls, lx⟩]⟩ := by
        unfold comeR
        rw [if_neg (by rw [HNO.out]; decide)]
      have hdone := done_refNet (m := ⟨kk, S, F.take i ++ F.drop (i + 1), C ++ [⟨lf, lt, ls, lx⟩]⟩) (m0 := ⟨kk, S, F, C⟩) (code := 0) (oF := .slice (some ⟨fb, fo, none⟩) nF cF) (oC := .slice AC j cC) hz7 ⟨rfl, hoff (HS6.out.below HB67.out (Nat.le_refl _)) (Off19.of HS.out (by omega)), hoff (HF6.out.below HB67.out (Nat.le_refl _)) (Or.inr (fun e => by have := HOWN.out _ e; omega)), hf7⟩ (Off19.of HS.out (by omega)) (Or.inr (fun e => by have := HOWN.out _ e; omega)) (Or.inr (fun e => by have := ho7 _ e; omega)) hb7 (by omega) (Or.inl ⟨rfl, rfl⟩) (Or.inr (fun g hg => by have := HOWN.out _ hg; omega)) (Or.inr (fun g hg => by have := ho7 _ hg; omega))
      rw [← hcm] at hdone
      have c0 : wr.cell? ⟨xb, 0, none⟩ = some (.int .i64 kk) := hx7.cell 0
      have c1 : wr.cell? ⟨xb, 1, none⟩ = some (.slice AS nS cS) := hx7.cell 1
      have c2 : wr.cell? ⟨xb, 2, none⟩ = some (.slice A5 q c5) := hx7.cell 2
      have c3 : wr.cell? ⟨xb, 3, none⟩ = some (.slice A7 (j + 1) c7) := hx7.cell 3
      have z0 : wr.cell? ⟨zb, 0, none⟩ = some (.int .i64 0) := hz7.cell 0
      have z1 : wr.cell? ⟨zb, 1, none⟩ = some (.slice none 0 0) := hz7.cell 1
      have z2 : wr.cell? ⟨zb, 2, none⟩ = some (.slice none 0 0) := hz7.cell 2
      have z3 : wr.cell? ⟨zb, 3, none⟩ = some (.slice none 0 0) := hz7.cell 3
      have f0 : wr.frozen? ⟨zb, 0, none⟩ = false := hz7.free 0
      have f1 : wr.frozen? ⟨zb, 1, none⟩ = false := hz7.free 1
      have f2 : wr.frozen? ⟨zb, 2, none⟩ = false := hz7.free 2
      have f3 : wr.frozen? ⟨zb, 3, none⟩ = false := hz7.free 3
      have HD := Lib.hid hdone
      clear hg7 hx7 hf7 ho7 hz7 hb7 hoff hdone hcm hb07 hsz n1 n2 n3 n4 n5 n6
      go_wp2_with fail
      exact bodyPost_ret (results_refNet rfl _ _ _ _ _ _ _ (.int .i64 0) rfl rfl HD.out.1) rfl HD.out.2
end Go.Proofs.YtbecgfeoacncdaaDoor
