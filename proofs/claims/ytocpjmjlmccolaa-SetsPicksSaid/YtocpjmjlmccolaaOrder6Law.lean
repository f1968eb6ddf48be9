/- SetsOrder: the law. -/
import Derived.Test.YtocpjmjlmccolaaPicks3
import Derived.Test.YtocpjmjlmccolaaSetsW
import Derived.Test.YtocpjmjlmccolaaMerge
import Derived.Test.YtocpjmjlmccolaaAlive6
import Derived.Test.YtocpjmjlmccolaaViewU
import Derived.StillTailTactics
import Derived.Test.YtocpjmjlmccolaaSlice1
namespace Go.Proofs.Ytocpjmjlmccolaa
open Go.RowKit
attribute [local go_sem] Oper.semAt_some

structure O1 (w2 : World) (Sb Nb Cb Lb : Nat) (vS : Value) (n : Nat) (P : List (List Int)) (D g k : Nat) (W : World) : Prop where
  s : Whole W Sb 22 #[vS]
  n : Whole W Nb 3 #[.int .i64 n]
  c : Whole W Cb 3 #[.int .i64 k]
  l : ∃ vl, Whole W Lb 22 #[vl] ∧ (k = 0 ∨ (SeqV W vl (P.getD (k - 1) []) ∧ ∀ b, vl.ownBlock = some b → D + 2 ≤ b ∧ b ≠ g))
  bel : Below w2.heap.size w2 W
def OCut (w : World) (c : Value) (wx : World) : Prop := c = .bool false ∧ ∃ d, wx = w.drewN d
theorem seqV_kept {A A' : World} {v : Value} {L : List Int} {r : Nat} (h : SeqV A v L) (hg : A.grownBy A' (some r)) (hne : ∀ b, v.ownBlock = some b → b ≠ r) : SeqV A' v L := by
  rcases h with h | ⟨h0, b, off, c, rfl, hx⟩
  · exact Or.inl h
  · exact Or.inr ⟨h0, b, off, c, rfl, fun i hi => hg.cell (hx i hi) (by have := hne b rfl; simp; exact this)⟩
theorem O1.kept {w2 : World} {Sb Nb Cb Lb : Nat} {vS : Value} {n : Nat} {P : List (List Int)} {D g k r : Nat} {A A' : World} (h : O1 w2 Sb Nb Cb Lb vS n P D g k A) (hg : A.grownBy A' (some r)) (h0 : w2.heap.size ≤ r) (h1 : Sb < r) (h2 : Nb < r) (h3 : Cb < r) (h4 : Lb < r) (h5 : r < D + 2 ∨ r = g) : O1 w2 Sb Nb Cb Lb vS n P D g k A' := by
  obtain ⟨vl, hl, hv⟩ := h.l
  refine ⟨h.s.grown hg (by simp; omega), h.n.grown hg (by simp; omega), h.c.grown hg (by simp; omega), ⟨vl, hl.grown hg (by simp; omega), ?_⟩, h.bel.grown hg h.bel.size (fun j hj => by cases hj; omega)⟩
  rcases hv with hv | ⟨hv, hb⟩
  · exact Or.inl hv
  · exact Or.inr ⟨seqV_kept hv hg (fun b e => by have := hb b e; omega), hb⟩

/-- A counter in a cell of its own, behind a world. -/
def Cnt (w1 : World) (Ob : Nat) (_g k : Nat) (W : World) : Prop := Whole W Ob 3 #[.int .i64 k] ∧ Below w1.heap.size w1 W
theorem Cnt.kept {w1 : World} {Ob g k r : Nat} {A A' : World} (h : Cnt w1 Ob g k A) (hg : A.grownBy A' (some r)) (h1 : w1.heap.size ≤ r) (h2 : Ob < r) : Cnt w1 Ob g k A' :=
  ⟨h.1.grown hg (by simp; omega), h.2.grown hg h.2.size (fun j hj => by cases hj; omega)⟩
theorem Cnt.round {w1 : World} {Ob g k D : Nat} {Cp : Nat → Prop} {W : World} (h : Cnt w1 Ob g k W) (j : Nat) (h0 : w1.heap.size ≤ Ob) (_hgl : g < W.heap.size) (hg : D + 2 ≤ g) (_hsz : D + 2 ≤ W.heap.size) (hO : Ob < D) (hcp : ∀ b, Cp b → Ob < b) :
    (W.heap.size ≤ (W.setCell ⟨Ob, 0, none⟩ (.int .i64 j)).heap.size ∧ ∀ b, (b = D ∨ b = D + 1 ∨ b = g ∨ Cp b) → (W.setCell ⟨Ob, 0, none⟩ (.int .i64 j)).heap[b]? = W.heap[b]?) ∧ Cnt w1 Ob g j (W.setCell ⟨Ob, 0, none⟩ (.int .i64 j)) := by
  refine ⟨⟨by simp [World.setCell], fun b hb => Below.heap_setCell W _ _ b ?_⟩, h.1.put 0 _, h.2.setCell (by simpa using h0) _⟩
  rcases hb with rfl | rfl | rfl | hc
  · show b ≠ Ob; omega
  · show _ ≠ Ob; omega
  · show b ≠ Ob; omega
  · have := hcp b hc; show b ≠ Ob; omega
/-- Two counters. -/
def Cnt2 (w1 : World) (Wb Ub : Nat) (_g i j : Nat) (W : World) : Prop := Whole W Wb 3 #[.int .i64 i] ∧ Whole W Ub 3 #[.int .i64 j] ∧ Below w1.heap.size w1 W
theorem Cnt2.kept {w1 : World} {Wb Ub g i j r : Nat} {A A' : World} (h : Cnt2 w1 Wb Ub g i j A) (hg : A.grownBy A' (some r)) (h1 : w1.heap.size ≤ r) (h2 : Wb < r) (h3 : Ub < r) : Cnt2 w1 Wb Ub g i j A' :=
  ⟨h.1.grown hg (by simp; omega), h.2.1.grown hg (by simp; omega), h.2.2.grown hg h.2.2.size (fun j hj => by cases hj; omega)⟩
theorem Cnt2.round1 {w1 : World} {Wb g i j D : Nat} {Cp : Nat → Prop} {W : World} (h : Cnt2 w1 Wb (Wb + 1) g i j W) (h0 : w1.heap.size ≤ Wb) (_hgl : g < W.heap.size) (hg : D + 2 ≤ g) (_hsz : D + 2 ≤ W.heap.size) (hO : Wb < D) (_hO2 : Wb + 1 < D) (hcp : ∀ b, Cp b → Wb + 2 ≤ b) :
    (W.heap.size ≤ (W.setCell ⟨Wb, 0, none⟩ (.int .i64 ((i : Int) + 1))).heap.size ∧ ∀ b, (b = D ∨ b = D + 1 ∨ b = g ∨ Cp b) → (W.setCell ⟨Wb, 0, none⟩ (.int .i64 ((i : Int) + 1))).heap[b]? = W.heap[b]?) ∧ Cnt2 w1 Wb (Wb + 1) g (i + 1) j (W.setCell ⟨Wb, 0, none⟩ (.int .i64 ((i : Int) + 1))) := by
  refine ⟨⟨by simp [World.setCell], fun b hb => Below.heap_setCell W _ _ b ?_⟩, h.1.put 0 _, h.2.1.other (by show Wb + 1 ≠ Wb; omega) _, h.2.2.setCell (by simpa using h0) _⟩
  rcases hb with rfl | rfl | rfl | hc
  · show b ≠ Wb; omega
  · show _ ≠ Wb; omega
  · show b ≠ Wb; omega
  · have := hcp b hc; show b ≠ Wb; omega
theorem Cnt2.round2 {w1 : World} {Wb g i j D : Nat} {Cp : Nat → Prop} {W : World} (h : Cnt2 w1 Wb (Wb + 1) g i j W) (h0 : w1.heap.size ≤ Wb) (_hgl : g < W.heap.size) (hg : D + 2 ≤ g) (_hsz : D + 2 ≤ W.heap.size) (hO : Wb + 1 < D) (hcp : ∀ b, Cp b → Wb + 2 ≤ b) :
    (W.heap.size ≤ (W.setCell ⟨Wb + 1, 0, none⟩ (.int .i64 ((j : Int) + 1))).heap.size ∧ ∀ b, (b = D ∨ b = D + 1 ∨ b = g ∨ Cp b) → (W.setCell ⟨Wb + 1, 0, none⟩ (.int .i64 ((j : Int) + 1))).heap[b]? = W.heap[b]?) ∧ Cnt2 w1 Wb (Wb + 1) g i (j + 1) (W.setCell ⟨Wb + 1, 0, none⟩ (.int .i64 ((j : Int) + 1))) := by
  refine ⟨⟨by simp [World.setCell], fun b hb => Below.heap_setCell W _ _ b ?_⟩, h.1.other (by show Wb ≠ Wb + 1; omega) _, h.2.1.put 0 _, h.2.2.setCell (by show _ ≤ Wb + 1; omega) _⟩
  rcases hb with rfl | rfl | rfl | hc
  · show b ≠ Wb + 1; omega
  · show _ ≠ Wb + 1; omega
  · show b ≠ Wb + 1; omega
  · have := hcp b hc; show b ≠ Wb + 1; omega
theorem picksTo_drew {T : List Int} {k : Int} {w w' : World} {e : Ending} (h : PicksTo T k w.drew e w') : PicksTo T k w e w' := by
  obtain ⟨a, b, c, h1, h2, h3, h4, h5, h6, h7, h8⟩ := h
  exact ⟨a, b, c, h1, h2, h3, h4, h5, h6, h7, ⟨h8.os, h8.tape, h8.output, h8.size, h8.block⟩⟩
theorem o1_round {w2 : World} {Sb Nb : Nat} {vS v : Value} {n : Nat} {P : List (List Int)} {D g k : Nat} {Cp : Nat → Prop} {W W3 : World} (h : O1 w2 Sb Nb (Nb + 1) (Nb + 1 + 1) vS n P D g k W) (hb : Below W.heap.size W W3) (h0 : w2.heap.size ≤ Nb) (h1 : Sb < Nb) (h2 : Nb + 3 ≤ D) (hsz : D + 2 ≤ W.heap.size) (hgl : g < W.heap.size) (hg : D + 2 ≤ g)
    (hcp : ∀ b, Cp b → Nb + 3 ≤ b ∧ b < D) (hv : SeqV W v (P.getD k [])) (hfar : ∀ b, v.ownBlock = some b → D + 2 ≤ b ∧ b ≠ g) :
    (W.heap.size ≤ ((W3.setCell ⟨Nb + 1 + 1, 0, none⟩ v).setCell ⟨Nb + 1, 0, none⟩ (.int .i64 ((k : Int) + 1))).heap.size ∧ ∀ b, (b = D ∨ b = D + 1 ∨ b = g ∨ Cp b) → ((W3.setCell ⟨Nb + 1 + 1, 0, none⟩ v).setCell ⟨Nb + 1, 0, none⟩ (.int .i64 ((k : Int) + 1))).heap[b]? = W.heap[b]?) ∧
    O1 w2 Sb Nb (Nb + 1) (Nb + 1 + 1) vS n P D g (k + 1) ((W3.setCell ⟨Nb + 1 + 1, 0, none⟩ v).setCell ⟨Nb + 1, 0, none⟩ (.int .i64 ((k : Int) + 1))) := by
  obtain ⟨vl, hl, _⟩ := h.l
  have hk : ((k : Int) + 1) = ((k + 1 : Nat) : Int) := rfl
  have hs3 := hb.size
  have hkeep : ∀ b, b ≠ Nb + 1 → b ≠ Nb + 1 + 1 → b < W.heap.size → ((W3.setCell ⟨Nb + 1 + 1, 0, none⟩ v).setCell ⟨Nb + 1, 0, none⟩ (.int .i64 ((k : Int) + 1))).heap[b]? = W.heap[b]? := fun b e1 e2 e3 => by
    rw [Below.heap_setCell _ _ _ b e1, Below.heap_setCell _ _ _ b e2, hb.block b e3]
  refine ⟨⟨by simpa [World.setCell] using hs3, fun b hbb => hkeep b ?_ ?_ ?_⟩, ?_⟩
  · rcases hbb with rfl | rfl | rfl | hc
    · omega
    · omega
    · omega
    · have := hcp b hc; omega
  · rcases hbb with rfl | rfl | rfl | hc
    · omega
    · omega
    · omega
    · have := hcp b hc; omega
  · rcases hbb with rfl | rfl | rfl | hc
    · omega
    · omega
    · omega
    · have := hcp b hc; omega
  · refine ⟨?_, ?_, ?_, ⟨v, ?_, Or.inr ⟨?_, hfar⟩⟩, ?_⟩
    · exact ((h.s.below hb h.s.lt).other (by simp; omega) _).other (by simp; omega) _
    · exact ((h.n.below hb h.n.lt).other (by show Nb ≠ Nb + 1 + 1; omega) _).other (by show Nb ≠ Nb + 1; omega) _
    · rw [← hk]; exact ((h.c.below hb h.c.lt).other (by simp) _).put 0 _
    · exact ((hl.below hb hl.lt).put 0 _).other (by simp) _
    · rw [Nat.add_sub_cancel]
      rcases hv with hv | ⟨h0', b, off, c, rfl, hx⟩
      · exact Or.inl hv
      · refine Or.inr ⟨h0', b, off, c, rfl, fun i hi => ?_⟩
        have hbl := World.block_lt_of_cell? _ _ (hx i hi)
        have := hfar b rfl
        rw [World.cell?_of_block (hkeep b (by omega) (by omega) hbl)]
        exact hx i hi
    · have hbw : Below w2.heap.size w2 W3 := h.bel.trans (hb.mono h.bel.size)
      exact (hbw.setCell (by simp; omega) _).setCell (by simp; omega) _
theorem comb_few : ∀ (lo m k : Nat), (comb lo m k).length ≤ 2 ^ m
  | lo, m, 0 => by rw [comb_zero]; exact Nat.one_le_two_pow
  | lo, 0, k + 1 => by rw [comb]; simp
  | lo, m + 1, k + 1 => by
    rw [comb, List.length_append, List.length_map, Nat.pow_succ]
    have := comb_few (lo + 1) m k
    have := comb_few (lo + 1) m (k + 1)
    omega
theorem picksL_few {S : List Int} (h : S.length ≤ 16) (k : Nat) : (picksL S k).length ≤ 65536 := by
  unfold picksL
  rw [picksOf_len]
  have h1 := comb_few 0 S.length k
  have h2 : 2 ^ S.length ≤ 2 ^ 16 := Nat.pow_le_pow_right (by omega) h
  have h3 : (2 : Nat) ^ 16 = 65536 := rfl
  omega

set_option maxRecDepth 100000 in
set_option maxHeartbeats 16000000 in
theorem setsOrder_long (L A B C : List Int) (k8 : Nat) (v u t q : Value) (w : World) (hl : SeqV w v L) (ha : SeqV w u A) (hb : SeqV w t B) (hc : SeqV w q C) (hlL : L.length * 8 ≤ 140737488351232)
    (hlong : 9 < (ofR L).length ∨ 30 < A.length ∨ 30 < B.length ∨ 30 < C.length) :
    Calls Try.prog 7 #[v, .int .u8 k8, u, t, q] w fun e w' => e = .returned (.bool true) ∧ Below w.heap.size w w' := by
  obtain ⟨Al, cl, nl, rfl, hnl⟩ : ∃ A c k, v = .slice A k c ∧ L.length = k := by obtain ⟨A, c, rfl⟩ := IntsV.form hl; exact ⟨_, _, _, rfl, rfl⟩
  obtain ⟨Aa, ca, na, rfl, hna⟩ : ∃ X c k, u = .slice X k c ∧ A.length = k := by obtain ⟨A, c, rfl⟩ := IntsV.form ha; exact ⟨_, _, _, rfl, rfl⟩
  obtain ⟨Ab, cb, nb, rfl, hnb⟩ : ∃ X c k, t = .slice X k c ∧ B.length = k := by obtain ⟨A, c, rfl⟩ := IntsV.form hb; exact ⟨_, _, _, rfl, rfl⟩
  obtain ⟨Ac, cc, nc, rfl, hnc⟩ : ∃ X c k, q = .slice X k c ∧ C.length = k := by obtain ⟨A, c, rfl⟩ := IntsV.form hc; exact ⟨_, _, _, rfl, rfl⟩
  have hb0 : Below w.heap.size w (w.alloc (.cells #[.bool false] 4)) := (Below.refl _ _).alloc (Nat.le_refl _) _
  have HL := Lib.hid (hl.below hb0 (Nat.le_refl _)); have HA := Lib.hid (ha.below hb0 (Nat.le_refl _)); have HB := Lib.hid (hb.below hb0 (Nat.le_refl _)); have HC := Lib.hid (hc.below hb0 (Nat.le_refl _))
  have HR := Lib.hid (Whole.new w 4 #[.bool false])
  have HB0 := Lib.hid hb0
  clear hl ha hb hc hb0 hnl
  refine (callsIn_wide (n := 6)).1 ?_
  refine callsIn_of_wp_marks Try.func7 rfl trivial ?_ rfl
  simp only [Try.ntmps7, List.size_toArray, List.length_cons, List.length_nil, Nat.reduceAdd, Nat.reduceSub, Array.replicate_succ, Array.replicate_zero, List.push_toArray, List.append_toArray, List.nil_append, List.cons_append]
  refine wpIn_wide.2 ?_
  obtain ⟨w1, hw1⟩ : ∃ W, w.alloc (.cells #[.bool false] 4) = W := ⟨_, rfl⟩
  rw [hw1] at HL HA HB HC HR HB0
  have AL := Lib.hid (alive6_ok w1)
  have HW1 := Lib.hid hw1
  clear hw1
  have Q2 := Lib.hid (alive6_ok w1)
  go_wp2_with fail
  rw [HW1.out]
  clear HW1
  refine Q2.out.mono ?_; rintro e w2 ⟨rfl, hb⟩
  clear Q2
  have HL_2 := Lib.hid (HL.out.below hb (Nat.le_refl _))
  have HA_2 := Lib.hid (HA.out.below hb (Nat.le_refl _))
  have HB_2 := Lib.hid (HB.out.below hb (Nat.le_refl _))
  have HC_2 := Lib.hid (HC.out.below hb (Nat.le_refl _))
  have BW_2 := Lib.hid hb
  clear hb HL HA HB HC
  have Q3 := Lib.hid (of_any L _ w2 HL_2.out hlL)
  go_wp2_with fail
  refine Q3.out.mono ?_; rintro e w3 ⟨v3, rfl, hs, hb⟩
  clear Q3
  have HL_3 := Lib.hid (HL_2.out.below hb (Nat.le_refl _))
  have HA_3 := Lib.hid (HA_2.out.below hb (Nat.le_refl _))
  have HB_3 := Lib.hid (HB_2.out.below hb (Nat.le_refl _))
  have HC_3 := Lib.hid (HC_2.out.below hb (Nat.le_refl _))
  have BW_3 := Lib.hid (BW_2.out.trans (hb.mono BW_2.out.size))
  clear hb HL_2 HA_2 HB_2 HC_2
  clear BW_2
  obtain ⟨AS, cS, kS, rfl, hkS⟩ := hs.form; have HKS := Lib.hid hkS; clear hkS
  have HS_3 := Lib.hid hs; clear hs
  have hcase : decide ((9 : Int) < kS) = true ∨ (decide ((9 : Int) < kS) = false ∧ decide ((30 : Int) < na) = true) ∨ (decide ((9 : Int) < kS) = false ∧ decide ((30 : Int) < na) = false ∧ decide ((30 : Int) < nb) = true) ∨ (decide ((9 : Int) < kS) = false ∧ decide ((30 : Int) < na) = false ∧ decide ((30 : Int) < nb) = false ∧ decide ((30 : Int) < nc) = true) := by
    have := HKS.out
    simp only [decide_eq_true_eq, decide_eq_false_iff_not]; omega
  have hR3 := HR.out.below BW_3.out HR.out.lt
  have hb4 : Below w3.heap.size w3 (w3.alloc (.cells #[.slice AS kS cS] 22)) := (Below.refl _ _).alloc (Nat.le_refl _) _
  have hR4 := hR3.below hb4 hR3.lt
  have f4 := hR4.free 0
  have c4 : (w3.alloc (.cells #[.slice AS kS cS] 22)).cell? ⟨w.heap.size, 0, none⟩ = some (.bool false) := hR4.cell 0
  have hwl : w.heap.size < w3.heap.size := hR3.lt
  have c3 : w3.cell? ⟨w.heap.size, 0, none⟩ = some (.bool false) := hR3.cell 0
  have f3 := hR3.free 0
  have HF : Hid (Whole ((w3.alloc (.cells #[.slice AS kS cS] 22)).setCell ⟨w.heap.size, 0, none⟩ (.bool true)) w.heap.size 4 #[.bool true]) := Lib.hid (hR4.put 0 _)
  have HBF : Hid (Below w.heap.size w ((w3.alloc (.cells #[.slice AS kS cS] 22)).setCell ⟨w.heap.size, 0, none⟩ (.bool true))) := Lib.hid (by
    have h1 : Below w.heap.size w w3 := HB0.out.trans (BW_3.out.mono HB0.out.size)
    exact (h1.trans (hb4.mono h1.size)).setCell (by simp) _)
  obtain ⟨w5, hw5⟩ : ∃ W, w3.alloc (.cells #[.slice AS kS cS] 22) = W := ⟨_, rfl⟩
  rw [hw5] at HF HBF hR4 f4 c4
  have HW5 := Lib.hid hw5
  clear hR3 hb4 hR4 hlong c3 f3 hw5
  rcases hcase with t1 | ⟨t1, t2⟩ | ⟨t1, t2, t3⟩ | ⟨t1, t2, t3, t4⟩
  all_goals
    go_upto_region 5 with fail
    rw [HW5.out]
    go_wp2_with fail
    exact ⟨_, results_bool rfl _ _ _ _ rfl HF.out, rfl, HBF.out⟩

set_option maxRecDepth 100000 in
set_option maxHeartbeats 16000000 in
theorem setsOrder_law (L A B C : List Int) (k8 : Nat) (v u t q : Value) (w : World) (hl : SeqV w v L) (ha : SeqV w u A) (hb : SeqV w t B) (hc : SeqV w q C) (hk8 : k8 < 256) (hlL : L.length * 8 ≤ 140737488351232)
    (hS9 : (ofR L).length ≤ 9) (hlA : A.length ≤ 30) (hlB : B.length ≤ 30) (hlC : C.length ≤ 30) :
    Calls Try.prog 7 #[v, .int .u8 k8, u, t, q] w fun e w' => e = .returned (.bool true) ∧ Below w.heap.size w w' := by
  obtain ⟨Al, cl, nl, rfl, hnl⟩ : ∃ A c k, v = .slice A k c ∧ L.length = k := by obtain ⟨A, c, rfl⟩ := IntsV.form hl; exact ⟨_, _, _, rfl, rfl⟩
  obtain ⟨Aa, ca, na, rfl, hna⟩ : ∃ X c k, u = .slice X k c ∧ A.length = k := by obtain ⟨A, c, rfl⟩ := IntsV.form ha; exact ⟨_, _, _, rfl, rfl⟩
  obtain ⟨Ab, cb, nb, rfl, hnb⟩ : ∃ X c k, t = .slice X k c ∧ B.length = k := by obtain ⟨A, c, rfl⟩ := IntsV.form hb; exact ⟨_, _, _, rfl, rfl⟩
  obtain ⟨Ac, cc, nc, rfl, hnc⟩ : ∃ X c k, q = .slice X k c ∧ C.length = k := by obtain ⟨A, c, rfl⟩ := IntsV.form hc; exact ⟨_, _, _, rfl, rfl⟩
  have t1 : decide ((30 : Int) < na) = false := decide_eq_false (by omega)
  have t2 : decide ((30 : Int) < nb) = false := decide_eq_false (by omega)
  have t3 : decide ((30 : Int) < nc) = false := decide_eq_false (by omega)
  have hb0 : Below w.heap.size w (w.alloc (.cells #[.bool false] 4)) := (Below.refl _ _).alloc (Nat.le_refl _) _
  have HL := Lib.hid (hl.below hb0 (Nat.le_refl _)); have HA := Lib.hid (ha.below hb0 (Nat.le_refl _)); have HB := Lib.hid (hb.below hb0 (Nat.le_refl _)); have HC := Lib.hid (hc.below hb0 (Nat.le_refl _))
  have HR := Lib.hid (Whole.new w 4 #[.bool false])
  have HB0 := Lib.hid hb0
  clear hl ha hb hc hb0 hnl hna hnb hnc
  refine (callsIn_wide (n := 6)).1 ?_
  refine callsIn_of_wp_marks Try.func7 rfl trivial ?_ rfl
  simp only [Try.ntmps7, List.size_toArray, List.length_cons, List.length_nil, Nat.reduceAdd, Nat.reduceSub, Array.replicate_succ, Array.replicate_zero, List.push_toArray, List.append_toArray, List.nil_append, List.cons_append]
  refine wpIn_wide.2 ?_
  obtain ⟨w1, hw1⟩ : ∃ W, w.alloc (.cells #[.bool false] 4) = W := ⟨_, rfl⟩
  rw [hw1] at HL HA HB HC HR HB0
  have AL := Lib.hid (alive6_ok w1)
  have HW1 := Lib.hid hw1
  clear hw1
  have Q2 := Lib.hid (alive6_ok w1)
  go_wp2_with fail
  rw [HW1.out]
  clear HW1
  refine Q2.out.mono ?_; rintro e w2 ⟨rfl, hb⟩
  clear Q2
  have HL_2 := Lib.hid (HL.out.below hb (Nat.le_refl _))
  have HA_2 := Lib.hid (HA.out.below hb (Nat.le_refl _))
  have HB_2 := Lib.hid (HB.out.below hb (Nat.le_refl _))
  have HC_2 := Lib.hid (HC.out.below hb (Nat.le_refl _))
  have BW_2 := Lib.hid hb
  clear hb HL HA HB HC
  have Q3 := Lib.hid (of_any L _ w2 HL_2.out hlL)
  go_wp2_with fail
  refine Q3.out.mono ?_; rintro e w3 ⟨v3, rfl, hs, hb⟩
  clear Q3
  have HL_3 := Lib.hid (HL_2.out.below hb (Nat.le_refl _))
  have HA_3 := Lib.hid (HA_2.out.below hb (Nat.le_refl _))
  have HB_3 := Lib.hid (HB_2.out.below hb (Nat.le_refl _))
  have HC_3 := Lib.hid (HC_2.out.below hb (Nat.le_refl _))
  have BW_3 := Lib.hid (BW_2.out.trans (hb.mono BW_2.out.size))
  clear hb HL_2 HA_2 HB_2 HC_2
  clear BW_2
  obtain ⟨AS, cS, kS, rfl, hkS⟩ := hs.form; have HKS := Lib.hid hkS; clear hkS
  have HS_3 := Lib.hid hs; clear hs
  obtain ⟨S, hS⟩ : ∃ X, ofR L = X := ⟨_, rfl⟩
  have hSr : Rising S := by rw [← hS]; exact (ofR_parts _ L rfl).1
  rw [hS] at HS_3 HKS hS9
  have HSR := Lib.hid hSr; have HSL := Lib.hid hS9; clear hS hSr
  have hk9 : kS ≤ 9 := by rw [← HKS.out]; exact hS9
  have t0 : decide ((9 : Int) < kS) = false := decide_eq_false (by omega)
  clear hS9
  have HR3 := Lib.hid (HR.out.below BW_3.out HR.out.lt)
  have HSC := HS_3
  obtain ⟨w4, hw4⟩ : ∃ W, w3.alloc (.cells #[.slice AS kS cS] 22) = W := ⟨_, rfl⟩
  obtain ⟨Sb, hSb⟩ : ∃ b, w3.heap.size = b := ⟨_, rfl⟩
  have hb4 : Below w3.heap.size w3 w4 := by rw [← hw4]; exact (Below.refl _ _).alloc (Nat.le_refl _) _
  have hsb4 : Whole w4 Sb 22 #[.slice AS kS cS] := by rw [← hw4, ← hSb]; exact Whole.new _ _ _
  have HA4 := Lib.hid (HA_3.out.below hb4 (Nat.le_refl _)); have HB4 := Lib.hid (HB_3.out.below hb4 (Nat.le_refl _)); have HC4 := Lib.hid (HC_3.out.below hb4 (Nat.le_refl _))
  have HW4 := Lib.hid hw4; have HSB4 := Lib.hid hsb4; have H34 := Lib.hid hb4; have HSBE := Lib.hid hSb
  clear hw4 hb4 hsb4 HA_3 HB_3 HC_3 HL_3 hSb
  go_upto_region 6 with fail
  rw [HW4.out]
  clear HW4
  go_cut [67] from 42 to 67 (fun c wx => OCut w4 c wx)
  case first =>
    have C1 := fun x => compare_any A B _ _ (w4.drewN x) (show SeqV (w4.drewN x) _ A from HA4.out) (show SeqV (w4.drewN x) _ B from HB4.out) (by omega) (by omega)
    have C2 := fun x => compare_any B C _ _ (w4.drewN x) (show SeqV (w4.drewN x) _ B from HB4.out) (show SeqV (w4.drewN x) _ C from HC4.out) (by omega) (by omega)
    have C3 := fun x => compare_any A C _ _ (w4.drewN x) (show SeqV (w4.drewN x) _ A from HA4.out) (show SeqV (w4.drewN x) _ C from HC4.out) (by omega) (by omega)
    have E1 := sameInts_any _ _ _ _ _ _ w4 HA4.out HB4.out (by omega)
    obtain ⟨x1, h1⟩ : ∃ x, cmpL A B = x := ⟨_, rfl⟩
    obtain ⟨x2, h2⟩ : ∃ x, cmpL B C = x := ⟨_, rfl⟩
    obtain ⟨x3, h3⟩ : ∃ x, cmpL A C = x := ⟨_, rfl⟩
    have htr : x1 ≤ 0 → x2 ≤ 0 → x3 ≤ 0 := by rw [← h1, ← h2, ← h3]; exact cmpL_trans
    obtain ⟨r, hr⟩ : ∃ r : Bool, sameI (fun i => A.getD i 0) A.length (fun i => B.getD i 0) B.length = r := ⟨_, rfl⟩
    have hx1 : (x1 == 0) = r := by
      rw [← hr, Bool.eq_iff_iff, beq_iff_eq, sameI_iff, ← h1]; exact cmpL_zero
    have tne : (r != r) = false := by simp
    rw [h1] at C1
    rw [h2] at C2
    rw [h3] at C3
    rw [hr] at E1
    have HC1 := Lib.hid (C1 0); have HC2 := Lib.hid (C2 0); have HC3 := Lib.hid (C3 0); have HE1 := Lib.hid E1; have HTR := Lib.hid htr
    clear C1 C2 C3 E1 h1 h2 h3 hr htr
    by_cases p1 : x1 ≤ 0
    · have d1 : decide (x1 ≤ 0) = true := decide_eq_true p1
      by_cases p2 : x2 ≤ 0
      · have d2 : decide (x2 ≤ 0) = true := decide_eq_true p2
        have p3 := HTR.out p1 p2
        have d3 : decide (0 < x3) = false := decide_eq_false (by omega)
        clear p1 p2 p3
        go_wp2_with fail
        refine HC1.out.mono ?_; rintro e wx ⟨rfl, hw⟩; obtain rfl := hw.symm
        go_wp2_with fail
        refine HC2.out.mono ?_; rintro e wx ⟨rfl, hw⟩; obtain rfl := hw.symm
        go_wp2_with fail
        refine HC3.out.mono ?_; rintro e wx ⟨rfl, hw⟩; obtain rfl := hw.symm
        go_wp2_with fail
        refine HC1.out.mono ?_; rintro e wx ⟨rfl, hw⟩; obtain rfl := hw.symm
        go_wp2_with fail
        refine HE1.out.mono ?_; rintro e wx ⟨rfl, d, rfl⟩
        go_wp2_with fail
        go_meet
        exact ⟨rfl, d, rfl⟩
      · have d2 : decide (x2 ≤ 0) = false := decide_eq_false p2
        clear p1 p2
        go_wp2_with fail
        refine HC1.out.mono ?_; rintro e wx ⟨rfl, hw⟩; obtain rfl := hw.symm
        go_wp2_with fail
        refine HC2.out.mono ?_; rintro e wx ⟨rfl, hw⟩; obtain rfl := hw.symm
        go_wp2_with fail
        refine HC1.out.mono ?_; rintro e wx ⟨rfl, hw⟩; obtain rfl := hw.symm
        go_wp2_with fail
        refine HE1.out.mono ?_; rintro e wx ⟨rfl, d, rfl⟩
        go_wp2_with fail
        go_meet
        exact ⟨rfl, d, rfl⟩
    · have d1 : decide (x1 ≤ 0) = false := decide_eq_false p1
      clear p1
      go_wp2_with fail
      refine HC1.out.mono ?_; rintro e wx ⟨rfl, hw⟩; obtain rfl := hw.symm
      go_wp2_with fail
      refine HC1.out.mono ?_; rintro e wx ⟨rfl, hw⟩; obtain rfl := hw.symm
      go_wp2_with fail
      refine HE1.out.mono ?_; rintro e wx ⟨rfl, d, rfl⟩
      go_wp2_with fail
      go_meet
      exact ⟨rfl, d, rfl⟩
  case rest =>
    rw [HSBE.out]
    obtain ⟨rfl, d, hwc⟩ := hcut
    have hb5 : Below w4.heap.size w4 wc := by rw [hwc]; exact below_drewN' (Below.refl _ _) d
    obtain ⟨n, hn⟩ : ∃ n, 1 + k8 % 9 = n := ⟨_, rfl⟩
    have hnI : (1 : Int) + (k8 : Int) % 9 = (n : Int) := by rw [← hn]; simp
    have hn9 : n ≤ 9 := by omega
    have hn1 : 1 ≤ n := by omega
    have hsb5 : Whole wc Sb 22 #[.slice AS kS cS] := HSB4.out.below hb5 HSB4.out.lt
    have hS5 : SeqC wc (.slice AS kS cS) S := (HS_3.out.below H34.out (Nat.le_refl _)).below hb5 (Nat.le_refl _)
    have cS5 : wc.cell? ⟨Sb, 0, none⟩ = some (.slice AS kS cS) := hsb5.cell 0
    have hSbl : Sb < wc.heap.size := hsb5.lt
    obtain ⟨w6, hw6⟩ : ∃ W, ((wc.alloc (.cells #[.int .i64 n] 3)).alloc (.cells #[.int .i64 0] 3)).alloc (.cells #[.slice none 0 0] 22) = W := ⟨_, rfl⟩
    obtain ⟨Nb, hNb⟩ : ∃ b, wc.heap.size = b := ⟨_, rfl⟩
    have hb6 : Below wc.heap.size wc w6 := by rw [← hw6]; exact (((Below.refl _ _).alloc (Nat.le_refl _) _).alloc (by simp) _).alloc (by simp; omega) _
    have hN6 : Whole w6 Nb 3 #[.int .i64 n] := by rw [← hw6, ← hNb]; exact ((Whole.new _ _ _).alloc _).alloc _
    have hC6 : Whole w6 (Nb + 1) 3 #[.int .i64 0] := by
      rw [← hw6, ← hNb]
      have := (Whole.new (wc.alloc (.cells #[.int .i64 n] 3)) 3 #[.int .i64 0]).alloc (.cells #[.slice none 0 0] 22)
      rwa [World.size_alloc] at this
    have hL6 : Whole w6 (Nb + 2) 22 #[.slice none 0 0] := by
      rw [← hw6, ← hNb]
      have := Whole.new ((wc.alloc (.cells #[.int .i64 n] 3)).alloc (.cells #[.int .i64 0] 3)) 22 #[.slice none 0 0]
      rwa [World.size_alloc, World.size_alloc] at this
    have hsb6 := hsb5.below hb6 hsb5.lt
    have hS6 := hS5.below hb6 (Nat.le_refl _)
    have hs6 : w6.heap.size = Nb + 3 := by rw [← hw6, ← hNb]; simp
    have P1 := Lib.hid (picks_any S n _ w6 hS6.1 (by have := HSL.out; omega))
    have HW6 := Lib.hid hw6
    have H36 : Hid (Below w3.heap.size w3 w6) := Lib.hid ((H34.out.trans (hb5.mono H34.out.size)).trans (hb6.mono (by have := H34.out.size; have := hb5.size; omega)))
    have HN6 := Lib.hid hN6; have HC6 := Lib.hid hC6; have HL6 := Lib.hid hL6; have HSB6 := Lib.hid hsb6; have HS6 := Lib.hid hS6; have HNBE := Lib.hid hNb
    have h3N : w3.heap.size < Nb := by have := HSB4.out.lt; have := HSBE.out; omega
    have hSN : Sb < Nb := by omega
    clear hn hb5 hsb5 hS5 hw6 hb6 hN6 hC6 hL6 hsb6 hS6 HS_3 H34 HSB4 HA4 HB4 HC4 hwc
    clear hNb
    go_upto_region 11 with fail
    rw [HW6.out, HNBE.out]
    clear HW6 hSbl cS5
    have cS6 : w6.cell? ⟨Sb, 0, none⟩ = some (.slice AS kS cS) := HSB6.out.cell 0
    have cN6 : w6.cell? ⟨Nb, 0, none⟩ = some (.int .i64 n) := HN6.out.cell 0
    go_wp2_with fail
    refine P1.out.mono ?_; rintro e w7 ⟨Bk, Bo, v7, rfl, hk7, ho7, hs7, hBk, hBo, hfar, hb7⟩
    have hit := picks_itN S n v7 Bk Bo w7 (by have := HSL.out; omega) hk7 ho7 hs7
    have hcp := cp_range hk7 ho7 hs7 hBk hBo hfar
    obtain ⟨P, hP⟩ : ∃ P, picksL S n = P := ⟨_, rfl⟩
    have hPm : ∀ p, p ∈ P → Rising p ∧ (∀ y, y ∈ p → y ∈ S) ∧ p.length = n := by rw [← hP]; exact fun p hp => picksL_mem HSR.out hp
    have hPl : ∀ i, i + 1 < P.length → cmpL (P.getD i []) (P.getD (i + 1) []) = -1 := by rw [← hP]; exact fun i hi => picksL_lex HSR.out n hi
    rw [hP] at hit
    have h67 := hb7.size
    rw [hs6] at h67
    have H37 : Hid (Below w3.heap.size w3 w7) := Lib.hid (H36.out.trans (hb7.mono (by have := H36.out.size; omega)))
    have hI0 : ∀ g, w7.heap.size + 2 ≤ g → O1 w3 Sb Nb (Nb + 1) (Nb + 1 + 1) (.slice AS kS cS) n P w7.heap.size g 0 w7 := fun g _ =>
      ⟨HSB6.out.below hb7 (by rw [hs6]; omega), HN6.out.below hb7 (by rw [hs6]; omega), HC6.out.below hb7 (by rw [hs6]; omega), ⟨_, HL6.out.below hb7 (by rw [hs6]; omega), Or.inl rfl⟩, H37.out⟩
    rw [hs6] at hcp
    have hKB : ∀ k, k < P.length → (k : Int) ≤ 1000000 := by rw [← hP]; exact fun k hk => by have := picksL_few (S := S) (by have := HSL.out; omega) n; omega
    have HKB := Lib.hid hKB; clear hKB
    have HIT := Lib.hid hit; have HCP := Lib.hid hcp; have HPM := Lib.hid hPm; have HPL := Lib.hid hPl; have HI0 := Lib.hid hI0; have HPE := Lib.hid hP
    have hS3w : SeqC w3 (.slice AS kS cS) S := HSC.out
    have HSC3 := Lib.hid hS3w
    clear hk7 ho7 hs7 hBk hBo hfar hb7 hit hcp hP hPm hPl hI0 HSB6 HN6 HC6 HL6 H36 HS6 P1 hS3w
    go_wp2_with fail
    refine range_ints (gf := 34) (lb := #[.pointer (some ⟨Bk, 0, none⟩), .pointer (some ⟨Bo, 0, none⟩)]) rfl (enters_of Try.func34 (by kernel_rfl) rfl) HIT.out (fun b hb => (HCP.out b hb).2) rfl
      (fun g k W => O1 w3 Sb Nb (Nb + 1) (Nb + 1 + 1) (.slice AS kS cS) n P w7.heap.size g k W) (fun _ _ _ _ => False)
      (fun g k A A' r hg hr h hgr => h.kept hgr (by omega) (by omega) (by omega) (by omega) (by omega) (by omega)) (fun _ _ _ _ _ _ _ _ h _ => h) HI0.out ?a1 ?assign ?body ?done ?stop
    case assign =>
      intro l v W K hK
      gi_wp2
      exact hK
    case stop =>
      rintro c g k W _ _ _ h _
      exact h.elim
    case body =>
      rintro l g k v W hg hk ⟨hs, hn, hc, ⟨vl, hl, hv⟩, hbel⟩ hsz hgl hrow hne
      obtain ⟨p, hp⟩ : ∃ p, P.getD k [] = p := ⟨_, rfl⟩
      have hpm : p ∈ P := by rw [← hp]; simp [List.getD, hk]
      obtain ⟨pr, pm, pl⟩ := HPM.out p hpm
      rw [hp, pl] at hrow
      obtain ⟨Av, cv, rfl⟩ := own_form hrow
      have hseq : SeqC W (.slice Av n cv) p := own_seqC hrow
      have hfarv : ∀ b, (Value.slice Av n cv).ownBlock = some b → w7.heap.size + 2 ≤ b ∧ b ≠ g := fun b hb => ⟨(hrow.lt b hb).1, fun e => hne (by rw [← e]; exact hb)⟩
      have hSW : SeqC W (.slice AS kS cS) S := HSC3.out.below hbel (Nat.le_refl _)
      have hwi : withinB p S = true := (withinB_iff pr HSR.out).2 pm
      have R1 := rightC hseq.1 (by omega) true (risingB_true pr)
      have HS := Lib.hid hs; have HN := Lib.hid hn; have HC := Lib.hid hc; have HL := Lib.hid hl; have HV := Lib.hid hv; have HBE := Lib.hid hbel; have HSEQ := Lib.hid hseq; have HSW := Lib.hid hSW; have HWI := Lib.hid hwi
      have HFAR := Lib.hid hfarv; have HPP := Lib.hid hp; have HPLEN := Lib.hid pl; have HK := Lib.hid hk; have HRR := Lib.hid R1
      have hkP : k ≤ 1000000 ∨ True := Or.inr trivial
      clear hs hn hc hl hv hbel hseq hSW hwi hp pr pm pl hpm hne hrow hfarv hk R1 hkP
      gi_wp2_with fail
      refine ⟨trivial, ?_⟩
      refine (CallsIn.inRound l (callsIn_wide.2 HRR.out)).mono ?_
      rintro e W1 ⟨rfl, hb1⟩
      have hN1 := HN.out.below hb1 HN.out.lt
      have cS1 : W1.cell? ⟨Sb, 0, none⟩ = some (.slice AS kS cS) := (HS.out.below hb1 HS.out.lt).cell 0
      have WI1 := withinC (HSEQ.out.below hb1 (Nat.le_refl _)) (HSW.out.below hb1 (Nat.le_refl _)) (by rw [HPLEN.out]; omega) (by have := HSL.out; omega) true HWI.out
      have HB1 := Lib.hid hb1; have HW1 := Lib.hid WI1
      clear hb1 WI1 hN1
      gi_wp2_with fail
      refine ⟨trivial, ?_⟩
      refine (CallsIn.inRound l (callsIn_wide.2 HW1.out)).mono ?_
      rintro e W2 ⟨rfl, hb2⟩
      have hB2 : Below W.heap.size W W2 := HB1.out.trans (hb2.mono HB1.out.size)
      have hN2 := HN.out.below hB2 HN.out.lt
      have hC2 := HC.out.below hB2 HC.out.lt
      have hL2 := HL.out.below hB2 HL.out.lt
      have cN2 : W2.cell? ⟨Nb, 0, none⟩ = some (.int .i64 n) := hN2.cell 0
      have fC2 := hC2.free 0
      have fL2 := hL2.free 0
      have tn : ((n : Int) != n) = false := by simp
      have HB2 := Lib.hid hB2
      have HOO : Hid (O1 w3 Sb Nb (Nb + 1) (Nb + 1 + 1) (.slice AS kS cS) n P w7.heap.size g k W) := Lib.hid ⟨HS.out, HN.out, HC.out, ⟨vl, HL.out, HV.out⟩, HBE.out⟩
      have NX := fun (W3 : World) (h3 : Below W.heap.size W W3) => o1_round (Cp := CpOf Bk Bo S.length v7) HOO.out h3 (by omega) (by omega) h67 hsz hgl hg HCP.out (by rw [HPP.out]; exact HSEQ.out.1) HFAR.out
      have HNX := Lib.hid NX
      rcases k with _ | k
      · have cC2 : W2.cell? ⟨Nb + 1, 0, none⟩ = some (.int .i64 0) := hC2.cell 0
        have cL2 : W2.cell? ⟨Nb + 1 + 1, 0, none⟩ = some vl := hL2.cell 0
        clear hb2 hB2 hN2 hC2 hL2 NX
        gi_wp2_with fail
        refine ⟨trivial, ?_⟩
        gi_wp2_with fail
        exact HNX.out W2 HB2.out
      · have cC2 : W2.cell? ⟨Nb + 1, 0, none⟩ = some (.int .i64 ((k + 1 : Nat) : Int)) := hC2.cell 0
        have cL2 : W2.cell? ⟨Nb + 1 + 1, 0, none⟩ = some vl := hL2.cell 0
        have t0k : decide ((0 : Int) < (k : Int) + 1) = true := decide_eq_true (by omega)
        have hvl : SeqV W vl (P.getD k []) := by
          rcases HV.out with h | h
          · cases h
          · exact h.1
        have hmk : P.getD k [] ∈ P := by have := HK.out; simp [List.getD, show k < P.length by omega]
        have hlk := (HPM.out _ hmk).2.2
        have CC := compareC (hvl.below hB2 (Nat.le_refl _)) (HSEQ.out.1.below hB2 (Nat.le_refl _)) (by rw [hlk]; omega) (by rw [HPLEN.out]; omega) (-1) (by rw [← HPP.out]; exact HPL.out k HK.out)
        have HCC := Lib.hid CC
        have hkb : (k : Int) ≤ 1000000 := by have := HKB.out (k + 1) HK.out; omega
        clear hb2 hB2 hN2 hL2 NX hvl hmk hlk CC
        gi_wp2_with fail
        refine ⟨trivial, ?_⟩
        refine (CallsIn.inRound l (callsIn_wide.2 HCC.out)).mono ?_
        rintro e W3 ⟨rfl, hb3⟩
        have hC3 := hC2.below hb3 hC2.lt
        have cC3 : W3.cell? ⟨Nb + 1, 0, none⟩ = some (.int .i64 ((k + 1 : Nat) : Int)) := hC3.cell 0
        have fC3 := hC3.free 0
        have hL3 := (HL.out.below HB2.out HL.out.lt).below hb3 (by have := HB2.out.size; have := HL.out.lt; omega)
        have cL3 : W3.cell? ⟨Nb + 1 + 1, 0, none⟩ = some vl := hL3.cell 0
        have fL3 := hL3.free 0
        have HB3 : Hid (Below W.heap.size W W3) := Lib.hid (HB2.out.trans (hb3.mono HB2.out.size))
        clear hb3 hC3 hC2 hL3 cC2 cL2 fC2 fL2 cN2
        gi_wp2_with fail
        exact HNX.out W3 HB3.out
    case done =>
      rintro g1 X1 hg1 ⟨hs, hn, hc, ⟨vl, hl, _⟩, hbel⟩ hD1
      have HS := Lib.hid hs; have HN := Lib.hid hn; have HC := Lib.hid hc; have HBE := Lib.hid hbel; have HD1 := Lib.hid hD1
      have HR1 := Lib.hid (HR3.out.below hbel HR3.out.lt)
      have HSX := Lib.hid (HSC3.out.below hbel (Nat.le_refl _))
      obtain ⟨x2, hx2⟩ : ∃ W, X1.alloc (.cells #[.int .i64 0] 3) = W := ⟨_, rfl⟩
      obtain ⟨Ob, hOb⟩ : ∃ b, X1.heap.size = b := ⟨_, rfl⟩
      have hb2 : Below X1.heap.size X1 x2 := by rw [← hx2]; exact (Below.refl _ _).alloc (Nat.le_refl _) _
      have hO2 : Whole x2 Ob 3 #[.int .i64 0] := by rw [← hx2, ← hOb]; exact Whole.new _ _ _
      have cS2 : x2.cell? ⟨Sb, 0, none⟩ = some (.slice AS kS cS) := (hs.below hb2 hs.lt).cell 0
      have P2 := Lib.hid (picks_any S (0 : Nat) _ x2 (HSX.out.below hb2 (Nat.le_refl _)).1 (by have := HSL.out; omega))
      have hsz2 : x2.heap.size = Ob + 1 := by rw [← hx2, ← hOb]; simp
      have HX2 := Lib.hid hx2; have HOE := Lib.hid hOb; have HB2 := Lib.hid hb2; have HO2 := Lib.hid hO2
      have hNO : Nb + 2 < Ob := by have := hl.lt; omega
      have hDO : w7.heap.size < Ob := by have := (Array.getElem?_eq_some_iff.1 hD1).1; omega
      have h3O : w3.heap.size ≤ Ob := by have := hbel.size; omega
      clear hs hn hc hl hbel hD1 hx2 hb2 hO2 hOb
      go_upto_region 18 with fail
      rw [HX2.out, HOE.out]
      clear HX2
      go_wp2_with fail
      refine P2.out.mono ?_; rintro e x3 ⟨Bk2, Bo2, v3, rfl, hk3, ho3, hs3, hBk2, hBo2, hfar3, hb3⟩
      have hit := picks_itN S 0 v3 Bk2 Bo2 x3 (by have := HSL.out; omega) hk3 ho3 hs3
      have hcp := cp_range hk3 ho3 hs3 hBk2 hBo2 hfar3
      rw [picksL_zero] at hit
      rw [hsz2] at hcp
      have hx3 := hb3.size
      rw [hsz2] at hx3
      have hI0 : ∀ g, x3.heap.size + 2 ≤ g → Cnt X1 Ob g 0 x3 := fun g _ => ⟨HO2.out.below hb3 HO2.out.lt, HB2.out.trans (hb3.mono HB2.out.size)⟩
      have HIT2 := Lib.hid hit; have HCP2 := Lib.hid hcp; have HI2 := Lib.hid hI0
      clear hk3 ho3 hs3 hBk2 hBo2 hfar3 hb3 hit hcp hI0 P2 HO2 HB2
      go_wp2_with fail
      refine range_ints (gf := 34) (lb := #[.pointer (some ⟨Bk2, 0, none⟩), .pointer (some ⟨Bo2, 0, none⟩)]) rfl (enters_of Try.func34 (by kernel_rfl) rfl) HIT2.out (fun b hb => (HCP2.out b hb).2) rfl
        (fun g k W => Cnt X1 Ob g k W) (fun _ _ _ _ => False)
        (fun g k A A' r hg hr h hgr => h.kept hgr (by rw [HOE.out]; omega) (by omega)) (fun _ _ _ _ _ _ _ _ h _ => h) HI2.out ?a2 ?assign2 ?body2 ?done2 ?stop2
      case assign2 =>
        intro l v W K hK
        gi_wp2
        exact hK
      case stop2 =>
        rintro c g k W _ _ _ h _
        exact h.elim
      case body2 =>
        rintro l g k v W hg hk hcnt hsz hgl hrow hne
        obtain rfl : k = 0 := by simpa using hk
        obtain ⟨Av, cv, rfl⟩ := own_form hrow
        have c1 : W.cell? ⟨Ob, 0, none⟩ = some (.int .i64 0) := hcnt.1.cell 0
        have f1 := hcnt.1.free 0
        have NX := Lib.hid (hcnt.round (D := x3.heap.size) (Cp := CpOf Bk2 Bo2 S.length v3) 1 (by rw [HOE.out]; omega) hgl hg hsz (by omega) (fun b hb => by have := HCP2.out b hb; omega))
        clear hcnt hrow
        gi_wp2_with fail
        exact NX.out
      case done2 =>
        rintro g2 X2 hg2 ⟨hO, hbel⟩ hD2
        have hOl := hO.lt
        have HO := Lib.hid hO; have HBE2 := Lib.hid hbel; have HD2 := Lib.hid hD2
        have cS2 : X2.cell? ⟨Sb, 0, none⟩ = some (.slice AS kS cS) := (HS.out.below hbel HS.out.lt).cell 0
        have cC2 : X2.cell? ⟨Nb + 1, 0, none⟩ = some (.int .i64 P.length) := (HC.out.below hbel HC.out.lt).cell 0
        have cN2 : X2.cell? ⟨Nb, 0, none⟩ = some (.int .i64 n) := (HN.out.below hbel HN.out.lt).cell 0
        have cO2 : X2.cell? ⟨Ob, 0, none⟩ = some (.int .i64 1) := hO.cell 0
        have hR2 := HR1.out.below hbel HR1.out.lt
        have cR2 : X2.cell? ⟨w.heap.size, 0, none⟩ = some (.bool false) := hR2.cell 0
        have fR2 := hR2.free 0
        have hwl : w.heap.size < Sb := by have := HR3.out.lt; rw [HSBE.out] at this; exact this
        have HR2 := Lib.hid hR2
        have hx2s : x3.heap.size < X2.heap.size := (Array.getElem?_eq_some_iff.1 hD2).1
        have hD1' : X2.heap[w7.heap.size]? = some (.deferred (some [])) := (hbel.block _ (by rw [HOE.out]; omega)).trans HD1.out
        have HD1' := Lib.hid hD1'
        have hbw : Below w.heap.size w X2 := by
          have h1 : Below w.heap.size w w3 := HB0.out.trans (BW_3.out.mono HB0.out.size)
          exact (h1.trans (HBE.out.mono h1.size)).trans (hbel.mono (by have := h1.size; have := HBE.out.size; omega))
        have HBW := Lib.hid hbw
        have fin : ∀ (Y : World), Below X2.heap.size X2 Y → Below w.heap.size w (Y.setCell ⟨w.heap.size, 0, none⟩ (.bool true)) ∧ Whole (Y.setCell ⟨w.heap.size, 0, none⟩ (.bool true)) w.heap.size 4 #[.bool true] ∧ (Y.setCell ⟨w.heap.size, 0, none⟩ (.bool true)).heap[w7.heap.size]? = some (.deferred (some [])) ∧ (Y.setCell ⟨w.heap.size, 0, none⟩ (.bool true)).heap[x3.heap.size]? = some (.deferred (some [])) := fun Y hY => by
          refine ⟨(HBW.out.trans (hY.mono HBW.out.size)).setCell (by simp) _, (HR2.out.below hY HR2.out.lt).put 0 _, ?_, ?_⟩
          · rw [Below.heap_setCell _ _ _ _ (by show w7.heap.size ≠ w.heap.size; omega), hY.block _ (by omega)]; exact HD1'.out
          · rw [Below.heap_setCell _ _ _ _ (by show x3.heap.size ≠ w.heap.size; omega), hY.block _ hx2s]; exact HD2.out
        have FIN := Lib.hid fin
        have hPL : S = [] → P.length = 0 := by rintro rfl; rw [← HPE.out]; obtain ⟨j, hj⟩ : ∃ j, n = j + 1 := ⟨n - 1, by omega⟩; rw [hj]; exact picksL_nil j
        have HPLN := Lib.hid hPL
        clear hO hbel hD2 hR2 hD1' hbw fin hPL
        rcases hSS : S with _ | ⟨s0, T⟩
        · have hk0 : kS = 0 := by rw [← HKS.out, hSS]; rfl
          have hp0 := HPLN.out hSS
          subst hk0
          rw [hp0] at cC2
          have HQ := Lib.hid (FIN.out X2 (Below.refl _ _))
          clear hSS hp0
          go_wp2_with fail
          obtain ⟨q1, q2, q3, q4⟩ := HQ.out
          refine ⟨by simp, .inl ⟨_, _, rfl, run_takeDeferred q4, ?_⟩⟩
          refine ⟨by simp, .inl ⟨_, _, rfl, run_takeDeferred ((World.putObj_heap_other (by omega)).trans q3), ?_⟩⟩
          have r2 := (q2.grown (grownBy_putObj' _ x3.heap.size (.deferred none)) (by simp; omega)).grown (grownBy_putObj' _ w7.heap.size (.deferred none)) (by simp; omega)
          exact ⟨_, results_bool rfl _ _ _ _ rfl r2, rfl, (q1.grown (grownBy_putObj' _ x3.heap.size (.deferred none)) q1.size (fun j hj => by cases hj; omega)).grown (grownBy_putObj' _ w7.heap.size (.deferred none)) (by have := q1.size; simpa using this) (fun j hj => by cases hj; omega)⟩
        · have hkT : kS = T.length + 1 := by rw [← HKS.out, hSS]; rfl
          obtain ⟨m, hm⟩ : ∃ m, T.length = m := ⟨_, rfl⟩
          rw [hm] at hkT
          subst hkT
          obtain ⟨j, rfl⟩ : ∃ j, n = j + 1 := ⟨n - 1, by omega⟩
          have hcnt : P.length = (picksL T j).length + (picksL T (j + 1)).length := by rw [← HPE.out, hSS]; exact picksL_cons s0 T j
          have hseq0 := HSX.out.below HBE2.out (Nat.le_refl _)
          rw [hSS] at hseq0
          obtain ⟨pb, po, pc, epb, hpc, _⟩ := seqC_head hseq0
          injection epb with e1 e2 e3
          subst e1 e3
          clear e2
          rw [hm] at hpc
          have hseqT : ∃ A1 c1, SeqC X2 (.slice A1 m c1) T ∧ ((cS = 1 ∧ m = 0) ∨ (A1 = some ⟨pb, po + 1, none⟩ ∧ c1 = cS - 1 ∧ ¬ cS = 1)) := by
            by_cases hc1 : cS = 1
            · have hm0 : m = 0 := by omega
              subst hm0
              have hT : T = [] := List.eq_nil_of_length_eq_zero hm
              subst hT
              exact ⟨none, 0, seqC_one _ _ _, Or.inl ⟨hc1, rfl⟩⟩
            · exact ⟨_, _, seqC_tail hseq0.1 hm hpc, Or.inr ⟨rfl, rfl, hc1⟩⟩
          obtain ⟨x4, hx4⟩ : ∃ W, (X2.alloc (.cells #[.int .i64 0] 3)).alloc (.cells #[.int .i64 0] 3) = W := ⟨_, rfl⟩
          obtain ⟨Wb, hWb⟩ : ∃ b, X2.heap.size = b := ⟨_, rfl⟩
          have hb4 : Below X2.heap.size X2 x4 := by rw [← hx4]; exact ((Below.refl _ _).alloc (Nat.le_refl _) _).alloc (by simp) _
          have hW4 : Whole x4 Wb 3 #[.int .i64 0] := by rw [← hx4, ← hWb]; exact (Whole.new _ _ _).alloc _
          have hU4 : Whole x4 (Wb + 1) 3 #[.int .i64 0] := by
            rw [← hx4, ← hWb]
            have := Whole.new (X2.alloc (.cells #[.int .i64 0] 3)) 3 #[.int .i64 0]
            rwa [World.size_alloc] at this
          have hsz4 : x4.heap.size = Wb + 2 := by rw [← hx4, ← hWb]; simp
          have hSl2 : Sb < X2.heap.size := by omega
          have hNl2 : Nb < X2.heap.size := by omega
          have cS4 : x4.cell? ⟨Sb, 0, none⟩ = some (.slice (some ⟨pb, po, none⟩) (m + 1) cS) := (hb4.cell (p := ⟨Sb, 0, none⟩) hSl2).trans cS2
          have cN4 : x4.cell? ⟨Nb, 0, none⟩ = some (.int .i64 ((j + 1 : Nat) : Int)) := (hb4.cell (p := ⟨Nb, 0, none⟩) hNl2).trans cN2
          have tk0 : (((m : Int) + 1) == 0) = false := beq_eq_false_iff_ne.2 (by omega)
          have HX4 := Lib.hid hx4; have HWE := Lib.hid hWb; have HB4 := Lib.hid hb4; have HW4 := Lib.hid hW4; have HU4 := Lib.hid hU4; have HST := Lib.hid hseqT; have HCNT := Lib.hid hcnt; have HSS := Lib.hid hSS; have HM := Lib.hid hm
          clear hx4 hWb hb4 hW4 hU4 hseqT hcnt hSS hseq0 hm
          go_upto_region 24 with fail
          rw [HX4.out]
          clear HX4
          have HT4 : Hid (∃ A1 c1, SeqC x4 (.slice A1 m c1) T ∧ ((cS = 1 ∧ m = 0) ∨ (A1 = some ⟨pb, po + 1, none⟩ ∧ c1 = cS - 1 ∧ ¬ cS = 1))) := Lib.hid (by obtain ⟨A1, c1, h1, h2⟩ := HST.out; exact ⟨A1, c1, h1.below HB4.out (Nat.le_refl _), h2⟩)
          go_cut [125] from 121 to 125 (fun c wx => PicksTo T (j : Nat) x4 (.returned c) wx)
          case first =>
            obtain ⟨A1, c1, hT, hcase⟩ := HT4.out
            have s1 : (1 : Int) ≤ ((m + 1 : Nat) : Int) := by omega
            have s2 : (1 : Int) ≤ (m : Int) + 1 := by omega
            rcases hcase with ⟨h1, h2⟩ | ⟨h1, h2, h3⟩
            · have hTn : T = [] := List.eq_nil_of_length_eq_zero (HM.out.trans h2)
              have PK := Lib.hid (fun (W : World) (A' : Option Addr) (c' : Nat) => picks_any T (j : Nat) (.slice A' m c') W (by rw [hTn, h2]; exact seqV_nil _ _ _) (by rw [hTn]; simp))
              have hsl := slice_from1c pb po m
              clear hT hTn h2
              subst h1
              go_still_tail 4, (by kernel_rfl)
              change wpList _ _ _ _ _ (World.drew x4)
              go_wp2_with fail
              refine (PK.out _ _ _).mono ?_
              rintro e wz hto
              have hto' := picksTo_drew hto
              obtain ⟨z1, z2, z3, rfl, _⟩ := id hto
              go_wp2_with fail
              go_meet
              exact hto'
            · have PK := Lib.hid (picks_any T (j : Nat) (.slice A1 m c1) (World.drew x4) (show SeqV (World.drew x4) _ T from hT.1) (by rw [HM.out]; omega))
              have hsl := slice_from1 pb po m cS h3
              clear hT
              subst h1 h2
              go_still_tail 4, (by kernel_rfl)
              change wpList _ _ _ _ _ (World.drew x4)
              go_wp2_with fail
              refine PK.out.mono ?_
              rintro e wz hto
              have hto' := picksTo_drew hto
              obtain ⟨z1, z2, z3, rfl, _⟩ := id hto
              go_wp2_with fail
              go_meet
              exact hto'
          case rest =>
            obtain ⟨Bk4, Bo4, v4, e4, hk4, ho4, hs4, hBk4, hBo4, hfar4, hb5⟩ := hcut
            injection e4 with e4
            subst e4
            have hTl : T.length ≤ 9 := by rw [HM.out]; omega
            have hit := picks_itN T j v4 Bk4 Bo4 wc (by omega) hk4 ho4 hs4
            have hcp := cp_range hk4 ho4 hs4 hBk4 hBo4 hfar4
            rw [hsz4] at hcp
            have hx5 := hb5.size
            rw [hsz4] at hx5
            obtain ⟨x5, rfl⟩ : ∃ x, x = wc := ⟨_, rfl⟩
            have hI0 : ∀ g, x5.heap.size + 2 ≤ g → Cnt2 X2 Wb (Wb + 1) g 0 0 x5 := fun g _ => ⟨HW4.out.below hb5 HW4.out.lt, HU4.out.below hb5 HU4.out.lt, HB4.out.trans (hb5.mono HB4.out.size)⟩
            have HIT4 := Lib.hid hit; have HCP4 := Lib.hid hcp; have HI4 := Lib.hid hI0
            have hWX : X2.heap.size = Wb := HWE.out
            have hWX' : X2.heap.size ≤ Wb := by omega
            clear hk4 ho4 hs4 hBk4 hBo4 hfar4 hb5 hit hcp hI0 HW4 HU4 HT4 hWX cS4 cN4
            rw [HWE.out]
            go_wp2_with fail
            refine range_ints (gf := 34) (lb := #[.pointer (some ⟨Bk4, 0, none⟩), .pointer (some ⟨Bo4, 0, none⟩)]) rfl (enters_of Try.func34 (by kernel_rfl) rfl) HIT4.out (fun b hb => (HCP4.out b hb).2) rfl
              (fun g k W => Cnt2 X2 Wb (Wb + 1) g k 0 W) (fun _ _ _ _ => False)
              (fun g k A A' r hg hr h hgr => h.kept hgr (by omega) (by omega) (by omega)) (fun _ _ _ _ _ _ _ _ h _ => h) HI4.out ?a4 ?assign4 ?body4 ?done4 ?stop4
            case assign4 =>
              intro l v W K hK
              gi_wp2
              exact hK
            case stop4 =>
              rintro c g k W _ _ _ h _
              exact h.elim
            case body4 =>
              rintro l g k v W hg hk hcnt hsz hgl hrow hne
              have c1 : W.cell? ⟨Wb, 0, none⟩ = some (.int .i64 k) := hcnt.1.cell 0
              have f1 := hcnt.1.free 0
              have hfew : (picksL T j).length ≤ 65536 := picksL_few (by omega) j
              have hkb : k ≤ 65536 := by omega
              have NX := Lib.hid (hcnt.round1 (D := x5.heap.size) (Cp := CpOf Bk4 Bo4 T.length v4) hWX' hgl hg hsz (by omega) (by omega) (fun b hb => by have := HCP4.out b hb; omega))
              clear hcnt hrow hfew hk
              gi_wp2_with fail
              exact NX.out
            case done4 =>
              rintro g4 X5 hg4 ⟨hW, hU, hbel5⟩ hD4
              have HW5 := Lib.hid hW; have HU5 := Lib.hid hU; have HBE5 := Lib.hid hbel5; have HD5 := Lib.hid hD4
              have hD5l : x5.heap.size < X5.heap.size := (Array.getElem?_eq_some_iff.1 hD4).1
              have hX5 := hbel5.size
              have hUl := hU.lt
              have cS5 : X5.cell? ⟨Sb, 0, none⟩ = some (.slice (some ⟨pb, po, none⟩) (m + 1) cS) := (hbel5.cell (p := ⟨Sb, 0, none⟩) hSl2).trans cS2
              have cN5 : X5.cell? ⟨Nb, 0, none⟩ = some (.int .i64 ((j + 1 : Nat) : Int)) := (hbel5.cell (p := ⟨Nb, 0, none⟩) hNl2).trans cN2
              have HT5 : Hid (∃ A1 c1, SeqC X5 (.slice A1 m c1) T ∧ ((cS = 1 ∧ m = 0) ∨ (A1 = some ⟨pb, po + 1, none⟩ ∧ c1 = cS - 1 ∧ ¬ cS = 1))) := Lib.hid (by obtain ⟨A1, c1, h1, h2⟩ := HST.out; exact ⟨A1, c1, h1.below hbel5 (Nat.le_refl _), h2⟩)
              clear hW hU hbel5 hD4
              go_upto_region 26 with fail
              go_cut [132] from 129 to 132 (fun c wx => PicksTo T (j + 1 : Nat) X5 (.returned c) wx)
              case first =>
                obtain ⟨A1, c1, hT, hcase⟩ := HT5.out
                have s1 : (1 : Int) ≤ ((m + 1 : Nat) : Int) := by omega
                have s2 : (1 : Int) ≤ (m : Int) + 1 := by omega
                rcases hcase with ⟨h1, h2⟩ | ⟨h1, h2, h3⟩
                · have hTn : T = [] := List.eq_nil_of_length_eq_zero (HM.out.trans h2)
                  have PK := Lib.hid (fun (W : World) (A' : Option Addr) (c' : Nat) => picks_any T (j + 1 : Nat) (.slice A' m c') W (by rw [hTn, h2]; exact seqV_nil _ _ _) (by rw [hTn]; simp))
                  have hsl := slice_from1c pb po m
                  clear hT hTn h2
                  subst h1
                  go_still_tail 3, (by kernel_rfl)
                  change wpList _ _ _ _ _ (World.drew X5)
                  go_wp2_with fail
                  refine (PK.out _ _ _).mono ?_
                  rintro e wz hto
                  have hto' := picksTo_drew hto
                  obtain ⟨z1, z2, z3, rfl, _⟩ := id hto
                  go_wp2_with fail
                  go_meet
                  exact hto'
                · have PK := Lib.hid (picks_any T (j + 1 : Nat) (.slice A1 m c1) (World.drew X5) (show SeqV (World.drew X5) _ T from hT.1) (by rw [HM.out]; omega))
                  have hsl := slice_from1 pb po m cS h3
                  clear hT
                  subst h1 h2
                  go_still_tail 3, (by kernel_rfl)
                  change wpList _ _ _ _ _ (World.drew X5)
                  go_wp2_with fail
                  refine PK.out.mono ?_
                  rintro e wz hto
                  have hto' := picksTo_drew hto
                  obtain ⟨z1, z2, z3, rfl, _⟩ := id hto
                  go_wp2_with fail
                  go_meet
                  exact hto'
              case rest =>
                obtain ⟨Bk6, Bo6, v6, e6, hk6, ho6, hs6', hBk6, hBo6, hfar6, hb6⟩ := hcut
                injection e6 with e6
                subst e6
                have hit := picks_itN T (j + 1) v6 Bk6 Bo6 wc (by omega) hk6 ho6 hs6'
                have hcp := cp_range hk6 ho6 hs6' hBk6 hBo6 hfar6
                have hx6 := hb6.size
                obtain ⟨x6, rfl⟩ : ∃ x, x = wc := ⟨_, rfl⟩
                have hI0 : ∀ g, x6.heap.size + 2 ≤ g → (Cnt2 X2 Wb (Wb + 1) g (picksL T j).length 0 x6 ∧ x6.heap[x5.heap.size]? = some (.deferred (some []))) := fun g _ => ⟨⟨HW5.out.below hb6 HW5.out.lt, HU5.out.below hb6 HU5.out.lt, HBE5.out.trans (hb6.mono HBE5.out.size)⟩, (hb6.block _ hD5l).trans HD5.out⟩
                have HIT6 := Lib.hid hit; have HCP6 := Lib.hid hcp; have HI6 := Lib.hid hI0
                clear hk6 ho6 hs6' hBk6 hBo6 hfar6 hb6 hit hcp hI0 HW5 HU5 HT5 cS5 cN5 HBE5 HD5
                go_wp2_with fail
                refine range_ints (gf := 34) (lb := #[.pointer (some ⟨Bk6, 0, none⟩), .pointer (some ⟨Bo6, 0, none⟩)]) rfl (enters_of Try.func34 (by kernel_rfl) rfl) HIT6.out (fun b hb => (HCP6.out b hb).2) rfl
                  (fun g k W => Cnt2 X2 Wb (Wb + 1) g (picksL T j).length k W ∧ W.heap[x5.heap.size]? = some (.deferred (some []))) (fun _ _ _ _ => False)
                  (fun g k A A' r hg hr h hgr => ⟨h.1.kept hgr (by omega) (by omega) (by omega), (hgr.block _ (Array.getElem?_eq_some_iff.1 h.2).1 (by simp; omega)).trans h.2⟩) (fun _ _ _ _ _ _ _ _ h _ => h) HI6.out ?a6 ?assign6 ?body6 ?done6 ?stop6
                case assign6 =>
                  intro l v W K hK
                  gi_wp2
                  exact hK
                case stop6 =>
                  rintro c g k W _ _ _ h _
                  exact h.elim
                case body6 =>
                  rintro l g k v W hg hk ⟨hcnt, hdd⟩ hsz hgl hrow hne
                  have c1 : W.cell? ⟨Wb + 1, 0, none⟩ = some (.int .i64 k) := hcnt.2.1.cell 0
                  have f1 := hcnt.2.1.free 0
                  have hfew : (picksL T (j + 1)).length ≤ 65536 := picksL_few (by omega) (j + 1)
                  have hkb : k ≤ 65536 := by omega
                  have NX := Lib.hid (hcnt.round2 (D := x6.heap.size) (Cp := CpOf Bk6 Bo6 T.length v6) hWX' hgl hg hsz (by omega) (fun b hb => by have := HCP6.out b hb; omega))
                  have ND : Hid ((W.setCell ⟨Wb + 1, 0, none⟩ (.int .i64 ((k : Int) + 1))).heap[x5.heap.size]? = some (.deferred (some []))) := Lib.hid ((Below.heap_setCell _ _ _ _ (by show x5.heap.size ≠ Wb + 1; omega)).trans hdd)
                  clear hcnt hrow hfew hk hdd
                  gi_wp2_with fail
                  exact ⟨NX.out.1, NX.out.2, ND.out⟩
                case done6 =>
                  rintro g6 X6 hg6 ⟨⟨hW, hU, hbel6⟩, hdd⟩ hD6
                  have cW : X6.cell? ⟨Wb, 0, none⟩ = some (.int .i64 ((picksL T j).length : Nat)) := hW.cell 0
                  have cU : X6.cell? ⟨Wb + 1, 0, none⟩ = some (.int .i64 ((picksL T (j + 1)).length : Nat)) := hU.cell 0
                  have cC6 : X6.cell? ⟨Nb + 1, 0, none⟩ = some (.int .i64 P.length) := (hbel6.cell (p := ⟨Nb + 1, 0, none⟩) (by show Nb + 1 < X2.heap.size; omega)).trans cC2
                  have cO6 : X6.cell? ⟨Ob, 0, none⟩ = some (.int .i64 1) := (hbel6.cell (p := ⟨Ob, 0, none⟩) (by show Ob < X2.heap.size; omega)).trans cO2
                  have cR6 : X6.cell? ⟨w.heap.size, 0, none⟩ = some (.bool false) := (hbel6.cell (p := ⟨w.heap.size, 0, none⟩) (by show w.heap.size < X2.heap.size; omega)).trans cR2
                  have hR6 := HR2.out.below hbel6 HR2.out.lt
                  have fR6 := hR6.free 0
                  obtain ⟨N3, hN3⟩ : ∃ x, (picksL T j).length = x := ⟨_, rfl⟩
                  obtain ⟨N4, hN4⟩ : ∃ x, (picksL T (j + 1)).length = x := ⟨_, rfl⟩
                  obtain ⟨N1, hN1⟩ : ∃ x, P.length = x := ⟨_, rfl⟩
                  have hsum := HCNT.out
                  have b3 : N3 ≤ 65536 := by rw [← hN3]; exact picksL_few (by omega) j
                  have b4 : N4 ≤ 65536 := by rw [← hN4]; exact picksL_few (by omega) (j + 1)
                  rw [hN3] at cW
                  rw [hN4] at cU
                  rw [hN1] at cC6
                  rw [hN1, hN3, hN4] at hsum
                  have teq : ((N1 : Int) == (N3 : Int) + (N4 : Int)) = true := beq_iff_eq.2 (by omega)
                  obtain ⟨q1, q2, q3, q4⟩ := FIN.out X6 hbel6
                  have q5 : (X6.setCell ⟨w.heap.size, 0, none⟩ (.bool true)).heap[x5.heap.size]? = some (.deferred (some [])) := (Below.heap_setCell _ _ _ _ (by show x5.heap.size ≠ w.heap.size; omega)).trans hdd
                  have q6 : (X6.setCell ⟨w.heap.size, 0, none⟩ (.bool true)).heap[x6.heap.size]? = some (.deferred (some [])) := (Below.heap_setCell _ _ _ _ (by show x6.heap.size ≠ w.heap.size; omega)).trans hD6
                  have HQ1 := Lib.hid q1; have HQ2 := Lib.hid q2; have HQ3 := Lib.hid q3; have HQ4 := Lib.hid q4; have HQ5 := Lib.hid q5; have HQ6 := Lib.hid q6
                  clear hW hU hbel6 hdd hD6 hR6 hN3 hN4 hN1 hsum q1 q2 q3 q4 q5 q6 cC2 cO2 cR2 fR2 cS2 cN2
                  go_wp2_with fail
                  refine ⟨by simp, .inl ⟨_, _, rfl, run_takeDeferred HQ6.out, ?_⟩⟩
                  refine ⟨by simp, .inl ⟨_, _, rfl, run_takeDeferred ((World.putObj_heap_other (by omega)).trans HQ5.out), ?_⟩⟩
                  refine ⟨by simp, .inl ⟨_, _, rfl, run_takeDeferred ((World.putObj_heap_other (by omega)).trans ((World.putObj_heap_other (by omega)).trans HQ4.out)), ?_⟩⟩
                  refine ⟨by simp, .inl ⟨_, _, rfl, run_takeDeferred ((World.putObj_heap_other (by omega)).trans ((World.putObj_heap_other (by omega)).trans ((World.putObj_heap_other (by omega)).trans HQ3.out))), ?_⟩⟩
                  have r2 := (((HQ2.out.grown (grownBy_putObj' _ x6.heap.size (.deferred none)) (by simp; omega)).grown (grownBy_putObj' _ x5.heap.size (.deferred none)) (by simp; omega)).grown (grownBy_putObj' _ x3.heap.size (.deferred none)) (by simp; omega)).grown (grownBy_putObj' _ w7.heap.size (.deferred none)) (by simp; omega)
                  have s1 := HQ1.out.size
                  exact ⟨_, results_bool rfl _ _ _ _ rfl r2, rfl, (((HQ1.out.grown (grownBy_putObj' _ x6.heap.size (.deferred none)) s1 (fun j hj => by cases hj; omega)).grown (grownBy_putObj' _ x5.heap.size (.deferred none)) (by simpa using s1) (fun j hj => by cases hj; omega)).grown (grownBy_putObj' _ x3.heap.size (.deferred none)) (by simpa using s1) (fun j hj => by cases hj; omega)).grown (grownBy_putObj' _ w7.heap.size (.deferred none)) (by simpa using s1) (fun j hj => by cases hj; omega)⟩
end Go.Proofs.Ytocpjmjlmccolaa
