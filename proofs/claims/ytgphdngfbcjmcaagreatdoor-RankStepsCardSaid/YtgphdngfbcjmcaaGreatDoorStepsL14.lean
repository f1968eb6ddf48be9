/- RankSteps: the walk. -/
import Derived.Test.YtgphdngfbcjmcaaGreatDoorJE
import Derived.Test.YtgphdngfbcjmcaaGreatDoorJB
import Derived.Deep.DeepCutAuto
import Derived.Deep.CutBlock
import Derived.Deep.QuietTactic
import Derived.BigQuiet
import Derived.WalkSmall
namespace Go.Proofs.YtgphdngfbcjmcaaGreatDoor
open Go.RowKit
attribute [local go_sem] Oper.semAt_some

/-- The parts' ends, in order. -/
def SwapR (w8 : World) (frB lo hi : Nat) (x : Value) (wx : World) : Prop := ∃ V, V = wx ∧ x = .int .i64 (hi : Nat) ∧ Whole V frB 2 #[.int .i64 (lo : Nat)] ∧ Below frB w8 V
/-- Between two paths. -/
def StepI (w5 : World) (D rB frB laB cnB : Nat) (rv : Value) (lo : Nat) (LL : Nat → List Int) (G : Nat → Prop) (k : Nat) (W : World) : Prop :=
  Below w5.heap.size w5 W ∧ D ≤ W.heap.size ∧ Whole W rB 28 #[rv] ∧ Whole W frB 2 #[.int .i64 (lo : Nat)] ∧ Whole W cnB 2 #[.int .i64 (k : Nat)] ∧ ∃ lv, Whole W laB 23 #[lv] ∧ (k = 0 → lv = .slice none 0 0) ∧ (0 < k → W.ownsRow (D + 2) 3 1 lv (LL (k - 1)).length (intCells (LL (k - 1))) ∧ ∀ b, lv.ownBlock = some b → ¬ G b)
section
variable {w5 A A' W W3 : World} {D rB frB laB cnB lo k : Nat} {rv v : Value} {LL : Nat → List Int} {G : Nat → Prop} {row : Option Nat}
theorem StepI.grown (h : StepI w5 D rB frB laB cnB rv lo LL G k A) (h5 : w5.heap.size ≤ D) (hr : rB < D ∧ frB < D ∧ laB < D ∧ cnB < D) (hG : ∀ b, G b → D + 2 ≤ b) (hrow : ∀ r, row = some r → r = D ∨ r = D + 1 ∨ G r) (hg : A.grownBy A' row) : StepI w5 D rB frB laB cnB rv lo LL G k A' := by
  obtain ⟨h1, h2, k1, k2, k3, lv, k4, k5, k6⟩ := h
  obtain ⟨r1, r2, r3, r4⟩ := hr
  have far : ∀ b, b < D → some b ≠ row := fun b hb e => by
    rcases hrow b e.symm with h | h | h
    · omega
    · omega
    · have := hG b h; omega
  refine ⟨h1.grown hg h1.size (fun k hk => ?_), Nat.le_trans h2 hg.size, k1.grown hg (far _ r1), k2.grown hg (far _ r2), k3.grown hg (far _ r4), lv, k4.grown hg (far _ r3), k5, fun hk => ⟨(k6 hk).1.kept hg ?_, (k6 hk).2⟩⟩
  · rcases hrow k hk with h | h | h
    · omega
    · omega
    · have := hG k h; omega
  · cases hb : lv.ownBlock with
    | none => exact Or.inl rfl
    | some b =>
      refine Or.inr (fun e => ?_)
      have h1 := ((k6 hk).1.lt b hb).1
      rcases hrow b e.symm with h | h | h
      · omega
      · omega
      · exact (k6 hk).2 b hb h
theorem StepI.takes (h : StepI w5 D rB frB laB cnB rv lo LL G k A) {G' : Nat → Prop} (hG : ∀ b, G' b → G b ∨ A.heap.size ≤ b) : StepI w5 D rB frB laB cnB rv lo LL G' k A := by
  obtain ⟨h1, h2, k1, k2, k3, lv, k4, k5, k6⟩ := h
  refine ⟨h1, h2, k1, k2, k3, lv, k4, k5, fun hk => ⟨(k6 hk).1, fun b hb hg => ?_⟩⟩
  rcases hG b hg with h | h
  · exact (k6 hk).2 b hb h
  · have := ((k6 hk).1.lt b hb).2
    omega
theorem StepI.round {Cp : Nat → Prop} (h : StepI w5 D rB frB laB cnB rv lo LL G k W) (_h5 : w5.heap.size ≤ D) (hr : rB < D ∧ frB < D ∧ laB < D ∧ cnB < D) (hne : rB ≠ laB ∧ rB ≠ cnB ∧ frB ≠ laB ∧ frB ≠ cnB ∧ laB ≠ cnB) (h5b : w5.heap.size ≤ laB ∧ w5.heap.size ≤ cnB) (hG : ∀ b, G b → D + 2 ≤ b ∧ b < W.heap.size) (hCp : ∀ b, Cp b → b < D ∧ b ≠ laB ∧ b ≠ cnB) (hD : D + 2 ≤ W.heap.size)
    (hv : W.ownsRow (D + 2) 3 1 v (LL k).length (intCells (LL k))) (hvG : ∀ b, v.ownBlock = some b → ¬ G b) (hb : Below W.heap.size W W3) (a : Act) (I : (Nat → Prop) → Nat → World → Prop) (hI : I = fun G k W => StepI w5 D rB frB laB cnB rv lo LL G k W) :
    roundW Cp I (fun _ _ _ _ => False) D G k W .normal a ((W3.setCell ⟨laB, 0, none⟩ v).setCell ⟨cnB, 0, none⟩ (.int .i64 ((k : Int) + 1))) := by
  obtain ⟨h1, h2, k1, k2, k3, lv, k4, k5, k6⟩ := h
  obtain ⟨r1, r2, r3, r4⟩ := hr
  obtain ⟨n1, n2, n3, n4, n5⟩ := hne
  have hs := hb.size
  subst hI
  refine ⟨⟨by rw [size_put, size_put]; exact hs, fun b hbb => ?_⟩, ?_, by rw [size_put, size_put]; omega, ?_, ?_, ?_, v, ?_, fun h => by omega, fun _ => ⟨?_, ?_⟩⟩
  · have hbb' : b < W.heap.size ∧ b ≠ laB ∧ b ≠ cnB := by
      rcases hbb with h | h | h | h
      · omega
      · omega
      · have := hG b h; omega
      · have := hCp b h; omega
    rw [Below.heap_setCell _ _ _ _ (by simpa using hbb'.2.2), Below.heap_setCell _ _ _ _ (by simpa using hbb'.2.1), hb.block b hbb'.1]
  · exact ((h1.trans (hb.mono h1.size)).setCell (by simpa using h5b.1) _).setCell (by simpa using h5b.2) _
  · exact ((k1.below hb k1.lt).other (by simpa using n1) _).other (by simpa using n2) _
  · exact ((k2.below hb k2.lt).other (by simpa using n3) _).other (by simpa using n4) _
  · exact ((k3.below hb k3.lt).other (by simpa using n5.symm) _).put 0 _
  · exact ((k4.below hb k4.lt).put 0 v).other (by simpa using n5) _
  · have := own_below hv hb (Nat.le_refl _)
    have q1 : v.ownBlock ≠ some laB := fun e => by have := (hv.lt _ e).1; omega
    have q2 : v.ownBlock ≠ some cnB := fun e => by have := (hv.lt _ e).1; omega
    exact own_put (own_put this q1 v) q2 _
  · exact hvG
end
/-- A count kept in a box. -/
def CountI (W0 : World) (oB base : Nat) (_G : Nat → Prop) (k : Nat) (W : World) : Prop := W0.grownBy W (some oB) ∧ Whole W oB 2 #[.int .i64 ((base + k : Nat) : Int)]
section
variable {W0 A A' W : World} {D oB base k : Nat} {G : Nat → Prop} {row : Option Nat}
theorem CountI.grown (h : CountI W0 oB base G k A) (h0 : W0.heap.size ≤ D) (ho : oB < D) (hG : ∀ b, G b → D + 2 ≤ b) (hrow : ∀ r, row = some r → r = D ∨ r = D + 1 ∨ G r) (hg : A.grownBy A' row) : CountI W0 oB base G k A' := by
  obtain ⟨h1, h2⟩ := h
  have far : ∀ b, b < D → some b ≠ row := fun b hb e => by
    rcases hrow b e.symm with h | h | h
    · omega
    · omega
    · have := hG b h; omega
  exact ⟨⟨hg.os.trans h1.os, hg.tape.trans h1.tape, hg.output.trans h1.output, Nat.le_trans h1.size hg.size, fun b hb hne => (hg.block b (by have := h1.size; omega) (far b (by omega))).trans (h1.block b hb hne)⟩, h2.grown hg (far _ ho)⟩
theorem CountI.round {Cp : Nat → Prop} (h : CountI W0 oB base G k W) (ho : oB < D) (hG : ∀ b, G b → D + 2 ≤ b) (hCp : ∀ b, Cp b → b ≠ oB) (a : Act) (I : (Nat → Prop) → Nat → World → Prop) (hI : I = fun G k W => CountI W0 oB base G k W) :
    roundW Cp I (fun _ _ _ _ => False) D G k W .normal a (W.setCell ⟨oB, 0, none⟩ (.int .i64 (((base + k : Nat) : Int) + 1))) := by
  obtain ⟨h1, h2⟩ := h
  subst hI
  refine ⟨⟨by rw [size_put]; exact Nat.le_refl _, fun b hb => Below.heap_setCell _ _ _ _ ?_⟩, ⟨h1.os, h1.tape, h1.output, by rw [size_put]; exact h1.size, fun b hb hne => ?_⟩, ?_⟩
  · show b ≠ oB
    rcases hb with h | h | h | h
    · omega
    · omega
    · have := hG b h; omega
    · exact hCp b h
  · rw [Below.heap_setCell _ _ _ _ (fun e => hne (by rw [e]))]
    exact h1.block b hb hne
  · have := h2.put 0 (.int .i64 (((base + k : Nat) : Int) + 1))
    rw [show ((base + (k + 1) : Nat) : Int) = ((base + k : Nat) : Int) + 1 by omega]
    exact this
end

set_option maxRecDepth 100000 in
set_option maxHeartbeats 16000000 in
theorem steps_law (n : Int) (C : List (List Int)) (v : Value) (ua ub : Nat) (w : World) (hv : ListsV w v C) (hC : C.length ≤ 9223372036854775807) (hL : ∀ l ∈ C, l.length ≤ 9223372036854775807) (hg : ErrT w) (hua : ua < 256) (hub : ub < 256) :
    Calls Tryz.prog 6 #[.int .i64 n, v, .int .u8 ua, .int .u8 ub] w fun e w' => e = .returned (.bool true) ∧ Below w.heap.size w w' := by
  obtain ⟨A, c, rfl⟩ := hv.form
  obtain ⟨cl, hcl⟩ : ∃ m, C.length = m := ⟨_, rfl⟩
  rw [hcl] at hv ⊢
  obtain ⟨w1, hw1⟩ : ∃ W, w.alloc (.cells #[.bool false] 4) = W := ⟨_, rfl⟩
  have hb0 : Below w.heap.size w w1 := by rw [← hw1]; exact (Below.refl _ _).alloc (Nat.le_refl _) _
  have hR1 : Whole w1 w.heap.size 4 #[.bool false] := by rw [← hw1]; exact Whole.new _ _ _
  have HV := Lib.hid (hv.below hb0 (Nat.le_refl _)); have HG := Lib.hid (hg.below hb0 (Nat.le_refl _))
  have HB0 := Lib.hid hb0; have HR := Lib.hid hR1; have HW1 := Lib.hid hw1
  have HCL := Lib.hid hcl; have HC := Lib.hid hC; have HL := Lib.hid hL
  clear hv hg hb0 hR1 hw1 hcl hC hL
  refine (callsIn_wide (n := 6)).1 ?_
  refine callsIn_of_wp_marks Tryz.func6 rfl trivial ?_ rfl
  simp only [Tryz.ntmps6, List.size_toArray, List.length_cons, List.length_nil, Nat.reduceAdd, Nat.reduceSub, Array.replicate_succ, Array.replicate_zero, List.push_toArray, List.append_toArray, List.nil_append, List.cons_append]
  refine wpIn_wide.2 ?_
  go_wp2_with fail
  rw [HW1.out]
  refine (alive_ok w1 HG.out).mono ?_; rintro e w2 ⟨rfl, hb2⟩
  have BW : Below w1.heap.size w1 w2 := hb2
  have HRc := HR.out.below BW HR.out.lt
  have HVc := HV.out.below BW (Nat.le_refl _)
  have BWW : Below w.heap.size w w2 := HB0.out.trans (BW.mono HB0.out.size)
  have MD := Lib.hid (made_any n C _ w2 HVc (by rw [HCL.out]; have := HC.out; rw [HCL.out] at this; exact this) HL.out)
  have HR4 := Lib.hid HRc; have HB4 := Lib.hid BWW
  clear hb2 BW HRc HVc BWW HV HG HW1 HR HB0
  have fin : ∀ X, Below w2.heap.size w2 X → Hid (Below w.heap.size w X ∧ Whole X w.heap.size 4 #[.bool false] ∧ Whole (X.setCell ⟨w.heap.size, 0, none⟩ (.bool true)) w.heap.size 4 #[.bool true] ∧ Below w.heap.size w (X.setCell ⟨w.heap.size, 0, none⟩ (.bool true))) := fun X hX =>
    have h1 := HB4.out.trans (hX.mono HB4.out.size)
    have h2 := HR4.out.below hX HR4.out.lt
    Lib.hid ⟨h1, h2, h2.put 0 _, h1.setCell (Nat.le_refl _) _⟩
  have FIN := Lib.hid fin
  clear fin
  go_wp2_with fail
  refine MD.out.mono ?_; rintro e w4 (⟨rfl, rfl⟩ | ⟨N, p, rfl, hgc, rfl, ho, hb4⟩)
  · have F4 := FIN.out w4 (Below.refl _ _)
    have f3 := F4.out.2.1.free 0
    have c3 : w4.cell? ⟨w.heap.size, 0, none⟩ = some (.bool false) := F4.out.2.1.cell 0
    go_wp2_with fail
    exact ⟨_, results_bool rfl _ _ _ _ rfl F4.out.2.2.1, rfl, F4.out.2.2.2⟩
  · have F4 := FIN.out w4 hb4
    by_cases h4 : N = 5
    · subst h4
      have f3 := F4.out.2.1.free 0
      have c3 : w4.cell? ⟨w.heap.size, 0, none⟩ = some (.bool false) := F4.out.2.1.cell 0
      have HH := Lib.hid (And.intro hgc ho)
      clear hgc ho hb4
      go_wp2_with fail
      exact ⟨_, results_bool rfl _ _ _ _ rfl F4.out.2.2.1, rfl, F4.out.2.2.2⟩
    · obtain ⟨g1, g2, g3, g4, g5⟩ := hgc
      have n4 : N ≤ 4 := by omega
      have t4 : decide ((4 : Int) < N) = false := decide_eq_false (by omega)
      have pw : ∀ r, r ≤ 4 → C.length ^ r ≤ 12 ^ 4 := fun r hr => Nat.le_trans (Nat.pow_le_pow_left g3 r) (Nat.pow_le_pow_right (by omega) hr)
      have b1 : ∀ r i a, r + i + 1 = N → a ∈ rowP C i → cntP C r i a ≤ 9223372036854775807 := fun r i a e _ => Nat.le_trans (cnt_le C r i a) (Nat.le_trans (pw r (by omega)) (by decide))
      have b3 : totP N C ≤ 1000000 := Nat.le_trans (sum_le_mul (cntP C (N - 1) 0) (12 ^ 4) (rowP C 0) fun x _ => Nat.le_trans (cnt_le C (N - 1) 0 x) (pw _ (by omega))) (Nat.le_trans (Nat.mul_le_mul_right _ (Nat.le_trans (row_len C 0) g3)) (by decide))
      have b2 : totP N C ≤ 9223372036854775807 := by omega
      have RO := Lib.hid (rankOf_any ho g1 (by omega) (by omega) b1 b2)
      have HT2 := Lib.hid b3; have HB5 := Lib.hid hb4; have HC5 := Lib.hid g3; have HN5 := Lib.hid h4; have HG1 := Lib.hid g1; have HN4 := Lib.hid n4
      clear pw b1 b2 b3 ho hb4 g1 g2 g3 g4 g5 n4 h4
      go_wp2_with fail
      refine RO.out.mono ?_; rintro e w5 ⟨rp, rfl, hr5, hb5⟩
      have HR5 := Lib.hid hr5
      have HB6 := Lib.hid (HB5.out.trans (hb5.mono HB5.out.size))
      obtain ⟨rb, _, _, rfl, _⟩ := hr5
      obtain ⟨w6, hw6⟩ : ∃ X, w5.alloc (.cells #[.pointer (some ⟨rb, 0, none⟩)] 28) = X := ⟨_, rfl⟩
      have hb6 : Below w5.heap.size w5 w6 := by rw [← hw6]; exact (Below.refl _ _).alloc (Nat.le_refl _) _
      have hr6 : Whole w6 w5.heap.size 28 #[.pointer (some ⟨rb, 0, none⟩)] := by rw [← hw6]; exact Whole.new _ _ _
      have cr6 : w6.cell? ⟨w5.heap.size, 0, none⟩ = some (.pointer (some ⟨rb, 0, none⟩)) := hr6.cell 0
      have TT := Lib.hid (fun W (hW : Below w5.heap.size w5 W) => rtotal_any (HR5.out.below hW (Nat.le_refl _)) (by have := HC5.out; omega))
      have HW6 := Lib.hid hw6; have HB56 := Lib.hid hb6; have HR6 := Lib.hid hr6
      clear hb5 hw6 hb6 hr6
      go_upto_region 7 with fail
      rw [HW6.out]
      go_wp2_with fail
      refine (TT.out _ HB56.out).mono ?_; rintro e w7 ⟨rfl, hb7⟩
      obtain ⟨tot, htot⟩ : ∃ x, totP N C = x := ⟨_, rfl⟩
      obtain ⟨fa, hfa⟩ : ∃ x, ua % (tot + 1) = x := ⟨_, rfl⟩
      obtain ⟨fb, hfb⟩ : ∃ x, ub % (tot + 1) = x := ⟨_, rfl⟩
      have hfa1 : fa ≤ tot := by rw [← hfa]; exact Nat.le_of_lt_succ (Nat.mod_lt _ (Nat.succ_pos _))
      have hfb1 : fb ≤ tot := by rw [← hfb]; exact Nat.le_of_lt_succ (Nat.mod_lt _ (Nat.succ_pos _))
      have htl : tot ≤ 1000000 := by rw [← htot]; exact HT2.out
      have q1 : Int.tmod (ua : Int) ((tot : Int) + 1) = (fa : Nat) := by rw [← hfa]; exact (Int.ofNat_tmod ua (tot + 1)).symm
      have q2 : Int.tmod (ub : Int) ((tot : Int) + 1) = (fb : Nat) := by rw [← hfb]; exact (Int.ofNat_tmod ub (tot + 1)).symm
      have q3 : IntKind.i64.wrap (fa : Int) = fa := by rw [IntKind.wrap_i64]; omega
      have q4 : IntKind.i64.wrap (fb : Int) = fb := by rw [IntKind.wrap_i64]; omega
      have q5 : IntKind.i64.wrap ((tot : Int) + 1) = (tot : Int) + 1 := by rw [IntKind.wrap_i64]; omega
      have q6 : ¬ ((tot : Int) + 1 = 0) := by omega
      have q7 : IntKind.i64.wrap (ua : Int) = ua := by rw [IntKind.wrap_i64]; omega
      have q8 : IntKind.i64.wrap (ub : Int) = ub := by rw [IntKind.wrap_i64]; omega
      rw [htot]
      have HTOT := Lib.hid htot; have HB7 := Lib.hid hb7; have HFA := Lib.hid hfa1; have HFB := Lib.hid hfb1; have HTL := Lib.hid htl
      clear hfa hfb hfa1 hfb1 hb7 htl htot cr6
      go_wp2_with fail
      refine wp_calm ?_
      refine region_readsT [(0, []), (1, []), (2, []), (3, []), (4, []), (5, []), (6, []), (7, []), (8, []), (9, [])] 12 3 (by kernel_rfl) (by kernel_rfl) (fun _ => True) trivial (by kernel_rfl) (by kernel_rfl) ?_
      refine ⟨({ dst := some 46, op := Op.move (Operand.tmp 2), type := 5, pos := "law.go:209", after := #[], guard := none } : Oper), ?va_0, rfl, Or.inl ⟨by rfl, ?hya_0⟩, fun _ _ _ h => h, ?resta_0⟩
      case hya_0 => (intro w' hSw; clear hSw; go_simp; try with_reducible rfl)
      try simp only [Act.put, List.setIfInBounds_toArray, List.set_cons_zero, List.set_cons_succ]
      refine ⟨({ dst := some 47, op := Op.convert 5 2 (Operand.tmp 46), type := 2, pos := "law.go:209", after := #[{ on := 0, ground := Ground.data }], guard := none } : Oper), ?va_1, rfl, Or.inl ⟨by rfl, ?hya_1⟩, fun _ _ _ h => h, ?resta_1⟩
      case hya_1 => (intro w' hSw; clear hSw; go_simp; try with_reducible rfl)
      try simp only [Act.put, List.setIfInBounds_toArray, List.set_cons_zero, List.set_cons_succ]
      refine ⟨({ dst := some 48, op := Op.move (Operand.tmp 13), type := 2, pos := "law.go:209", after := #[], guard := none } : Oper), ?va_2, rfl, Or.inl ⟨by rfl, ?hya_2⟩, fun _ _ _ h => h, ?resta_2⟩
      case hya_2 => (intro w' hSw; clear hSw; go_simp; try with_reducible rfl)
      try simp only [Act.put, List.setIfInBounds_toArray, List.set_cons_zero, List.set_cons_succ]
      refine ⟨({ dst := some 49, op := Op.binOp BinOp.add 2 (Operand.tmp 48) (Operand.const (Value.int IntKind.i64 1)) 2, type := 2, pos := "law.go:209", after := #[{ on := 2, ground := Ground.data }], guard := none } : Oper), ?va_3, rfl, Or.inl ⟨by rfl, ?hya_3⟩, fun _ _ _ h => h, ?resta_3⟩
      case hya_3 => (intro w' hSw; clear hSw; go_simp; try with_reducible rfl)
      try simp only [Act.put, List.setIfInBounds_toArray, List.set_cons_zero, List.set_cons_succ]
      refine ⟨({ dst := some 50, op := Op.binOp BinOp.rem 2 (Operand.tmp 47) (Operand.tmp 49) 2, type := 2, pos := "law.go:209", after := #[{ on := 1, ground := Ground.data }, { on := 3, ground := Ground.data }], guard := none } : Oper), ?va_4, rfl, Or.inl ⟨by rfl, ?hya_4⟩, fun _ _ _ h => h, ?resta_4⟩
      case hya_4 => (intro w' hSw; clear hSw; go_simp; try with_reducible rfl)
      try simp only [Act.put, List.setIfInBounds_toArray, List.set_cons_zero, List.set_cons_succ]
      refine ⟨({ dst := some 51, op := Op.move (Operand.tmp 3), type := 5, pos := "law.go:209", after := #[{ on := 11, ground := Ground.gcOnly Departure.lateStores }], guard := none } : Oper), ?va_5, rfl, Or.inl ⟨by rfl, ?hya_5⟩, fun _ _ _ h => h, ?resta_5⟩
      case hya_5 => (intro w' hSw; clear hSw; go_simp; try with_reducible rfl)
      try simp only [Act.put, List.setIfInBounds_toArray, List.set_cons_zero, List.set_cons_succ]
      refine ⟨({ dst := some 52, op := Op.convert 5 2 (Operand.tmp 51), type := 2, pos := "law.go:209", after := #[{ on := 5, ground := Ground.data }, { on := 11, ground := Ground.gcOnly Departure.lateStores }], guard := none } : Oper), ?va_6, rfl, Or.inl ⟨by rfl, ?hya_6⟩, fun _ _ _ h => h, ?resta_6⟩
      case hya_6 => (intro w' hSw; clear hSw; go_simp; try with_reducible rfl)
      try simp only [Act.put, List.setIfInBounds_toArray, List.set_cons_zero, List.set_cons_succ]
      refine ⟨({ dst := some 53, op := Op.move (Operand.tmp 13), type := 2, pos := "law.go:209", after := #[{ on := 11, ground := Ground.gcOnly Departure.lateStores }], guard := none } : Oper), ?va_7, rfl, Or.inl ⟨by rfl, ?hya_7⟩, fun _ _ _ h => h, ?resta_7⟩
      case hya_7 => (intro w' hSw; clear hSw; go_simp; try with_reducible rfl)
      try simp only [Act.put, List.setIfInBounds_toArray, List.set_cons_zero, List.set_cons_succ]
      refine ⟨({ dst := some 54, op := Op.binOp BinOp.add 2 (Operand.tmp 53) (Operand.const (Value.int IntKind.i64 1)) 2, type := 2, pos := "law.go:209", after := #[{ on := 7, ground := Ground.data }, { on := 11, ground := Ground.gcOnly Departure.lateStores }], guard := none } : Oper), ?va_8, rfl, Or.inl ⟨by rfl, ?hya_8⟩, fun _ _ _ h => h, ?resta_8⟩
      case hya_8 => (intro w' hSw; clear hSw; go_simp; try with_reducible rfl)
      try simp only [Act.put, List.setIfInBounds_toArray, List.set_cons_zero, List.set_cons_succ]
      refine ⟨({ dst := some 55, op := Op.binOp BinOp.rem 2 (Operand.tmp 52) (Operand.tmp 54) 2, type := 2, pos := "law.go:209", after := #[{ on := 6, ground := Ground.data }, { on := 8, ground := Ground.data }, { on := 11, ground := Ground.gcOnly Departure.lateStores }], guard := none } : Oper), ?va_9, rfl, Or.inl ⟨by rfl, ?hya_9⟩, fun _ _ _ h => h, ?resta_9⟩
      case hya_9 => (intro w' hSw; clear hSw; go_simp; try with_reducible rfl)
      try simp only [Act.put, List.setIfInBounds_toArray, List.set_cons_zero, List.set_cons_succ]
      refine reads_nil (fun _ => ?_)
      refine until_one (i := 10) (by kernel_rfl) rfl rfl ?_
      refine wp_bare (fun K1 hK1 => ?_)
      go_simp
      refine hK1.out _ _ ⟨fun _ _ => trivial, ?_⟩
      clear hK1 K1
      obtain ⟨w8, hw8⟩ : ∃ X, (w7.alloc (.cells #[.int .i64 0] 2)).drew = X := ⟨_, rfl⟩
      have hfr8 : Whole w8 w7.heap.size 2 #[.int .i64 0] := by rw [← hw8]; exact Whole.new w7 _ _
      have hb8 : Below w7.heap.size w7 w8 := by rw [← hw8]; exact ((Below.refl _ _).alloc (Nat.le_refl _) _).drew
      have cf8 := hfr8.cell 0
      have ff8 := hfr8.free 0
      obtain ⟨frB, hfrB⟩ : ∃ x, w7.heap.size = x := ⟨_, rfl⟩
      rw [hfrB, hw8]
      rw [hfrB] at hfr8 hb8 cf8 ff8
      refine until_one (i := 11) (by kernel_rfl) rfl rfl ?_
      refine wp_bare (fun K1 hK1 => ?_)
      go_simp
      refine hK1.out _ _ ⟨fun _ _ => trivial, ?_⟩
      clear hK1 K1
      refine until_one (i := 12) (by kernel_rfl) rfl rfl ?_
      refine wp_bare (fun K1 hK1 => ?_)
      go_simp
      refine hK1.out _ _ ⟨fun h0 => absurd rfl h0, ?_⟩
      clear hK1 K1
      refine Until.of_any (by kernel_rfl) ?_
      refine wpAny_done (by kernel_rfl) ?_ _
      obtain ⟨w9, hw9⟩ : ∃ X, w8.setCell ⟨frB, 0, none⟩ (.int .i64 (fa : Nat)) = X := ⟨_, rfl⟩
      have hfr9 : Whole w9 frB 2 #[.int .i64 (fa : Nat)] := by rw [← hw9]; exact hfr8.put 0 _
      have hb9 : Below frB w7 w9 := by rw [← hw9]; exact hb8.setCell (Nat.le_refl _) _
      have HW9 := Lib.hid hw9; have HFR9 := Lib.hid hfr9; have HB9 := Lib.hid hb9; have HFRB := Lib.hid hfrB
      clear hw8 hfr8 hb8 cf8 ff8 hw9 hfrB
      go_upto_region 11 with fail
      rw [HW9.out]
      have cfr := hfr9.cell 0
      have ffr := hfr9.free 0
      clear hfr9 hb9 q1 q2 q3 q4 q5 q6 q7 q8
      obtain ⟨lo, hlo⟩ : ∃ x, min fa fb = x := ⟨_, rfl⟩
      obtain ⟨hi, hhi⟩ : ∃ x, max fa fb = x := ⟨_, rfl⟩
      have HLO := Lib.hid hlo; have HHI := Lib.hid hhi
      obtain ⟨zb, hzb⟩ : ∃ zb : Bool, decide (fb < fa) = zb := ⟨_, rfl⟩
      have hzi : decide ((fb : Int) < fa) = zb := by rw [← hzb]; congr 1; simp
      have HZB := Lib.hid hzb
      clear hlo hhi
      go_upto_if 58 with fail
      go_cut [15] from 59 to 62 (fun x wx => SwapR w7 frB lo hi x wx)
      case first => as_aux_lemma =>
        cases zb with
        | true =>
          have h1 : fb < fa := by simpa using HZB.out
          have e1 : lo = fb := by have := HLO.out; omega
          have e2 : hi = fa := by have := HHI.out; omega
          have E1 := Lib.hid e1; have E2 := Lib.hid e2
          clear h1 e1 e2 hzb hzi
          go_wp2_with fail
          go_meet
          rw [E1.out, E2.out]
          exact ⟨_, rfl, rfl, HFR9.out.put 0 _, HB9.out.setCell (Nat.le_refl _) _⟩
        | false =>
          have h1 : ¬ fb < fa := by simpa using HZB.out
          have e1 : lo = fa := by have := HLO.out; omega
          have e2 : hi = fb := by have := HHI.out; omega
          have E1 := Lib.hid e1; have E2 := Lib.hid e2
          clear h1 e1 e2 hzb hzi
          go_wp2_with fail
          go_meet
          rw [E1.out, E2.out]
          exact ⟨_, rfl, rfl, HFR9.out, HB9.out⟩
      case rest =>
        obtain ⟨wc2, hwc, rfl, hfr10, hb10⟩ := hcut
        subst hwc
        clear hzb hzi
        have hle : lo ≤ hi ∧ hi ≤ tot := by have := HLO.out; have := HHI.out; have := HFA.out; have := HFB.out; omega
        have htl := HTL.out
        have hl6 : lo ≤ 1000000 := by omega
        have hh6 : hi ≤ 1000000 := by omega
        -- the world behind the swap: r's box, from's box
        have hbR : Below w5.heap.size w5 wc2 := by
          have h1 := HB56.out.trans (HB7.out.mono HB56.out.size)
          have h2 := h1.size
          have h3 := HFRB.out
          exact h1.trans (hb10.mono (by omega))
        have hr10 : Whole wc2 w5.heap.size 28 #[.pointer (some ⟨rb, 0, none⟩)] := (HR6.out.below HB7.out HR6.out.lt).below hb10 (by have := HR6.out.lt; have := HB7.out.size; have := HFRB.out; omega)
        have hrlt := hr10.lt
        have hflt := hfr10.lt
        have hrf : w5.heap.size < frB := by have := HR6.out.lt; have := HB7.out.size; have := HFRB.out; omega
        obtain ⟨w11, hw11⟩ : ∃ X, wc2.alloc (.cells #[.slice none 0 0] 23) = X := ⟨_, rfl⟩
        obtain ⟨w12, hw12⟩ : ∃ X, w11.alloc (.cells #[.int .i64 0] 2) = X := ⟨_, rfl⟩
        have hb11 : Below wc2.heap.size wc2 w11 := by rw [← hw11]; exact (Below.refl _ _).alloc (Nat.le_refl _) _
        have hb12 : Below w11.heap.size w11 w12 := by rw [← hw12]; exact (Below.refl _ _).alloc (Nat.le_refl _) _
        have hla : Whole w11 wc2.heap.size 23 #[.slice none 0 0] := by rw [← hw11]; exact Whole.new _ _ _
        have hcn : Whole w12 w11.heap.size 2 #[.int .i64 0] := by rw [← hw12]; exact Whole.new _ _ _
        have hs11 : w11.heap.size = wc2.heap.size + 1 := by rw [← hw11]; simp
        have hs12 : w12.heap.size = wc2.heap.size + 2 := by rw [← hw12]; simp [hs11]
        obtain ⟨laB, hlaB⟩ : ∃ x, wc2.heap.size = x := ⟨_, rfl⟩
        have hcnB : w11.heap.size = laB + 1 := by omega
        rw [hlaB] at hla hb11 hrlt hflt hs12
        rw [hcnB] at hcn hb12
        have hbR12 : Below w5.heap.size w5 w12 := (hbR.trans (hb11.mono (by have := hbR.size; omega))).trans (hb12.mono (by have := hbR.size; omega))
        have hr12 := (hr10.below hb11 hrlt).below hb12 (by omega)
        have hf12 := (hfr10.below hb11 hflt).below hb12 (by omega)
        have hla12 := hla.below hb12 (by omega)
        have HR12 := Lib.hid hr12; have HF12 := Lib.hid hf12; have HLA12 := Lib.hid hla12; have HCN12 := Lib.hid hcn; have HBR12 := Lib.hid hbR12; have HS12 := Lib.hid hs12
        have HRF := Lib.hid hrf; have HFL := Lib.hid hflt; have HLE := Lib.hid hle; have HW11 := Lib.hid hw11; have HW12 := Lib.hid hw12; have HLAB := Lib.hid hlaB; have HCNB := Lib.hid hcnB
        clear hfr10 hb10 hle htl hbR hr10 hrlt hflt hrf hw11 hw12 hb11 hb12 hla hcn hs11 hs12 hlaB hcnB hbR12 hr12 hf12 hla12 cfr ffr
        go_upto_region 16 with fail
        rw [HW11.out, HLAB.out]
        go_upto_region 17 with fail
        rw [HW12.out, HCNB.out]
        have c1 := HR12.out.cell 0
        have c2 := HF12.out.cell 0
        go_wp2_with fail
        refine (each_any _ _ _ _).mono ?_; rintro e w13 ⟨rfl, h13⟩
        have L13 := Lib.hid (each_laid h13)
        clear h13 c1 c2
        obtain ⟨LL, hLL⟩ : ∃ LL : Nat → List Int, LL = fun i => (allP N C).getD (lo + i) [] := ⟨_, rfl⟩
        have hB13 : Below w5.heap.size w5 w13 := HBR12.out.trans (L13.out.2.2.2.1.mono HBR12.out.size)
        have HIT : Hid (IterW Tryz.prog 36 #[.pointer (some ⟨w12.heap.size + 1, 0, none⟩), .pointer (some ⟨w12.heap.size, 0, none⟩)] (fun b => b < w5.heap.size ∨ b = w12.heap.size) 3 (hi - lo) LL w13) := Lib.hid (by
          have h := each_ways HR5.out hB13.block hB13.size HG1.out (by have := HN4.out; omega) (by have := HC5.out; omega) (by have := HT2.out; omega) L13.out.1 L13.out.2.1 L13.out.2.2.1 (N := hi - lo) (by rw [HTOT.out]; have := HLE.out; omega)
          rw [show (max (lo : Int) 0).toNat = lo by omega, ← hLL] at h
          exact h)
        have hD13 : w13.heap.size = laB + 4 := by rw [L13.out.2.2.2.2, HS12.out]
        have h0 : StepI w5 w13.heap.size w5.heap.size frB laB (laB + 1) (.pointer (some ⟨rb, 0, none⟩)) lo LL (fun _ => False) 0 w13 := by
          have hb := L13.out.2.2.2.1
          exact ⟨hB13, Nat.le_refl _, HR12.out.below hb HR12.out.lt, HF12.out.below hb HF12.out.lt, HCN12.out.below hb HCN12.out.lt, _, HLA12.out.below hb HLA12.out.lt, fun _ => rfl, fun h => absurd h (Nat.lt_irrefl 0)⟩
        have HATS : Hid (∀ i, i < hi - lo → (allP N C)[lo + i]? = some (LL i)) := Lib.hid (fun i hi' => by
          have hl : lo + i < (allP N C).length := by rw [all_len, HTOT.out]; have := HLE.out; omega
          rw [hLL, List.getElem?_eq_getElem hl]
          simp [List.getD, hl])
        have H0 := Lib.hid h0; have HD13 := Lib.hid hD13; have HLL := Lib.hid hLL; have HB13 := Lib.hid hB13
        clear h0 hD13 hLL hB13
        go_wp2_with fail
        refine range_ways (gf := 36) (lb := #[.pointer (some ⟨w12.heap.size + 1, 0, none⟩), .pointer (some ⟨w12.heap.size, 0, none⟩)]) rfl (enters_of Tryz.func36 (by kernel_rfl) rfl) HIT.out (fun b hb => by have := HS12.out; have := HD13.out; have := HRF.out; have := HFL.out; rcases hb with h | h <;> omega) rfl
          (fun G k W => StepI w5 w13.heap.size w5.heap.size frB laB (laB + 1) (.pointer (some ⟨rb, 0, none⟩)) lo LL G k W) (fun _ _ _ _ => False)
          (fun G k A A' row hG hrow h hg => h.grown (by have := HD13.out; have := HRF.out; have := HFL.out; omega) (by have := HD13.out; have := HRF.out; have := HFL.out; omega) hG hrow hg) (fun _ _ _ _ _ _ _ _ h _ => h) (fun G G' k A _ hG h => h.takes hG) H0.out ?a1 ?assign ?body ?done ?stop
        case assign =>
          intro l v W K hK
          gi_wp2
          exact hK
        case stop =>
          rintro c G k W _ _ _ h _
          exact h.elim
        case body => as_aux_lemma =>
          rintro l G k v W hG hk hI hsz hrow hvG
          have hd := HD13.out
          have hrf := HRF.out; have hfl := HFL.out
          have hat : (allP N C)[lo + k]? = some (LL k) := HATS.out k hk
          have hLk : (LL k).length = N := all_length HG1.out (List.mem_of_getElem? hat)
          have hrw := hrow
          have NX := fun (W3 : World) (h3 : Below W.heap.size W W3) (a : Act) => hI.round (Cp := fun b => b < w5.heap.size ∨ b = w12.heap.size) (by omega) ⟨by omega, by omega, by omega, by omega⟩ ⟨by omega, by omega, by omega, by omega, by omega⟩ ⟨by omega, by omega⟩ (fun b hb => hG b hb) (fun b hb => by have := HS12.out; rcases hb with h | h <;> omega) hsz hrw hvG h3 a _ rfl
          have hseq : SeqV W v (LL k) := own_seq hrow
          rw [hLk] at hrow
          obtain ⟨Av, cv, rfl⟩ := own_form hrow
          obtain ⟨i1, i2, k1, k2, k3, lv, k4, k5, k6⟩ := hI
          have RK := (Rank_any (HR5.out.below i1 (Nat.le_refl _)) HG1.out (by have := HN4.out; omega) (by have := HC5.out; omega) (by have := HT2.out; omega) hseq (by rw [hLk]; have := HN4.out; omega)).mono (R' := fun e w' => e = .returned (.tuple #[.int .i64 ((lo : Int) + k), .nilIface]) ∧ Below W.heap.size W w') (by
            rintro e w' (⟨m, h1, h2, rfl, hb⟩ | ⟨h1, _⟩)
            · have := h2 _ hat
              subst this
              exact ⟨rfl, hb⟩
            · exact absurd hat (h1 _))
          have HRK := Lib.hid RK; have HNX := Lib.hid NX; have K1 := Lib.hid k1; have K2 := Lib.hid k2; have K3 := Lib.hid k3; have K4 := Lib.hid k4; have HSQ := Lib.hid hseq; have HLK := Lib.hid hLk; have HAT := Lib.hid hat; have K5 := Lib.hid k5; have K6 := Lib.hid k6; have HKL := Lib.hid hk
          have hk6 : (k : Int) ≤ 1000000 := by have := HLE.out; omega
          have hk0 : (0 : Int) ≤ k := by omega
          have hl6' : (lo : Int) ≤ 1000000 := by omega
          have hl0 : (0 : Int) ≤ lo := by omega
          have cr := k1.cell 0
          clear hG hsz hrow hvG hrw NX hseq hLk i1 i2 k1 k2 k3 k4 k5 k6 RK hat hk
          gi_wp2_with fail
          refine ⟨trivial, ?_⟩
          refine (CallsIn.inRound l (callsIn_wide.2 HRK.out)).mono ?_
          rintro e W3 ⟨rfl, hb3⟩
          have HB3 := Lib.hid hb3
          have k23 := K2.out.below hb3 K2.out.lt
          have k33 := K3.out.below hb3 K3.out.lt
          have k43 := K4.out.below hb3 K4.out.lt
          have c2 : W3.cell? ⟨frB, 0, none⟩ = some (.int .i64 lo) := k23.cell 0
          have c3 : W3.cell? ⟨laB + 1, 0, none⟩ = some (.int .i64 k) := k33.cell 0
          have c4 : W3.cell? ⟨laB, 0, none⟩ = some lv := k43.cell 0
          have f3 := k33.free 0
          have f4 := k43.free 0
          have tn : ((lo : Int) + k != (lo : Int) + k) = false := by simp
          rcases Nat.eq_zero_or_pos k with h0 | h0
          · subst h0
            have e5 := K5.out rfl
            subst e5
            have HN := Lib.hid (HNX.out W3 hb3)
            clear hb3 k23 k33 k43
            gi_wp2_with fail
            refine ⟨trivial, ?_⟩
            gi_wp2_with fail
            exact HN.out _
          · obtain ⟨hlo6, _⟩ := K6.out h0
            have hlk1 : (LL (k - 1)).length = N := all_length HG1.out (List.mem_of_getElem? (HATS.out (k - 1) (by have := HKL.out; omega)))
            have hcmp : cmpL (LL (k - 1)) (LL k) = -1 := by
              have h := all_next HG1.out (C := C) (i := lo + (k - 1)) (by rw [all_len, HTOT.out]; have := HLE.out; have := HKL.out; omega)
              rw [show lo + (k - 1) + 1 = lo + k by omega] at h
              rw [HLL.out]
              exact h
            have hsl := own_seq (own_below hlo6 hb3 (Nat.le_refl _))
            rw [hlk1] at hlo6
            obtain ⟨Al, cl2, rfl⟩ := own_form hlo6
            have CP := refCompare_any (LL (k - 1)) (LL k) _ _ W3 hsl (HSQ.out.below hb3 (Nat.le_refl _)) (by rw [hlk1]; have := HN4.out; omega) (by rw [HLK.out]; have := HN4.out; omega)
            rw [hcmp] at CP
            have HCP := Lib.hid CP
            have t5 : decide ((0 : Int) < k) = true := decide_eq_true (by omega)
            have t5' : decide (0 < k) = true := decide_eq_true h0
            have t6 : decide ((0 : Int) ≤ -1) = false := by decide
            have HB3' := Lib.hid hb3
            clear hb3 k23 k33 k43 hsl hlo6 CP hcmp f3 f4
            gi_wp2_with fail
            refine ⟨trivial, ?_⟩
            refine (CallsIn.inRound l (callsIn_wide.2 HCP.out)).mono ?_
            rintro e W4 ⟨rfl, dq, hw4⟩
            have hb34 : Below W3.heap.size W3 W4 := by rw [hw4]; exact below_drewN' (Below.refl _ _) dq
            have hb4' : Below W.heap.size W W4 := HB3'.out.trans (hb34.mono HB3'.out.size)
            have k34 := K3.out.below hb4' K3.out.lt
            have k44 := K4.out.below hb4' K4.out.lt
            have c34 : W4.cell? ⟨laB + 1, 0, none⟩ = some (.int .i64 k) := k34.cell 0
            have c44 := k44.cell 0
            have f3 := k34.free 0
            have f4 := k44.free 0
            have HN := Lib.hid (HNX.out W4 hb4')
            clear hw4 hb34 hb4' k34 k44 c2 c3 c4
            gi_wp2_with fail
            exact HN.out _
        case done =>
          rintro G1 X1 hG1 ⟨i1, i2, k1, k2, k3, _⟩ hD1
          have d13 := HD13.out
          have hx1 : w13.heap.size < X1.heap.size := (Array.getElem?_eq_some_iff.1 hD1).1
          have c1 := k1.cell 0
          have c2 := k2.cell 0
          have c3 := k3.cell 0
          have tq : (((hi - lo : Nat) : Int) != (hi : Int) - lo) = false := by have := HLE.out; simp; omega
          have q1 : (lo : Int) ≤ hi := by have := HLE.out; omega
          have q2 : (0 : Int) ≤ lo := by omega
          have q3 : (hi : Int) ≤ 1000000 := by omega
          have HK1 := Lib.hid k1; have HK2 := Lib.hid k2; have HI1 := Lib.hid i1; have HD1 := Lib.hid hD1; have HX1 := Lib.hid hx1
          obtain ⟨cz, hcz⟩ : ∃ z : Int, ((hi - lo : Nat) : Int) = z := ⟨_, rfl⟩
          rw [hcz] at tq c3
          clear hG1 i1 i2 k1 k2 k3 hD1 hx1 hcz d13
          go_wp2_with fail
          refine (each_any _ _ _ _).mono ?_; rintro e w14 ⟨rfl, h14⟩
          have L14 := Lib.hid (each_laid h14)
          clear h14 c1 c2 c3 tq q1 q2 q3
          have hB14 : Below w5.heap.size w5 w14 := HI1.out.trans (L14.out.2.2.2.1.mono HI1.out.size)
          have HIT2 : Hid (IterW Tryz.prog 36 #[.pointer (some ⟨X1.heap.size + 1, 0, none⟩), .pointer (some ⟨X1.heap.size, 0, none⟩)] (fun b => b < w5.heap.size ∨ b = X1.heap.size) 3 0 (fun i => (allP N C).getD ((max (hi : Int) 0).toNat + i) []) w14) := Lib.hid
            (each_ways HR5.out hB14.block hB14.size HG1.out (by have := HN4.out; omega) (by have := HC5.out; omega) (by have := HT2.out; omega) L14.out.1 L14.out.2.1 L14.out.2.2.1 (N := 0) (by have := HLE.out; omega))
          have HB14 := Lib.hid hB14
          clear hB14
          go_wp2_with fail
          refine range_ways (gf := 36) (lb := #[.pointer (some ⟨X1.heap.size + 1, 0, none⟩), .pointer (some ⟨X1.heap.size, 0, none⟩)]) rfl (enters_of Tryz.func36 (by kernel_rfl) rfl) HIT2.out (fun b hb => by have := L14.out.2.2.2.2; have := HB14.out.size; have := HI1.out.size; rcases hb with h | h <;> omega) rfl
            (fun _ _ W => Below w14.heap.size w14 W) (fun _ _ _ _ => False)
            (fun G k A A' row hG hrow h hg => h.grown hg h.size (fun r hr => by rcases hrow r hr with h | h | h; omega; omega; exact Nat.le_trans (by omega) (hG r h))) (fun _ _ _ _ _ _ _ _ h _ => h) (fun _ _ _ _ _ _ h => h) (Below.refl _ _) ?a2 ?assign2 ?body2 ?done2 ?stop2
          case assign2 =>
            intro l v W K hK
            gi_wp2
            exact hK
          case stop2 =>
            rintro c G k W _ _ _ h _
            exact h.elim
          case body2 =>
            rintro l G k v W _ hk
            exact absurd hk (Nat.not_lt_zero _)
          case done2 =>
            rintro G2 X2 hG2 hb2 hD2
            obtain ⟨X3, hX3⟩ : ∃ X, X2.alloc (.cells #[.int .i64 0] 2) = X := ⟨_, rfl⟩
            have hb23 : Below X2.heap.size X2 X3 := by rw [← hX3]; exact (Below.refl _ _).alloc (Nat.le_refl _) _
            have ho3 : Whole X3 X2.heap.size 2 #[.int .i64 0] := by rw [← hX3]; exact Whole.new _ _ _
            have hs3 : X3.heap.size = X2.heap.size + 1 := by rw [← hX3]; simp
            have h14s := L14.out.2.2.2.2
            have hx2 : w14.heap.size < X2.heap.size := (Array.getElem?_eq_some_iff.1 hD2).1
            have hB13' : Below X1.heap.size X1 X2 := L14.out.2.2.2.1.trans (hb2.mono L14.out.2.2.2.1.size)
            have hB13 : Below X1.heap.size X1 X3 := hB13'.trans (hb23.mono hB13'.size)
            have k13 := HK1.out.below hB13 HK1.out.lt
            have k23 := HK2.out.below hB13 HK2.out.lt
            have hd13 : X3.heap[w13.heap.size]? = some (.deferred (some [])) := (hB13.block _ HX1.out).trans HD1.out
            have hd23 : X3.heap[w14.heap.size]? = some (.deferred (some [])) := (hb23.block _ hx2).trans hD2
            have hi3 : Below w5.heap.size w5 X3 := HI1.out.trans (hB13.mono HI1.out.size)
            obtain ⟨oB, hoB⟩ : ∃ x, X2.heap.size = x := ⟨_, rfl⟩
            rw [hoB] at ho3 hs3 hx2
            have c1 := k13.cell 0
            have c2 := k23.cell 0
            have hrlt := HK1.out.lt
            have hflt := HK2.out.lt
            have hx1s : X1.heap.size ≤ oB := by rw [← hoB]; exact hB13'.size
            have HX3 := Lib.hid hX3; have HOB := Lib.hid hoB; have HO3 := Lib.hid ho3; have HS3 := Lib.hid hs3; have K13 := Lib.hid k13; have K23 := Lib.hid k23; have HD13' := Lib.hid hd13; have HD23 := Lib.hid hd23; have HI3 := Lib.hid hi3; have HX2 := Lib.hid hx2; have HQ := Lib.hid (And.intro hrlt (And.intro hflt hx1s))
            clear hG2 hb2 hD2 hX3 hb23 ho3 hs3 h14s hx2 hB13' hB13 k13 k23 hd13 hd23 hi3 hoB hrlt hflt hx1s
            go_upto_region 29 with fail
            rw [HX3.out, HOB.out]
            go_wp2_with fail
            refine (each_any _ _ _ _).mono ?_; rintro e w15 ⟨rfl, h15⟩
            have L15 := Lib.hid (each_laid h15)
            clear h15 c1 c2
            have hB15 : Below w5.heap.size w5 w15 := HI3.out.trans (L15.out.2.2.2.1.mono HI3.out.size)
            have HIT3 : Hid (IterW Tryz.prog 36 #[.pointer (some ⟨X3.heap.size + 1, 0, none⟩), .pointer (some ⟨X3.heap.size, 0, none⟩)] (fun b => b < w5.heap.size ∨ b = X3.heap.size) 3 lo (fun i => (allP N C).getD ((max (-5 : Int) 0).toNat + i) []) w15) := Lib.hid
              (each_ways HR5.out hB15.block hB15.size HG1.out (by have := HN4.out; omega) (by have := HC5.out; omega) (by have := HT2.out; omega) L15.out.1 L15.out.2.1 L15.out.2.2.1 (N := lo) (by rw [HTOT.out]; have := HLE.out; omega))
            have h0 : CountI X3 oB 0 (fun _ => False) 0 w15 := ⟨grown_of_below L15.out.2.2.2.1 _, HO3.out.below L15.out.2.2.2.1 HO3.out.lt⟩
            have H0 := Lib.hid h0; have HB15 := Lib.hid hB15
            clear hB15 h0
            go_wp2_with fail
            refine range_ways (gf := 36) (lb := #[.pointer (some ⟨X3.heap.size + 1, 0, none⟩), .pointer (some ⟨X3.heap.size, 0, none⟩)]) rfl (enters_of Tryz.func36 (by kernel_rfl) rfl) HIT3.out (fun b hb => by have := L15.out.2.2.2.2; have := HI3.out.size; rcases hb with h | h <;> omega) rfl
              (fun G k W => CountI X3 oB 0 G k W) (fun _ _ _ _ => False)
              (fun G k A A' row hG hrow h hg => h.grown (by have := L15.out.2.2.2.2; omega) (by have := L15.out.2.2.2.2; have := HS3.out; omega) hG hrow hg) (fun _ _ _ _ _ _ _ _ h _ => h) (fun _ _ _ _ _ _ h => h) H0.out ?a3 ?assign3 ?body3 ?done3 ?stop3
            case assign3 =>
              intro l v W K hK
              gi_wp2
              exact hK
            case stop3 =>
              rintro c G k W _ _ _ h _
              exact h.elim
            case body3 => as_aux_lemma =>
              rintro l G k v W hG hk hcnt hsz hrow hvG
              have NX := fun a => hcnt.round (D := w15.heap.size) (Cp := fun b => b < w5.heap.size ∨ b = X3.heap.size) (by have := L15.out.2.2.2.2; have := HS3.out; omega) (fun b hb => (hG b hb).1) (fun b hb => by have := HS3.out; have := HI1.out.size; have := HQ.out.2.2; rcases hb with h | h <;> omega) a _ rfl
              have c5 := hcnt.2.cell 0
              have f5 := hcnt.2.free 0
              obtain ⟨z, hz⟩ : ∃ z : Int, ((0 + k : Nat) : Int) = z := ⟨_, rfl⟩
              have z1 : z ≤ 1000000 := by rw [← hz]; omega
              have z0 : 0 ≤ z := by rw [← hz]; omega
              rw [hz] at NX c5
              have HN := Lib.hid NX
              clear hG hk hcnt hsz hrow hvG NX hz
              gi_wp2_with fail
              exact HN.out _
            case done3 =>
              rintro G3 X4 hG3 ⟨hgr4, ho4⟩ hD3
              have h15s := L15.out.2.2.2.2
              have hs3 := HS3.out
              have hx4 : w15.heap.size < X4.heap.size := (Array.getElem?_eq_some_iff.1 hD3).1
              have far : ∀ b, b < oB → X4.heap[b]? = X3.heap[b]? := fun b hb => hgr4.block b (by omega) (by simp; omega)
              obtain ⟨qr, qf, qx⟩ := HQ.out
              have k14 : Whole X4 w5.heap.size 28 #[.pointer (some ⟨rb, 0, none⟩)] := (far _ (by omega)).trans K13.out
              have k24 : Whole X4 frB 2 #[.int .i64 (lo : Nat)] := (far _ (by omega)).trans K23.out
              have hd14 : X4.heap[w13.heap.size]? = some (.deferred (some [])) := (far _ (by have := HX1.out; omega)).trans HD13'.out
              have hd24 : X4.heap[w14.heap.size]? = some (.deferred (some [])) := (far _ HX2.out).trans HD23.out
              have hi4 : Below w5.heap.size w5 X4 := HI3.out.grown hgr4 HI3.out.size (fun r hr => by have := Option.some.inj hr; have := HI1.out.size; omega)
              have c1 := k14.cell 0
              have c2 := k24.cell 0
              have HGR4 := Lib.hid hgr4; have HO4 := Lib.hid ho4; have HD3 := Lib.hid hD3; have HX4 := Lib.hid hx4; have HD14 := Lib.hid hd14; have HD24 := Lib.hid hd24; have HI4 := Lib.hid hi4
              clear hG3 hgr4 ho4 hD3 h15s hs3 hx4 far qr qf qx k14 k24 hd14 hd24 hi4
              go_wp2_with fail
              refine (each_any _ _ _ _).mono ?_; rintro e w16 ⟨rfl, h16⟩
              have L16 := Lib.hid (each_laid h16)
              clear h16 c1 c2
              have hB16 : Below w5.heap.size w5 w16 := HI4.out.trans (L16.out.2.2.2.1.mono HI4.out.size)
              have HIT4 : Hid (IterW Tryz.prog 36 #[.pointer (some ⟨X4.heap.size + 1, 0, none⟩), .pointer (some ⟨X4.heap.size, 0, none⟩)] (fun b => b < w5.heap.size ∨ b = X4.heap.size) 3 (tot - lo) (fun i => (allP N C).getD ((max (lo : Int) 0).toNat + i) []) w16) := Lib.hid
                (each_ways HR5.out hB16.block hB16.size HG1.out (by have := HN4.out; omega) (by have := HC5.out; omega) (by have := HT2.out; omega) L16.out.1 L16.out.2.1 L16.out.2.2.1 (N := tot - lo) (by rw [HTOT.out]; have := HLE.out; have := HTL.out; omega))
              have h0 : CountI X4 oB lo (fun _ => False) 0 w16 := ⟨grown_of_below L16.out.2.2.2.1 _, by
                have := HO4.out.below L16.out.2.2.2.1 HO4.out.lt
                rwa [Nat.zero_add] at this⟩
              have H0 := Lib.hid h0; have HB16 := Lib.hid hB16
              clear hB16 h0
              go_wp2_with fail
              refine range_ways (gf := 36) (lb := #[.pointer (some ⟨X4.heap.size + 1, 0, none⟩), .pointer (some ⟨X4.heap.size, 0, none⟩)]) rfl (enters_of Tryz.func36 (by kernel_rfl) rfl) HIT4.out (fun b hb => by have := L16.out.2.2.2.2; have := HI4.out.size; rcases hb with h | h <;> omega) rfl
                (fun G k W => CountI X4 oB lo G k W) (fun _ _ _ _ => False)
                (fun G k A A' row hG hrow h hg => h.grown (by have := L16.out.2.2.2.2; omega) (by have := L16.out.2.2.2.2; have := HO4.out.lt; omega) hG hrow hg) (fun _ _ _ _ _ _ _ _ h _ => h) (fun _ _ _ _ _ _ h => h) H0.out ?a4 ?assign4 ?body4 ?done4 ?stop4
              case assign4 =>
                intro l v W K hK
                gi_wp2
                exact hK
              case stop4 =>
                rintro c G k W _ _ _ h _
                exact h.elim
              case body4 => as_aux_lemma =>
                rintro l G k v W hG hk hcnt hsz hrow hvG
                have NX := fun a => hcnt.round (D := w16.heap.size) (Cp := fun b => b < w5.heap.size ∨ b = X4.heap.size) (by have := L16.out.2.2.2.2; have := HO4.out.lt; omega) (fun b hb => (hG b hb).1) (fun b hb => by have := HO4.out.lt; have := HI1.out.size; have := HQ.out.2.2; rcases hb with h | h <;> omega) a _ rfl
                have c5 := hcnt.2.cell 0
                have f5 := hcnt.2.free 0
                obtain ⟨z, hz⟩ : ∃ z : Int, ((lo + k : Nat) : Int) = z := ⟨_, rfl⟩
                have z1 : z ≤ 1000000 := by rw [← hz]; have := HTL.out; have := HLE.out; omega
                have z0 : 0 ≤ z := by rw [← hz]; omega
                rw [hz] at NX c5
                have HN := Lib.hid NX
                clear hG hk hcnt hsz hrow hvG NX hz
                gi_wp2_with fail
                exact HN.out _
              case done4 =>
                rintro G4 X5 hG4 ⟨hgr5, ho5⟩ hD4
                have h16s := L16.out.2.2.2.2
                have hx5 : w16.heap.size < X5.heap.size := (Array.getElem?_eq_some_iff.1 hD4).1
                have hol := HO4.out.lt
                have far : ∀ b, b < X4.heap.size → b ≠ oB → X5.heap[b]? = X4.heap[b]? := fun b hb hne => hgr5.block b hb (by simp; exact hne)
                have e1 : X5.heap[w13.heap.size]? = some (.deferred (some [])) := (far _ (by have := HX1.out; have := HQ.out.2.2; omega) (by have := HX1.out; have := HQ.out.2.2; omega)).trans HD14.out
                have e2 : X5.heap[w14.heap.size]? = some (.deferred (some [])) := (far _ (by have := HX2.out; omega) (by have := HX2.out; omega)).trans HD24.out
                have e3 : X5.heap[w15.heap.size]? = some (.deferred (some [])) := (far _ HX4.out (by have := L15.out.2.2.2.2; have := HS3.out; omega)).trans HD3.out
                have hi5 : Below w5.heap.size w5 X5 := HI4.out.grown hgr5 HI4.out.size (fun r hr => by have := Option.some.inj hr; have := HI1.out.size; have := HQ.out.2.2; omega)
                have hw25 : Below w2.heap.size w2 X5 := HB6.out.trans (hi5.mono HB6.out.size)
                have F5 := FIN.out X5 hw25
                have f3 := F5.out.2.1.free 0
                have c3 : X5.cell? ⟨w.heap.size, 0, none⟩ = some (.bool false) := F5.out.2.1.cell 0
                have co := ho5.cell 0
                rw [show lo + (tot - lo) = tot by have := HLE.out; omega] at co
                have s0 : w.heap.size < w13.heap.size := by
                  have q1 := HR4.out.lt; have q2 := HB6.out.size; have q3 := HB13.out.size
                  omega
                have q12 : w13.heap.size < w14.heap.size := by have := HX1.out; have := L14.out.2.2.2.2; omega
                have q23 : w14.heap.size < w15.heap.size := by have := HX2.out; have := HS3.out; have := L15.out.2.2.2.2; omega
                have q34 : w15.heap.size < w16.heap.size := by have := HX4.out; omega
                have te : ((tot : Int) == tot) = true := by simp
                have E1 := Lib.hid e1; have E2 := Lib.hid e2; have E3 := Lib.hid e3; have E4 := Lib.hid hD4; have SQ := Lib.hid (And.intro s0 (And.intro q12 (And.intro q23 q34)))
                clear hG4 hgr5 ho5 hD4 h16s hx5 hol far e1 e2 e3 hi5 hw25 s0 q12 q23 q34
                go_wp2_with fail
                obtain ⟨s0, q12, q23, q34⟩ := SQ.out
                obtain ⟨r0, r1, r2, r3⟩ := F5.out
                have kk : ∀ b, b ≠ w.heap.size → (X5.setCell ⟨w.heap.size, 0, none⟩ (.bool true)).heap[b]? = X5.heap[b]? := fun b hb => Below.heap_setCell _ _ _ _ hb
                have j1 := (kk w13.heap.size (by omega)).trans E1.out
                have j2 := (kk w14.heap.size (by omega)).trans E2.out
                have j3 := (kk w15.heap.size (by omega)).trans E3.out
                have j4 := (kk w16.heap.size (by omega)).trans E4.out
                refine ⟨by simp, .inl ⟨_, _, rfl, run_takeDeferred j4, ?_⟩⟩
                refine ⟨by simp, .inl ⟨_, _, rfl, run_takeDeferred ((World.putObj_heap_other (by omega)).trans j3), ?_⟩⟩
                refine ⟨by simp, .inl ⟨_, _, rfl, run_takeDeferred ((World.putObj_heap_other (by omega)).trans ((World.putObj_heap_other (by omega)).trans j2)), ?_⟩⟩
                refine ⟨by simp, .inl ⟨_, _, rfl, run_takeDeferred ((World.putObj_heap_other (by omega)).trans ((World.putObj_heap_other (by omega)).trans ((World.putObj_heap_other (by omega)).trans j1))), ?_⟩⟩
                have gg := (((r2.grown (grownBy_putObj' _ w16.heap.size (.deferred none)) (by simp; omega)).grown (grownBy_putObj' _ w15.heap.size (.deferred none)) (by simp; omega)).grown (grownBy_putObj' _ w14.heap.size (.deferred none)) (by simp; omega)).grown (grownBy_putObj' _ w13.heap.size (.deferred none)) (by simp; omega)
                exact ⟨_, results_bool rfl _ _ _ _ rfl gg, rfl, (((r3.grown (grownBy_putObj' _ w16.heap.size (.deferred none)) r3.size (fun j hj => by cases hj; omega)).grown (grownBy_putObj' _ w15.heap.size (.deferred none)) (by have := r3.size; simpa using this) (fun j hj => by cases hj; omega)).grown (grownBy_putObj' _ w14.heap.size (.deferred none)) (by have := r3.size; simpa using this) (fun j hj => by cases hj; omega)).grown (grownBy_putObj' _ w13.heap.size (.deferred none)) (by have := r3.size; simpa using this) (fun j hj => by cases hj; omega)⟩
end Go.Proofs.YtgphdngfbcjmcaaGreatDoor
