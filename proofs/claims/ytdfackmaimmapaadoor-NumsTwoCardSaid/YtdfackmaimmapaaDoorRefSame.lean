/- fretworkref02: Same, Fits; fretworklaw02.told: contracts. -/
import Derived.Test.YtdfackmaimmapaaDoorRefSub
import Derived.Deep.RegionHeld3
namespace Go.Proofs.YtdfackmaimmapaaDoor
open Go.RowKit

set_option maxRecDepth 100000 in
set_option maxHeartbeats 1000000 in
theorem same_eq (x : Int) (v1 v2 : Value) (w : World) (h1 : NumV w v1 x) (h2 : NumV w v2 x) (hx : x.natAbs < 32768 ^ 100) :
    Calls Tryd.prog 27 #[v1, v2] w fun e w' => e = .returned (.bool true) ∧ Below w.heap.size w w' := by
  obtain ⟨n1, c1, A1, D1, rfl, d1, s1, l1, k1⟩ := h1.digs hx
  obtain ⟨n2, c2, A2, D2, rfl, d2, s2, l2, k2⟩ := h2.digs hx
  obtain ⟨neg, hneg⟩ : ∃ b, decide (x < 0) = b := ⟨_, rfl⟩
  rw [hneg]
  have la : ∀ W, Below w.heap.size w W → Calls Tryd.prog 28 #[.slice A1 n1 c1, .slice A2 n2 c2] W fun e w' => e = .returned (.bool false) ∧ ∃ d, w' = W.drewN d :=
    fun W hb => less_any A1 A2 n1 n2 c1 c2 _ _ D1 D2 W (s1.below hb (Nat.le_refl _)) (s2.below hb (Nat.le_refl _)) d1 d2 (by omega) (by omega) false (by simp)
  have lb : ∀ W, Below w.heap.size w W → Calls Tryd.prog 28 #[.slice A2 n2 c2, .slice A1 n1 c1] W fun e w' => e = .returned (.bool false) ∧ ∃ d, w' = W.drewN d :=
    fun W hb => less_any A2 A1 n2 n1 c2 c1 _ _ D2 D1 W (s2.below hb (Nat.le_refl _)) (s1.below hb (Nat.le_refl _)) d2 d1 (by omega) (by omega) false (by simp)
  have LA := Lib.hid la; have LB := Lib.hid lb
  have tn : (neg == neg) = true := by simp
  have HB0 : Hid (∀ d, Below w.heap.size w (((w.alloc (.cells #[.bool neg, .slice A1 n1 c1] 30)).alloc (.cells #[.bool neg, .slice A2 n2 c2] 30)).drewN d)) :=
    Lib.hid fun d => below_drewN' (((Below.refl _ _).alloc (Nat.le_refl _) _).alloc (by simp) _) d
  clear la lb h1 h2 hx d1 d2 s1 s2 hneg
  go_enter Tryd.func27, Tryd.ntmps27
  go_wp2_with fail
  refine (LA.out _ (HB0.out 0)).mono ?_; rintro e w2 ⟨rfl, d, rfl⟩
  go_wp2_with fail
  refine (LB.out _ (HB0.out _)).mono ?_; rintro e w3 ⟨rfl, d2, rfl⟩
  go_wp2_with fail
  go_ret
  exact ⟨rfl, HB0.out _⟩

theorem ret_bool {a b : Bool} (h : a = b) : Ending.returned (.bool a) = .returned (.bool b) := by rw [h]
def Fit (x : Int) : Prop := -9223372036854775808 ≤ x ∧ x ≤ 9223372036854775807
instance (x : Int) : Decidable (Fit x) := by unfold Fit; exact inferInstance

set_option maxRecDepth 100000 in
set_option maxHeartbeats 1000000 in
theorem fits_any (x : Int) (v : Value) (w : World) (h : NumV w v x) (hx : x.natAbs < 32768 ^ 100) (r : Bool) (hr : decide (Fit x) = r) :
    Calls Tryd.prog 18 #[v] w fun e w' => e = .returned (.bool r) ∧ Below w.heap.size w w' := by
  obtain ⟨n1, c1, A1, D1, rfl, d1, s1, l1, k1⟩ := h.digs hx
  obtain ⟨neg, hneg⟩ : ∃ b, decide (x < 0) = b := ⟨_, rfl⟩
  rw [hneg]
  have S1 := Lib.hid s1; have DD1 := Lib.hid d1; have HN := Lib.hid hneg; have HR := Lib.hid hr
  clear h hx s1 d1 hneg hr
  have lo := fun W => of_any (-9223372036854775808) W (by omega) (by omega)
  have hi := fun W => of_any 9223372036854775807 W (by omega) (by omega)
  have LO := Lib.hid lo; have HI := Lib.hid hi
  clear lo hi
  go_enter Tryd.func18, Tryd.ntmps18
  go_wp2_with fail
  refine (LO.out _).mono ?_; rintro e w2 ⟨v2, rfl, hv2, hb2⟩
  go_wp2_with fail
  refine (HI.out _).mono ?_; rintro e w3 ⟨v3, rfl, hv3, hb3⟩
  obtain ⟨n2, c2, A2, D2, rfl, d2, s2, l2, k2⟩ := (hv2.below hb3 (Nat.le_refl _)).digs (by decide)
  obtain ⟨n3, c3, A3, D3, rfl, d3, s3, l3, k3⟩ := hv3.digs (by decide)
  have hB : Below w.heap.size w w3 := (((Below.refl _ _).alloc (Nat.le_refl _) _).trans (hb2.mono (by simp))).trans (hb3.mono (by have := hb2.size; simp at this; omega))
  have hw1 : Whole w3 w.heap.size 30 #[.bool neg, .slice A1 n1 c1] := ((Whole.new w _ _).below hb2 (by simp)).below hb3 (by have := hb2.size; simp at this; omega)
  have hlt := hw1.lt
  have a0 := hw1.cell 0; have a1 := hw1.cell 1
  simp at a0 a1
  have la : ∀ W, Below w3.heap.size w3 W → Calls Tryd.prog 28 #[.slice A2 n2 c2, .slice A1 n1 c1] W fun e w' => e = .returned (.bool (decide (9223372036854775808 < x.natAbs))) ∧ ∃ d, w' = W.drewN d :=
    fun W hb => less_any A2 A1 n2 n1 c2 c1 _ _ D2 D1 W (s2.below hb (Nat.le_refl _)) ((S1.out.below hB (Nat.le_refl _)).below hb (Nat.le_refl _)) d2 DD1.out (by omega) (by omega) _ rfl
  have lb : ∀ W, Below w3.heap.size w3 W → Calls Tryd.prog 28 #[.slice A3 n3 c3, .slice A1 n1 c1] W fun e w' => e = .returned (.bool (decide (9223372036854775807 < x.natAbs))) ∧ ∃ d, w' = W.drewN d :=
    fun W hb => less_any A3 A1 n3 n1 c3 c1 _ _ D3 D1 W (s3.below hb (Nat.le_refl _)) ((S1.out.below hB (Nat.le_refl _)).below hb (Nat.le_refl _)) d3 DD1.out (by omega) (by omega) _ rfl
  have hra : neg = true → (!decide (9223372036854775808 < x.natAbs)) = r := by
    intro h
    rw [← HR.out]
    have h1 := HN.out
    rw [h] at h1
    simp at h1
    by_cases h2 : 9223372036854775808 < x.natAbs
    · rw [decide_eq_true h2]; exact (decide_eq_false (by unfold Fit; omega)).symm
    · rw [decide_eq_false h2]; exact (decide_eq_true (by unfold Fit; omega)).symm
  have hrb : neg = false → (!decide (9223372036854775807 < x.natAbs)) = r := by
    intro h
    rw [← HR.out]
    have h1 := HN.out
    rw [h] at h1
    simp at h1
    by_cases h2 : 9223372036854775807 < x.natAbs
    · rw [decide_eq_true h2]; exact (decide_eq_false (by unfold Fit; omega)).symm
    · rw [decide_eq_false h2]; exact (decide_eq_true (by unfold Fit; omega)).symm
  obtain ⟨ra, hra2⟩ : ∃ ra, decide (9223372036854775808 < x.natAbs) = ra := ⟨_, rfl⟩
  obtain ⟨rb, hrb2⟩ : ∃ rb, decide (9223372036854775807 < x.natAbs) = rb := ⟨_, rfl⟩
  rw [hra2] at la hra
  rw [hrb2] at lb hrb
  have LA := Lib.hid la; have LB := Lib.hid lb; have HB := Lib.hid hB; have RA := Lib.hid hra; have RB := Lib.hid hrb
  clear hv2 hv3 hb2 hb3 d2 d3 s2 s3 hw1 la lb hB hra hrb hra2 hrb2
  have hal : ∀ o o' : Obj, Below w3.heap.size w3 ((w3.alloc o).alloc o') := fun o o' => ((Below.refl _ _).alloc (Nat.le_refl _) o).alloc (by simp) o'
  have HAL := Lib.hid hal
  clear hal
  cases neg
  · go_wp2_with fail
    refine (LB.out _ (HAL.out _ _)).mono ?_; rintro e w4 ⟨rfl, d, rfl⟩
    go_wp2_with fail
    go_ret
    exact ⟨ret_bool (by simpa using RB.out), below_drewN' (HB.out.trans ((HAL.out _ _).mono (by omega))) _⟩
  · go_wp2_with fail
    refine (LA.out _ (HAL.out _ _)).mono ?_; rintro e w4 ⟨rfl, d, rfl⟩
    go_wp2_with fail
    go_ret
    exact ⟨ret_bool (by simpa using RA.out), below_drewN' (HB.out.trans ((HAL.out _ _).mono (by omega))) _⟩

/-- What is told is the number, or, if it doesn't fit, Overflow. -/
def ToldIs (x : Int) (w : World) (got e : Value) : Prop := (Fit x ∧ got = .int .i64 x ∧ e = .nilIface) ∨ (¬ Fit x ∧ got = .int .i64 0 ∧ ErrIs 7 w e)

set_option maxRecDepth 100000 in
set_option maxHeartbeats 1000000 in
theorem told_over (x : Int) (v e : Value) (w : World) (hg : ErrT w) (h : NumV w v x) (hx : x.natAbs < 32768 ^ 100) (hf : ¬ Fit x) (he : ErrIs 7 w e) :
    Calls Tryd.prog 12 #[.int .i64 0, e, v] w fun e w' => e = .returned (.bool true) ∧ Below w.heap.size w w' := by
  obtain ⟨n1, c1, A1, D1, rfl, d1, s1, l1, k1⟩ := h.digs hx
  obtain ⟨neg, hneg⟩ : ∃ b, decide (x < 0) = b := ⟨_, rfl⟩
  rw [hneg] at h ⊢
  have hfit := fun W hb => fits_any x (.agg #[.bool neg, .slice A1 n1 c1]) W (h.below (w' := W) hb (Nat.le_refl _)) hx false (decide_eq_false hf)
  have HF := Lib.hid hfit
  have HE := Lib.hid he; have HG := Lib.hid hg
  clear h hx d1 s1 hneg hf hfit he hg
  go_enter Tryd.func12, Tryd.ntmps12
  go_wp2_with fail
  refine (HF.out _ ((Below.refl _ _).alloc (Nat.le_refl _) _)).mono ?_; rintro e' w2 ⟨rfl, hb2⟩
  have hB := ((Below.refl w.heap.size w).alloc (Nat.le_refl _) (.cells #[.bool neg, .slice A1 n1 c1] 30)).trans (hb2.mono (by simp))
  have HB := Lib.hid hB
  clear hb2 hB
  go_wp2_with fail
  refine (code_is 7 e w2 (HG.out.below HB.out (Nat.le_refl _)) (HE.out.below HB.out (Nat.le_refl _))).mono ?_; rintro e' w3 ⟨rfl, hb3⟩
  go_wp2_with fail
  go_ret
  exact ⟨rfl, HB.out.trans (hb3.mono HB.out.size)⟩

set_option maxRecDepth 100000 in
set_option maxHeartbeats 1000000 in
theorem told_fit (x : Int) (v : Value) (w : World) (h : NumV w v x) (hf : Fit x) :
    Calls Tryd.prog 12 #[.int .i64 x, .nilIface, v] w fun e w' => e = .returned (.bool true) ∧ Below w.heap.size w w' := by
  have hx : x.natAbs < 32768 ^ 100 := by
    have : (18446744073709551616 : Nat) < 32768 ^ 100 := by decide
    unfold Fit at hf
    omega
  have hof := fun W => of_any x W hf.1 hf.2
  obtain ⟨n1, c1, A1, D1, rfl, d1, s1, l1, k1⟩ := h.digs hx
  obtain ⟨neg, hneg⟩ : ∃ b, decide (x < 0) = b := ⟨_, rfl⟩
  rw [hneg] at h ⊢
  have hfit := fun W hb => fits_any x (.agg #[.bool neg, .slice A1 n1 c1]) W (h.below (w' := W) hb (Nat.le_refl _)) hx true (decide_eq_true hf)
  have HF := Lib.hid hfit; have HOF := Lib.hid hof; have HX := Lib.hid hx; have HH := Lib.hid h
  clear h hx d1 s1 hneg hf hfit hof
  go_enter Tryd.func12, Tryd.ntmps12
  go_wp2_with fail
  refine (HF.out _ ((Below.refl _ _).alloc (Nat.le_refl _) _)).mono ?_; rintro e' w2 ⟨rfl, hb2⟩
  have hB := ((Below.refl w.heap.size w).alloc (Nat.le_refl _) (.cells #[.bool neg, .slice A1 n1 c1] 30)).trans (hb2.mono (by simp))
  have hW : Whole w2 w.heap.size 30 #[.bool neg, .slice A1 n1 c1] := (Whole.new w _ _).below hb2 (by simp)
  have hlt := hW.lt
  have a0 := hW.cell 0; have a1 := hW.cell 1
  simp at a0 a1
  have HB := Lib.hid hB; have HW := Lib.hid hW
  clear hb2 hB hW
  go_wp2_with fail
  go_region_held3 (fun w' => w'.cell? ⟨w.heap.size, 0, none⟩ = some (.bool neg) ∧ w'.cell? ⟨w.heap.size, 1, none⟩ = some (.slice A1 n1 c1))
    (first
      | go_keep
      | (go_split_ands
         refine ⟨?_, ?_⟩
         · first | (rw [hb3.cell (p := ⟨w.heap.size, 0, none⟩) hlt]; assumption) | (rw [hb4.cell (p := ⟨w.heap.size, 0, none⟩) (Nat.lt_of_lt_of_le hlt hb3.size)]; assumption)
         · first | (rw [hb3.cell (p := ⟨w.heap.size, 1, none⟩) hlt]; assumption) | (rw [hb4.cell (p := ⟨w.heap.size, 1, none⟩) (Nat.lt_of_lt_of_le hlt hb3.size)]; assumption)))
    (first
      | (go_at_call 14; refine (HOF.out _).mono ?_; rintro e' w3 ⟨v3, rfl, hv3, hb3'⟩; have hb3 : Below w2.heap.size w2 w3 := ⟨hb3'.os, hb3'.tape, hb3'.output, hb3'.size, hb3'.block⟩; clear hb3')
      | (go_at_call 27; refine (same_eq x v3 (.agg #[.bool neg, .slice A1 n1 c1]) _ hv3 ((HH.out.below HB.out (Nat.le_refl _)).below hb3 (Nat.le_refl _)) HX.out).mono ?_; rintro e' w4 ⟨rfl, hb4'⟩; have hb4 : Below w3.heap.size w3 w4 := ⟨hb4'.os, hb4'.tape, hb4'.output, hb4'.size, hb4'.block⟩; clear hb4'))
  all_goals
    go_wp2
    go_ret
    exact ⟨rfl, HB.out.trans ((hb3.trans (hb4.mono hb3.size)).mono HB.out.size)⟩
end Go.Proofs.YtdfackmaimmapaaDoor
