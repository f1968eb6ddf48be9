/- net: has, Missing, Quiet, check, Flying. -/
import Derived.Test.YtlopoddllfkkfaaDoorNetAt
namespace Go.Proofs.YtlopoddllfkkfaaDoor
open Go.RowKit

/-- Is there a worker? -/
def hasB (k : Nat) (x : Int) : Bool := decide (0 ≤ x) && decide (x < k)
set_option maxRecDepth 100000 in
theorem has_any {w : World} {base N : Nat} {n : NetP} {b mb cb : Nat} {v : Value} {F G : Value → Option Value} (h : NetIn w base N n b mb cb v F G) (x : Int) :
    Calls Tryd.prog 46 #[.pointer (some ⟨b, 0, none⟩), .int .i64 x] w fun e w' => e = .returned (.bool (hasB n.k x)) ∧ w' = w := by
  have c0 : w.cell? ⟨b, 0, none⟩ = some (.int .i64 n.k) := h.whole.cell 0
  obtain ⟨z, hz⟩ : ∃ z, hasB n.k x = z := ⟨_, rfl⟩
  rw [hz]
  have hc : (decide (0 ≤ x) = false ∧ z = false) ∨ (decide (0 ≤ x) = true ∧ decide (x < (n.k : Int)) = z) := by
    unfold hasB at hz
    by_cases h0 : 0 ≤ x
    · rw [decide_eq_true h0, Bool.true_and] at hz
      exact Or.inr ⟨decide_eq_true h0, hz⟩
    · rw [decide_eq_false h0, Bool.false_and] at hz
      exact Or.inl ⟨decide_eq_false h0, hz.symm⟩
  obtain ⟨k, hk⟩ : ∃ k, n.k = k := ⟨_, rfl⟩
  rw [hk] at c0 hc
  clear h hz hk
  rcases hc with ⟨t1, rfl⟩ | ⟨t1, t2⟩
  all_goals
    go_enter Tryd.func46, Tryd.ntmps46
    go_wp2_with fail
    go_ret
    exact ⟨rfl, rfl⟩
set_option maxRecDepth 100000 in
theorem missing_any {w : World} {base N : Nat} {n : NetP} {p : Value} (h : NetAt w base p N n) :
    Calls Tryd.prog 39 #[p] w fun e w' => e = .returned (.int .i64 n.miss) ∧ w' = w := by
  obtain ⟨b, mb, cb, v, F, G, rfl, h⟩ := h
  have c0 : w.cell? ⟨b, 4, none⟩ = some (.int .i64 n.miss) := h.whole.cell 4
  obtain ⟨k, hk⟩ : ∃ k, n.miss = k := ⟨_, rfl⟩
  rw [hk] at c0 ⊢
  clear h hk
  go_enter Tryd.func39, Tryd.ntmps39
  go_wp2_with fail
  go_ret
  exact ⟨rfl, rfl⟩
set_option maxRecDepth 100000 in
theorem quiet_any {w : World} {base N : Nat} {n : NetP} {p : Value} (h : NetAt w base p N n) :
    Calls Tryd.prog 38 #[p] w fun e w' => e = .returned (.bool (n.miss == 0)) ∧ w' = w := by
  have HM := Lib.hid (missing_any h)
  clear h
  go_enter Tryd.func38, Tryd.ntmps38
  go_wp2_with fail
  refine HM.out.mono ?_; rintro e w1 ⟨rfl, hw⟩; obtain rfl := hw.symm
  go_wp2_with fail
  go_ret
  exact ⟨rfl, rfl⟩
/-- What check tells. -/
def CheckTo (c : Int) (w : World) (e : Ending) (w' : World) : Prop := Below w.heap.size w w' ∧ ((c = 0 ∧ e = .returned .nilIface) ∨ (c ≠ 0 ∧ ∃ u, e = .returned u ∧ FaultAt c 0 w' u))
def atCode (m : Nat) (i : Int) : Int := if 0 ≤ i ∧ i < m then 0 else 3
set_option maxRecDepth 100000 in
theorem check_any {w : World} {base N : Nat} {n : NetP} {p : Value} (h : NetAt w base p N n) (i : Int) :
    Calls Tryd.prog 48 #[p, .int .i64 i] w (CheckTo (atCode n.fly.length i) w) := by
  obtain ⟨b, mb, cb, v, F, G, rfl, h⟩ := h
  have c1 : w.cell? ⟨b, 1, none⟩ = some v := h.whole.cell 1
  obtain ⟨A, c, rfl, _⟩ := h.fly
  obtain ⟨m, hm⟩ : ∃ m, n.fly.length = m := ⟨_, rfl⟩
  rw [hm] at c1 ⊢
  have HF := Lib.hid (new_any 3 0 ⟨#[112, 108, 97, 99, 101, 32, 105, 110, 32, 102, 108, 105, 103, 104, 116]⟩ w)
  have HB : Hid (Below w.heap.size w (w.alloc (.cells #[.int .i64 3, .int .i64 0, .string ⟨#[112, 108, 97, 99, 101, 32, 105, 110, 32, 102, 108, 105, 103, 104, 116]⟩] 72))) := Lib.hid ((Below.refl _ _).alloc (Nat.le_refl _) _)
  have HW := Lib.hid (Whole.new w 72 #[.int .i64 3, .int .i64 0, .string ⟨#[112, 108, 97, 99, 101, 32, 105, 110, 32, 102, 108, 105, 103, 104, 116]⟩])
  by_cases hi : 0 ≤ i ∧ i < m
  · have HC : Hid (atCode m i = 0) := Lib.hid (if_pos hi)
    have t1 : decide (i < 0) = false := decide_eq_false (by omega)
    have t2 : decide ((m : Int) ≤ i) = false := decide_eq_false (by omega)
    clear h hm hi
    go_enter Tryd.func48, Tryd.ntmps48
    go_wp2_with fail
    go_ret
    exact ⟨Below.refl _ _, Or.inl ⟨HC.out, rfl⟩⟩
  · have HC : Hid (atCode m i = 3) := Lib.hid (if_neg hi)
    have hc : decide (i < 0) = true ∨ (decide (i < 0) = false ∧ decide ((m : Int) ≤ i) = true) := by
      by_cases h0 : i < 0
      · exact Or.inl (decide_eq_true h0)
      · exact Or.inr ⟨decide_eq_false h0, decide_eq_true (by omega)⟩
    clear h hm hi
    rcases hc with t1 | ⟨t1, t2⟩
    all_goals
      go_enter Tryd.func48, Tryd.ntmps48
      go_wp2_with fail
      refine HF.out.mono ?_; rintro e w1 ⟨rfl, rfl⟩
      go_wp2_with fail
      go_ret
      exact ⟨HB.out, Or.inr ⟨by rw [HC.out]; decide, _, rfl, by rw [HC.out]; exact ⟨_, _, rfl, HW.out⟩⟩⟩
theorem cloneLet_any {w : World} {base : Nat} {v : Value} {S : List Let} (h : FlyAt w base v S) (hS : S.length ≤ 1000000) :
    Calls Tryd.prog 47 #[v] w fun e w' => ∃ v', e = .returned v' ∧ w'.ownsRow w.heap.size 83 4 v' S.length (letsC S) ∧ Below w.heap.size w w' := by
  obtain ⟨i0, hi0, hz0, hz1, hz2⟩ := info_parts Tryd.infoNL
  obtain ⟨A, c, rfl, hc, h⟩ := h
  have zs : ∀ w, (Go.sizeOf 83).run Tryd.prog w = .ok 4 w := fun w => by kernel_rfl
  rcases h with ⟨rfl, rfl⟩ | ⟨b, off, rfl, _, _, _, hx⟩
  · have hS0 : S = [] := List.eq_nil_of_length_eq_zero (by omega)
    subst hS0
    refine (AnyE.slices_Clone_nil Tryd.cloneLet 0 0 w).mono ?_
    rintro e w' ⟨rfl, rfl⟩
    exact ⟨_, rfl, World.ownsRow_nil _ _ _ _, Below.refl _ _⟩
  · refine (AnyE.slices_Clone Tryd.cloneLet i0 (letV letZ) 4 40 hi0 hz0 hz1 hz2 rfl (by decide) zs b off S.length c (letsC S) w (letsC_len S) (by unfold maxLen; omega) (by omega)
      (fun j u hj => by
        have hjl : j < S.length * 4 := by
          have := (List.getElem?_eq_some_iff.1 hj).1
          rw [letsC_len] at this
          exact this
        rw [hx j hjl, hj]) (letsC_cell S)).mono ?_
    rintro e w' ⟨v', rfl, ho, _, hb⟩
    exact ⟨v', rfl, ho, hb⟩
set_option maxRecDepth 100000 in
theorem flying_any {w : World} {base N : Nat} {n : NetP} {p : Value} (h : NetAt w base p N n) (hS : n.fly.length ≤ 1000000) :
    Calls Tryd.prog 34 #[p] w fun e w' => ∃ v', e = .returned v' ∧ w'.ownsRow w.heap.size 83 4 v' n.fly.length (letsC n.fly) ∧ Below w.heap.size w w' := by
  obtain ⟨b, mb, cb, v, F, G, rfl, h⟩ := h
  have c1 : w.cell? ⟨b, 1, none⟩ = some v := h.whole.cell 1
  have CL := cloneLet_any h.fly hS
  obtain ⟨A, c, rfl, _⟩ := h.fly
  obtain ⟨S, hm⟩ : ∃ m, n.fly = m := ⟨_, rfl⟩
  rw [hm] at c1 CL ⊢
  obtain ⟨m, hm2⟩ : ∃ m, S.length = m := ⟨_, rfl⟩
  rw [hm2] at c1 CL ⊢
  have HC := Lib.hid CL
  clear h hm hS CL hm2
  go_enter Tryd.func34, Tryd.ntmps34
  go_wp2_with fail
  refine HC.out.mono ?_; rintro e w1 ⟨v1, rfl, ho, hb⟩
  have HO := Lib.hid ho; have HB := Lib.hid hb
  obtain ⟨A1, c1, rfl⟩ := own_form ho
  clear ho hb
  go_wp2_with fail
  go_ret
  exact ⟨_, rfl, HO.out, HB.out⟩
end Go.Proofs.YtlopoddllfkkfaaDoor
