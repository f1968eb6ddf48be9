/- Rounds, whatever is called. -/
import Derived.Test.YtlopoddllfkkfaaDoorBspF
namespace Go.Proofs.YtlopoddllfkkfaaDoor
open Go.RowKit

/-- The states behind so many rounds. -/
def iterR (TL : List (List Int)) : Nat → MP → MP
  | 0, p => p
  | n + 1, p => roundP TL (iterR TL n p)
theorem iterR_rd (TL : List (List Int)) (p : MP) : ∀ n, (iterR TL n p).rd = p.rd + n ∧ (iterR TL n p).k = p.k
  | 0 => ⟨rfl, rfl⟩
  | n + 1 => by
    have h := iterR_rd TL p n
    exact ⟨by show (iterR TL n p).rd + 1 = _; rw [h.1]; omega, h.2⟩
/-- A machine of words that began as p0, after some calls. -/
def LawM (TL : List (List Int)) (p0 : MP) (vt : Value) (base q m : Nat) (R : Nat → Prop) (p : MP) (w : World) : Prop :=
  MachB w base (q + 8 * cntW p) p (wordJob vt) m R ∧ MInv TL q p ∧ Same (iterR TL p.rd p0) p
theorem LawM.below {TL : List (List Int)} {p0 p : MP} {vt : Value} {base q m : Nat} {R : Nat → Prop} {w w' : World} (h : LawM TL p0 vt base q m R p w) (hb : Below w.heap.size w w') : LawM TL p0 vt base q m R p w' := ⟨h.1.below hb, h.2⟩
theorem LawM.stay {TL : List (List Int)} {p0 p : MP} {vt : Value} {base q m : Nat} {R R' : Nat → Prop} {w w' : World} (h : LawM TL p0 vt base q m R p w) (hf : Fr w.heap.size R' w w') (hs : ∀ g, R g → ¬ R' g) : LawM TL p0 vt base q m R p w' := ⟨h.1.stay hf hs, h.2⟩
/-- What a call leaves, in a law. -/
def LawTo (TL : List (List Int)) (p0 : MP) (vt : Value) (base q m : Nat) (R : Nat → Prop) (p : MP) (w w' : World) : Prop :=
  ∃ R', LawM TL p0 vt base q m R' p w' ∧ Fr w.heap.size R w w' ∧ (∀ g, R' g → R g ∨ w.heap.size ≤ g) ∧ Below base w w'
theorem LawTo.of_op {TL : List (List Int)} {p0 p : MP} {vt : Value} {base q N m : Nat} {R : Nat → Prop} {w w' : World} (h : OpTo base N p (wordJob vt) m R w w') (hN : N ≤ q + 8 * cntW p) (hi : MInv TL q p) (hs : Same (iterR TL p.rd p0) p) : LawTo TL p0 vt base q m R p w w' := by
  obtain ⟨R', h1, h2, h3, h4⟩ := h.mono hN
  exact ⟨R', ⟨h1, hi, hs⟩, h2, h3, h4⟩
theorem LawTo.of_below {TL : List (List Int)} {p0 p : MP} {vt : Value} {base q q' m : Nat} {R : Nat → Prop} {w w' : World} (h : LawM TL p0 vt base q m R p w) (hb : Below w.heap.size w w') (hbase : base ≤ w.heap.size) (hq : q ≤ q') : LawTo TL p0 vt base q' m R p w w' :=
  LawTo.of_op (OpTo.of_below h.1 hb hbase) (by omega) (h.2.1.mono hq) h.2.2
theorem LawTo.before {TL : List (List Int)} {p0 p : MP} {vt : Value} {base q m : Nat} {R R' : Nat → Prop} {w w1 w2 : World} (h : LawTo TL p0 vt base q m R' p w1 w2) (hfr : Fr w.heap.size R w w1) (hsub : ∀ g, R' g → R g ∨ w.heap.size ≤ g) (hbel : Below base w w1) : LawTo TL p0 vt base q m R p w w2 := by
  obtain ⟨R2, k1, k2, k3, k4⟩ := h
  refine ⟨R2, k1, hfr.more k2 hfr.size hsub, fun g hg => ?_, hbel.trans k4⟩
  rcases k3 g hg with e | e
  · exact hsub g e
  · exact Or.inr (Nat.le_trans hfr.size e)
section
variable {TL : List (List Int)} {p0 p : MP} {vt : Value} {base q m : Nat} {R : Nat → Prop} {w : World}
/-- The code of Work. -/
def workC (p : MP) (i : Int) : Int := if 0 ≤ i ∧ i < p.k then (if p.wk.getD i.toNat false = true then 4 else 0) else 3
def workQ (TL : List (List Int)) (p : MP) (i : Int) : MP := if workC p i = 0 then workP p i.toNat (TL.getD i.toNat []) else p
theorem cnt_k (h : MInv TL q p) : cntW p ≤ p.k := by rw [← h.l5]; exact cnt_le p
theorem lwork (h : LawM TL p0 vt base q m R p w) (hbase : base ≤ w.heap.size) (hq : q ≤ 300) (hT : ∀ W, Below base w W → ListsV W vt TL) (i : Int) :
    Calls Tryd.prog 12 #[.pointer (some ⟨m, 0, none⟩), .int .i64 i] w fun e w' => ∃ u, e = .returned u ∧ ErrAs (workC p i) w' u ∧ LawTo TL p0 vt base q m R (workQ TL p i) w w' := by
  have hk := cnt_k h.2.1
  have h8 := h.2.1.k2
  by_cases hi : 0 ≤ i ∧ i < p.k
  · obtain ⟨a, rfl⟩ : ∃ a : Nat, i = a := ⟨i.toNat, by omega⟩
    have ha : a < p.k := by omega
    have e1 : workC p (a : Int) = if p.wk.getD a false = true then 4 else 0 := by unfold workC; rw [if_pos hi]; rfl
    by_cases hw : p.wk.getD a false = true
    · rw [if_pos hw] at e1
      have e2 : workQ TL p (a : Int) = p := by unfold workQ; rw [e1]; rfl
      rw [e1, e2]
      refine (mwork_again h.1 a ha hw).mono ?_
      rintro e w' ⟨⟨u, rfl, hf⟩, hb⟩
      exact ⟨u, rfl, Or.inr ⟨by decide, hf⟩, LawTo.of_below h hb hbase (Nat.le_refl _)⟩
    · rw [if_neg hw] at e1
      have hw' : p.wk.getD a false = false := (Bool.not_eq_true _).mp hw
      have e2 : workQ TL p (a : Int) = workP p a (TL.getD a []) := by unfold workQ; rw [e1]; rfl
      rw [e1, e2]
      have hc1 : cntW (workP p a (TL.getD a [])) = cntW p + 1 := count_set_true _ _ (by rw [h.2.1.l5]; exact ha) hw'
      have hcl : cntW p + 1 ≤ 8 := by
        rw [← hc1]
        have h9 := cnt_le (workP p a (TL.getD a []))
        have h10 : (workP p a (TL.getD a [])).wk.length = p.k := by show (p.wk.set a true).length = _; rw [List.length_set]; exact h.2.1.l5
        omega
      have htl := h.2.1.tl a
      refine (mwork_good TL h.1 hT h.2.1.good a ha hw' (by omega) (by omega) hbase (h.2.1.tr a) (by have := h.2.1.s1 a; unfold stOf at this; omega) (fun y hy => h.2.1.s2 a y hy) (h.2.1.s3 a)).mono ?_
      rintro e w' ⟨rfl, ho⟩
      exact ⟨_, rfl, Or.inl ⟨rfl, rfl⟩, LawTo.of_op ho (by rw [hc1]; omega) (h.2.1.work ha hw' (by omega)) (h.2.2.trans ⟨rfl, rfl, rfl, rfl⟩)⟩
  · have e1 : workC p i = 3 := by unfold workC; rw [if_neg hi]
    have e2 : workQ TL p i = p := by unfold workQ; rw [e1]; rfl
    rw [e1, e2]
    refine (mwork_range h.1 i hi).mono ?_
    rintro e w' ⟨⟨u, rfl, hf⟩, hb⟩
    exact ⟨u, rfl, Or.inr ⟨by decide, hf⟩, LawTo.of_below h hb hbase (Nat.le_refl _)⟩
theorem ldeliver (h : LawM TL p0 vt base q m R p w) (hbase : base ≤ w.heap.size) (hq : q ≤ 300) (i : Int) :
    Calls Tryd.prog 14 #[.pointer (some ⟨m, 0, none⟩), .int .i64 i] w fun e w' => ∃ u, e = .returned u ∧ ErrAs (stepP p.nt 2 i 0 ⟨#[]⟩).2 w' u ∧ LawTo TL p0 vt base (q + 1) m R (netP p 2 i) w w' := by
  have hk := cnt_k h.2.1
  have h8 := h.2.1.k2
  refine (mdeliver_any h.1 h.2.1.good (by omega) (by omega) hbase i).mono ?_
  rintro e w' ⟨u, rfl, hu, ho⟩
  exact ⟨u, rfl, hu, LawTo.of_op ho (by show q + 8 * cntW p + 1 ≤ q + 1 + 8 * cntW p; omega) (h.2.1.net (by omega) 2 i (Or.inr rfl)) (h.2.2.trans ⟨rfl, rfl, rfl, rfl⟩)⟩
theorem ldouble (h : LawM TL p0 vt base q m R p w) (hbase : base ≤ w.heap.size) (hq : q ≤ 300) (i : Int) :
    Calls Tryd.prog 15 #[.pointer (some ⟨m, 0, none⟩), .int .i64 i] w fun e w' => ∃ u, e = .returned u ∧ ErrAs (stepP p.nt 1 i 0 ⟨#[]⟩).2 w' u ∧ LawTo TL p0 vt base (q + 1) m R (netP p 1 i) w w' := by
  have hk := cnt_k h.2.1
  have h8 := h.2.1.k2
  refine (mdouble_any h.1 h.2.1.good (by omega) hbase i).mono ?_
  rintro e w' ⟨u, rfl, hu, ho⟩
  exact ⟨u, rfl, hu, LawTo.of_op ho (by show q + 8 * cntW p + 1 ≤ q + 1 + 8 * cntW p; omega) (h.2.1.net (by omega) 1 i (Or.inl rfl)) (h.2.2.trans ⟨rfl, rfl, rfl, rfl⟩)⟩
theorem lcrash (h : LawM TL p0 vt base q m R p w) (hbase : base ≤ w.heap.size) (i : Int) :
    Calls Tryd.prog 16 #[.pointer (some ⟨m, 0, none⟩), .int .i64 i] w fun e w' => ∃ u, e = .returned u ∧ ErrAs (inW p.k i) w' u ∧ LawTo TL p0 vt base q m R (crashP p i) w w' := by
  by_cases hi : 0 ≤ i ∧ i < p.k
  · have e1 : crashP p i = backP p := if_pos hi
    refine (mcrash_any h.1 hbase i).mono ?_
    rintro e w' ⟨u, rfl, hu, ho⟩
    rw [e1, show crashN p (q + 8 * cntW p) i = 0 from if_pos hi] at ho
    rw [e1]
    exact ⟨u, rfl, hu, LawTo.of_op ho (Nat.zero_le _) (h.2.1.back.mono (Nat.zero_le _)) (h.2.2.trans ⟨rfl, rfl, rfl, rfl⟩)⟩
  · have e1 : crashP p i = p := if_neg hi
    refine (mcrash_any h.1 hbase i).mono ?_
    rintro e w' ⟨u, rfl, hu, ho⟩
    rw [e1, show crashN p (q + 8 * cntW p) i = q + 8 * cntW p from if_neg hi] at ho
    rw [e1]
    exact ⟨u, rfl, hu, LawTo.of_op ho (Nat.le_refl _) h.2.1 h.2.2⟩
/-- The code of Pass. -/
def passC (p : MP) : Int := if p.wk.all id = true then (if p.nt.miss = 0 then 0 else 13) else 5
def passA (p : MP) : Int := if p.wk.all id = true then p.nt.miss else 0
def passQ (TL : List (List Int)) (p : MP) : MP := if passC p = 0 then roundP TL p else p
theorem lround (h : Same (iterR TL p.rd p0) p) : Same (iterR TL (roundP TL p).rd p0) (roundP TL p) := by
  show Same (roundP TL (iterR TL p.rd p0)) (roundP TL p)
  rw [h.round]
  exact Same.refl _
/-- An error of a code at a place. -/
def ErrIs (c a : Int) (w : World) (u : Value) : Prop := (c = 0 ∧ u = .nilIface) ∨ (c ≠ 0 ∧ FaultAt c a w u)
theorem lpass (h : LawM TL p0 vt base q m R p w) (hbase : base ≤ w.heap.size) (hq : q ≤ 300) (hrd : p.rd ≤ 1000000) :
    Calls Tryd.prog 17 #[.pointer (some ⟨m, 0, none⟩)] w fun e w' => ∃ u, e = .returned u ∧ ErrIs (passC p) (passA p) w' u ∧ LawTo TL p0 vt base q m R (passQ TL p) w w' := by
  have hk := cnt_k h.2.1
  have h8 := h.2.1.k2
  by_cases hw : p.wk.all id = true
  · by_cases hm : p.nt.miss = 0
    · have e1 : passC p = 0 := by unfold passC; rw [if_pos hw, if_pos hm]
      have e2 : passQ TL p = roundP TL p := if_pos e1
      rw [e1, e2]
      refine (mpass_go h.1 hw hm hbase (fun a c => Nat.le_trans (h.2.1.good.sn a c) (by omega)) hrd).mono ?_
      rintro e w' ⟨rfl, ho⟩
      rw [h.2.1.pass_eq hw hm] at ho
      exact ⟨_, rfl, Or.inl ⟨rfl, rfl⟩, LawTo.of_op ho (Nat.zero_le _) (h.2.1.round.mono (Nat.zero_le _)) (lround h.2.2)⟩
    · have e1 : passC p = 13 := by unfold passC; rw [if_pos hw, if_neg hm]
      have e2 : passQ TL p = p := by unfold passQ; rw [e1]; rfl
      have e3 : passA p = p.nt.miss := if_pos hw
      rw [e1, e2, e3]
      refine (mpass_late h.1 hw rfl hm).mono ?_
      rintro e w' ⟨⟨u, rfl, hf⟩, hb⟩
      exact ⟨u, rfl, Or.inr ⟨by decide, hf⟩, LawTo.of_below h hb hbase (Nat.le_refl _)⟩
  · have e1 : passC p = 5 := by unfold passC; rw [if_neg hw]
    have e2 : passQ TL p = p := by unfold passQ; rw [e1]; rfl
    have e3 : passA p = 0 := if_neg hw
    rw [e1, e2, e3]
    refine (mpass_not h.1 ((Bool.not_eq_true _).mp hw)).mono ?_
    rintro e w' ⟨⟨u, rfl, hf⟩, hb⟩
    exact ⟨u, rfl, Or.inr ⟨by decide, hf⟩, LawTo.of_below h hb hbase (Nat.le_refl _)⟩
theorem lfinish (h : LawM TL p0 vt base q m R p w) (hbase : base ≤ w.heap.size) (hq : q ≤ 300) (hrd : p.rd ≤ 1000000) (hT : ∀ W, Below base w W → ListsV W vt TL) :
    Calls Tryd.prog 18 #[.pointer (some ⟨m, 0, none⟩)] w fun e w' => e = .returned .nilIface ∧ LawTo TL p0 vt base 0 m R (roundP TL p) w w' := by
  refine (mfinish_any h.1 h.2.1 hq hbase hrd hT).mono ?_
  rintro e w' ⟨rfl, ho⟩
  exact ⟨rfl, LawTo.of_op ho (Nat.zero_le _) h.2.1.round (lround h.2.2)⟩
theorem lroundN (h : LawM TL p0 vt base q m R p w) :
    Calls Tryd.prog 22 #[.pointer (some ⟨m, 0, none⟩)] w fun e w' => e = .returned (.int .i64 p.rd) ∧ w' = w := by
  obtain ⟨⟨nb, wb, ib, b, sv, us, Rn, hm, _⟩, _⟩ := h
  exact mround_any hm
theorem lstates (h : LawM TL p0 vt base q m R p w) :
    Calls Tryd.prog 20 #[.pointer (some ⟨m, 0, none⟩)] w fun e w' => ∃ A c, e = .returned (.slice A p.k c) ∧ ValsV w' (.slice A p.k c) (txtC p.st) ∧ w'.ownsRow w.heap.size 9 1 (.slice A p.k c) p.k (txtC p.st) ∧ Below w.heap.size w w' := by
  obtain ⟨⟨nb, wb, ib, b, sv, us, Rn, hm, _⟩, _⟩ := h
  refine (mstates_any hm).mono ?_
  rintro e w' ⟨v', rfl, ho, hb⟩
  obtain ⟨A, c, rfl⟩ := own_form ho
  exact ⟨A, c, rfl, own_vals ho, ho, hb⟩
theorem lflying (h : LawM TL p0 vt base q m R p w) (hq : q ≤ 300) :
    Calls Tryd.prog 13 #[.pointer (some ⟨m, 0, none⟩)] w fun e w' => e = .returned (.int .i64 p.nt.fly.length) ∧ Below w.heap.size w w' := by
  have hk := cnt_k h.2.1
  have h8 := h.2.1.k2
  have hf := h.2.1.good.fl
  obtain ⟨⟨nb, wb, ib, b, sv, us, Rn, hm, _⟩, _⟩ := h
  exact mflying_any hm (by omega)
theorem lworked (h : LawM TL p0 vt base q m R p w) (i : Int) :
    Calls Tryd.prog 21 #[.pointer (some ⟨m, 0, none⟩), .int .i64 i] w fun e w' => e = .returned (.bool (if 0 ≤ i ∧ i < p.k then p.wk.getD i.toNat false else false)) ∧ Below w.heap.size w w' := by
  by_cases hi : 0 ≤ i ∧ i < p.k
  · obtain ⟨a, rfl⟩ : ∃ a : Nat, i = a := ⟨i.toNat, by omega⟩
    rw [if_pos hi]
    exact mworked_in h.1 a (by omega)
  · rw [if_neg hi]
    exact mworked_out h.1 i hi
/-- A new machine of words. -/
theorem lnew (X : List ByteArray) (v : Value) (w : World) (hv : ValsV w v (txtC X)) (h1 : 1 ≤ X.length) (h2 : X.length ≤ 8) (tl : ∀ a, (TL.getD a []).length ≤ 8) (tr : ∀ a, ∀ t ∈ TL.getD a [], 0 ≤ t ∧ t < (X.length : Int)) (s1 : ∀ a, (X.getD a ⟨#[]⟩).size ≤ 60) :
    Calls Tryd.prog 10 #[wordJob vt, v] w fun e w' => ∃ m R, e = .returned (.tuple #[.pointer (some ⟨m, 0, none⟩), .nilIface]) ∧ LawM TL (startP X.length 0 X (List.replicate X.length [])) vt w.heap.size 0 m R (startP X.length 0 X (List.replicate X.length [])) w' ∧ (∀ g, R g → w.heap.size ≤ g) ∧ Below w.heap.size w w' := by
  refine (mnew_good X 35 (.agg #[vt]) v w hv h1 (by omega)).mono ?_
  rintro e w' ⟨m, R, rfl, hm, hR, hb⟩
  exact ⟨m, R, rfl, ⟨by rw [cnt_start]; exact hm, MInv.fresh rfl h1 h2 tl tr s1, Same.refl _⟩, hR, hb⟩
end
end Go.Proofs.YtlopoddllfkkfaaDoor
