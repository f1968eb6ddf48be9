/- PermTells: the law. -/
import Derived.Test.YtlkmbhbjhiobiaaDoorRefEven
namespace Go.Proofs.YtlkmbhbjhiobiaaDoor
open Go.RowKit

theorem code_f {c p : Int} {w : World} {v : Value} (h : FaultAt c p w v) (hg : ErrT w) : Calls Tryd.prog 16 #[v] w fun e w' => e = .returned (.int .i64 c) ∧ Below w.heap.size w w' := by
  obtain ⟨b, s, rfl, hw⟩ := h
  exact code_hit b c w hg (by rw [hw.cell 0]; rfl)
theorem at_f {c p : Int} {w : World} {v : Value} (h : FaultAt c p w v) (hg : ErrT w) : Calls Tryd.prog 17 #[v] w fun e w' => e = .returned (.int .i64 p) ∧ Below w.heap.size w w' := by
  obtain ⟨b, s, rfl, hw⟩ := h
  exact at_hit b p w hg (by rw [hw.cell 1]; rfl)

/-- What comes of Then for an order and any list. -/
def ThenR (n m : Nat) (P Q : Nat → Int) (w : World) (u f : Value) : Prop :=
  (rightB m Q = false ∧ FaultAt 1 0 w f) ∨ (rightB m Q = true ∧ n ≠ m ∧ FaultAt 1 1 w f) ∨ (rightB m Q = true ∧ n = m ∧ f = .nilIface ∧ ∃ (b : Nat) (Y : Nat → Int), u = .slice (some ⟨b, 0, none⟩) n n ∧ IntsV w u n Y ∧ ∀ i, i < n → Y i = Q (P i).toNat)
theorem ThenR.below {n m : Nat} {P Q : Nat → Int} {w w' : World} {u f : Value} (h : ThenR n m P Q w u f) {B : Nat} (hb : Below B w w') (hB : w.heap.size ≤ B) : ThenR n m P Q w' u f := by
  rcases h with ⟨h1, h2⟩ | ⟨h1, h2, h3⟩ | ⟨h1, h2, h3, b, Y, h4, h5, h6⟩
  · exact Or.inl ⟨h1, h2.below hb hB⟩
  · exact Or.inr (Or.inl ⟨h1, h2, h3.below hb hB⟩)
  · exact Or.inr (Or.inr ⟨h1, h2, h3, b, Y, h4, h5.below hb hB, h6⟩)
theorem then_any (n m : Nat) (P Q : Nat → Int) (v u : Value) (w : World) (hp : IntsV w v n P) (hq : IntsV w u m Q) (hO : Order n P) :
    Calls Tryd.prog 11 #[v, u] w fun e w' => ∃ y f, e = .returned (.tuple #[y, f]) ∧ ThenR n m P Q w' y f ∧ Below w.heap.size w w' := by
  cases hr : rightB m Q with
  | false =>
    refine (then_bad2 n m P Q v u w hp hq hO hr).mono ?_
    rintro e w' ⟨f, rfl, hf, hb⟩
    exact ⟨_, _, rfl, Or.inl ⟨hr, hf⟩, hb⟩
  | true =>
    by_cases hnm : n = m
    · subst hnm
      refine (then_ok n P Q v u w hp hq hO (rightB_iff.1 hr)).mono ?_
      rintro e w' ⟨b, Y, rfl, _, hY, hYQ, hb⟩
      exact ⟨_, _, rfl, Or.inr (Or.inr ⟨hr, rfl, rfl, b, Y, rfl, hY, hYQ⟩), hb⟩
    · refine (then_len n m P Q v u w hp hq hO (rightB_iff.1 hr) hnm).mono ?_
      rintro e w' ⟨f, rfl, hf, hb⟩
      exact ⟨_, _, rfl, Or.inr (Or.inl ⟨hr, hnm, hf⟩), hb⟩
/-- What comes of Put for an order and any list. -/
def PutR (n m : Nat) (P L : Nat → Int) (w : World) (u f : Value) : Prop :=
  (n ≠ m ∧ FaultAt 1 1 w f) ∨ (n = m ∧ f = .nilIface ∧ ∃ (b : Nat) (Y : Nat → Int), u = .slice (some ⟨b, 0, none⟩) n n ∧ IntsV w u n Y ∧ ∀ i, i < n → Y (P i).toNat = L i)
theorem PutR.below {n m : Nat} {P L : Nat → Int} {w w' : World} {u f : Value} (h : PutR n m P L w u f) {B : Nat} (hb : Below B w w') (hB : w.heap.size ≤ B) : PutR n m P L w' u f := by
  rcases h with ⟨h2, h3⟩ | ⟨h2, h3, b, Y, h4, h5, h6⟩
  · exact Or.inl ⟨h2, h3.below hb hB⟩
  · exact Or.inr ⟨h2, h3, b, Y, h4, h5.below hb hB, h6⟩
theorem put_any (n m : Nat) (P L : Nat → Int) (v u : Value) (w : World) (hp : IntsV w v n P) (hq : IntsV w u m L) (hO : Order n P) :
    Calls Tryd.prog 12 #[v, u] w fun e w' => ∃ y f, e = .returned (.tuple #[y, f]) ∧ PutR n m P L w' y f ∧ Below w.heap.size w w' := by
  by_cases hnm : n = m
  · subst hnm
    refine (put_ok n P L v u w hp hq hO).mono ?_
    rintro e w' ⟨b, Y, rfl, _, hY, hYQ, hb⟩
    exact ⟨_, _, rfl, Or.inr ⟨rfl, rfl, b, Y, rfl, own_intsV hY, hYQ⟩, hb⟩
  · refine (put_len n m P L v u w hp hq hO hnm).mono ?_
    rintro e w' ⟨f, rfl, hf, hb⟩
    exact ⟨_, _, rfl, Or.inl ⟨hnm, hf⟩, hb⟩

set_option maxRecDepth 100000 in
set_option maxHeartbeats 4000000 in
/-- More than is looked at. -/
theorem tells_far (n m l : Nat) (P Q L : Nat → Int) (v u x : Value) (w : World) (hg : ErrT w) (hp : IntsV w v n P) (hq : IntsV w u m Q) (hl : IntsV w x l L) (hfar : 20 < n ∨ 20 < m ∨ 20 < l) :
    Calls Tryd.prog 3 #[v, u, x] w fun e w' => e = .returned (.bool true) ∧ Below w.heap.size w w' := by
  obtain ⟨A, c, rfl⟩ := hp.form
  obtain ⟨A2, c2, rfl⟩ := hq.form
  obtain ⟨A3, c3, rfl⟩ := hl.form
  have AL := Lib.hid (alive_ok w hg)
  have hcase : decide ((20 : Int) < n) = true ∨ (decide ((20 : Int) < n) = false ∧ decide ((20 : Int) < m) = true) ∨ (decide ((20 : Int) < n) = false ∧ decide ((20 : Int) < m) = false ∧ decide ((20 : Int) < l) = true) := by
    simp only [decide_eq_true_eq, decide_eq_false_iff_not]; omega
  clear hg hp hq hl hfar
  rcases hcase with t1 | ⟨t1, t2⟩ | ⟨t1, t2, t3⟩
  all_goals
    go_enter Tryd.func3, Tryd.ntmps3
    go_wp2_with fail
    refine AL.out.mono ?_; rintro e w1 ⟨rfl, hb1⟩
    have HB1 := Lib.hid hb1
    clear hb1
    go_wp2_with fail
    go_ret
    exact ⟨rfl, HB1.out⟩

set_option maxRecDepth 100000 in
set_option maxHeartbeats 4000000 in
/-- A list that is no order. -/
theorem tells_no (n m l : Nat) (P Q L : Nat → Int) (v u x : Value) (w : World) (hg : ErrT w) (hp : IntsV w v n P) (hq : IntsV w u m Q) (hl : IntsV w x l L) (hn : n ≤ 20) (hm : m ≤ 20) (hl2 : l ≤ 20) (hr : rightB n P = false) :
    Calls Tryd.prog 3 #[v, u, x] w fun e w' => e = .returned (.bool true) ∧ Below w.heap.size w w' := by
  obtain ⟨A, c, rfl⟩ := hp.form
  obtain ⟨A2, c2, rfl⟩ := hq.form
  obtain ⟨A3, c3, rfl⟩ := hl.form
  have AL := Lib.hid (alive_ok w hg)
  have HP := Lib.hid hp; have HQ := Lib.hid hq; have HL := Lib.hid hl; have HR := Lib.hid hr; have HG := Lib.hid hg
  have t1 : decide ((20 : Int) < n) = false := decide_eq_false (by omega)
  have t2 : decide ((20 : Int) < m) = false := decide_eq_false (by omega)
  have t3 : decide ((20 : Int) < l) = false := decide_eq_false (by omega)
  have hn' : n ≤ 1000 := by omega
  clear hg hp hq hl hr hm hl2
  go_enter Tryd.func3, Tryd.ntmps3
  go_wp2_with fail
  refine AL.out.mono ?_; rintro e w1 ⟨rfl, hb1⟩
  have HP1 := Lib.hid (HP.out.below hb1 (Nat.le_refl _))
  have HQ1 := Lib.hid (HQ.out.below hb1 (Nat.le_refl _))
  have HL1 := Lib.hid (HL.out.below hb1 (Nat.le_refl _))
  have HB1 := Lib.hid hb1
  have R1 := refRight_any n P _ w1 HP1.out hn'
  rw [HR.out] at R1
  have HR1 := Lib.hid R1
  clear hb1 R1
  go_wp2_with fail
  refine HR1.out.mono ?_; rintro e w2 ⟨rfl, hw2⟩; obtain rfl := hw2.symm
  have C2 := Lib.hid (back_bad n P _ w1 HP1.out HR.out)
  go_wp2_with fail
  refine C2.out.mono ?_; rintro e w3 ⟨f1, rfl, hf1, hb3⟩
  have HP3 := Lib.hid (HP1.out.below hb3 (Nat.le_refl _))
  have HQ3 := Lib.hid (HQ1.out.below hb3 (Nat.le_refl _))
  have HL3 := Lib.hid (HL1.out.below hb3 (Nat.le_refl _))
  have HB3 := Lib.hid (HB1.out.trans (hb3.mono HB1.out.size))
  have HF1 := Lib.hid hf1
  have C3 := Lib.hid (then_bad1 n m P Q _ _ w3 HP3.out HQ3.out HR.out)
  clear hf1 hb3
  go_wp2_with fail
  refine C3.out.mono ?_; rintro e w4 ⟨f2, rfl, hf2, hb4⟩
  have HP4 := Lib.hid (HP3.out.below hb4 (Nat.le_refl _))
  have HL4 := Lib.hid (HL3.out.below hb4 (Nat.le_refl _))
  have HB4 := Lib.hid (HB3.out.trans (hb4.mono HB3.out.size))
  have HF14 := Lib.hid (HF1.out.below hb4 (Nat.le_refl _)); have HF2 := Lib.hid hf2
  have C4 := Lib.hid (put_bad n P _ (.slice A3 l c3) w4 HP4.out HR.out)
  clear hf2 hb4
  go_wp2_with fail
  refine C4.out.mono ?_; rintro e w5 ⟨f3, rfl, hf3, hb5⟩
  have HP5 := Lib.hid (HP4.out.below hb5 (Nat.le_refl _))
  have HB5 := Lib.hid (HB4.out.trans (hb5.mono HB4.out.size))
  have HF15 := Lib.hid (HF14.out.below hb5 (Nat.le_refl _)); have HF25 := Lib.hid (HF2.out.below hb5 (Nat.le_refl _)); have HF3 := Lib.hid hf3
  have C5 := Lib.hid (even_bad n P _ w5 HP5.out HR.out)
  clear hf3 hb5
  go_wp2_with fail
  refine C5.out.mono ?_; rintro e w6 ⟨f4, rfl, hf4, hb6⟩
  have HP6 := Lib.hid (HP5.out.below hb6 (Nat.le_refl _))
  have HB6 := Lib.hid (HB5.out.trans (hb6.mono HB5.out.size))
  have HF16 := Lib.hid (HF15.out.below hb6 (Nat.le_refl _)); have HF26 := Lib.hid (HF25.out.below hb6 (Nat.le_refl _)); have HF36 := Lib.hid (HF3.out.below hb6 (Nat.le_refl _)); have HF4 := Lib.hid hf4
  have C6 := Lib.hid (circles_bad n P _ w6 HP6.out HR.out)
  clear hf4 hb6
  go_wp2_with fail
  refine C6.out.mono ?_; rintro e w7 ⟨f5, rfl, hf5, hb7⟩
  have HP7 := Lib.hid (HP6.out.below hb7 (Nat.le_refl _))
  have HB7 := Lib.hid (HB6.out.trans (hb7.mono HB6.out.size))
  have HF17 := Lib.hid (HF16.out.below hb7 (Nat.le_refl _)); have HF27 := Lib.hid (HF26.out.below hb7 (Nat.le_refl _)); have HF37 := Lib.hid (HF36.out.below hb7 (Nat.le_refl _)); have HF47 := Lib.hid (HF4.out.below hb7 (Nat.le_refl _)); have HF5 := Lib.hid hf5
  have R7 := right_any n P _ w7 HP7.out
  rw [HR.out] at R7
  have HR7 := Lib.hid R7
  clear hf5 hb7 R7
  go_wp2_with fail
  refine HR7.out.mono ?_; rintro e w8 ⟨rfl, hb8⟩
  have HB8 := Lib.hid (HB7.out.trans (hb8.mono HB7.out.size))
  have HF18 := Lib.hid (HF17.out.below hb8 (Nat.le_refl _)); have HF28 := Lib.hid (HF27.out.below hb8 (Nat.le_refl _)); have HF38 := Lib.hid (HF37.out.below hb8 (Nat.le_refl _)); have HF48 := Lib.hid (HF47.out.below hb8 (Nat.le_refl _)); have HF58 := Lib.hid (HF5.out.below hb8 (Nat.le_refl _))
  have D1 := Lib.hid (code_f HF18.out (HG.out.below HB8.out (Nat.le_refl _)))
  clear hb8
  go_wp2_with fail
  refine D1.out.mono ?_; rintro e w9 ⟨rfl, hb9⟩
  have HB9 := Lib.hid (HB8.out.trans (hb9.mono HB8.out.size))
  have D2 := Lib.hid (code_f (HF28.out.below hb9 (Nat.le_refl _)) (HG.out.below HB9.out (Nat.le_refl _)))
  have HF39 := Lib.hid (HF38.out.below hb9 (Nat.le_refl _)); have HF49 := Lib.hid (HF48.out.below hb9 (Nat.le_refl _)); have HF59 := Lib.hid (HF58.out.below hb9 (Nat.le_refl _))
  clear hb9
  go_wp2_with fail
  refine D2.out.mono ?_; rintro e w10 ⟨rfl, hb10⟩
  have HB10 := Lib.hid (HB9.out.trans (hb10.mono HB9.out.size))
  have HF310 := Lib.hid (HF39.out.below hb10 (Nat.le_refl _)); have HF410 := Lib.hid (HF49.out.below hb10 (Nat.le_refl _)); have HF510 := Lib.hid (HF59.out.below hb10 (Nat.le_refl _))
  have D3 := Lib.hid (code_f HF310.out (HG.out.below HB10.out (Nat.le_refl _)))
  clear hb10
  go_wp2_with fail
  refine D3.out.mono ?_; rintro e w11 ⟨rfl, hb11⟩
  have HB11 := Lib.hid (HB10.out.trans (hb11.mono HB10.out.size))
  have HF411 := Lib.hid (HF410.out.below hb11 (Nat.le_refl _)); have HF511 := Lib.hid (HF510.out.below hb11 (Nat.le_refl _))
  have D4 := Lib.hid (at_f (HF310.out.below hb11 (Nat.le_refl _)) (HG.out.below HB11.out (Nat.le_refl _)))
  clear hb11
  go_wp2_with fail
  refine D4.out.mono ?_; rintro e w12 ⟨rfl, hb12⟩
  have HB12 := Lib.hid (HB11.out.trans (hb12.mono HB11.out.size))
  have HF512 := Lib.hid (HF511.out.below hb12 (Nat.le_refl _))
  have D5 := Lib.hid (code_f (HF411.out.below hb12 (Nat.le_refl _)) (HG.out.below HB12.out (Nat.le_refl _)))
  clear hb12
  go_wp2_with fail
  refine D5.out.mono ?_; rintro e w13 ⟨rfl, hb13⟩
  have HB13 := Lib.hid (HB12.out.trans (hb13.mono HB12.out.size))
  have D6 := Lib.hid (code_f (HF512.out.below hb13 (Nat.le_refl _)) (HG.out.below HB13.out (Nat.le_refl _)))
  clear hb13
  go_wp2_with fail
  refine D6.out.mono ?_; rintro e w14 ⟨rfl, hb14⟩
  have HB14 := Lib.hid (HB13.out.trans (hb14.mono HB13.out.size))
  clear hb14
  go_wp2_with fail
  go_ret
  exact ⟨rfl, HB14.out⟩
end Go.Proofs.YtlkmbhbjhiobiaaDoor
