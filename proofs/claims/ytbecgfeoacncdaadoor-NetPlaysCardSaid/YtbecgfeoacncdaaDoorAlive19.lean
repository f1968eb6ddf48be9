/- law 19: the chapter's example. -/
import Derived.Test.YtbecgfeoacncdaaDoorDo19
namespace Go.Proofs.YtbecgfeoacncdaaDoor
open Go.RowKit

def al1 : NetP := (stepP (freshP 2) 0 0 1 ⟨#[97]⟩).1
def al2 : NetP := (stepP al1 0 0 1 ⟨#[98]⟩).1
def al3 : NetP := (stepP al2 1 1 0 ⟨#[]⟩).1
def al4 : NetP := (stepP al3 2 1 0 ⟨#[]⟩).1
def al5 : NetP := (stepP al4 2 0 0 ⟨#[]⟩).1
def al6 : NetP := (stepP al5 2 0 0 ⟨#[]⟩).1
theorem al_codes : (stepP (freshP 2) 0 0 1 ⟨#[97]⟩).2 = 0 ∧ (stepP al1 0 0 1 ⟨#[98]⟩).2 = 0 ∧ (stepP al2 1 1 0 ⟨#[]⟩).2 = 0 ∧ (stepP al3 2 1 0 ⟨#[]⟩).2 = 0 ∧ (stepP al4 2 0 0 ⟨#[]⟩).2 = 0 ∧ (stepP al5 2 0 0 ⟨#[]⟩).2 = 0 ∧ (stepP al6 2 0 0 ⟨#[]⟩).2 = 3 := by decide
theorem al_end : al6.miss = 0 ∧ al6.k = 2 ∧ hasB al6.k 1 = true ∧ inboxL al6 1 2 = [⟨0, 1, 0, ⟨#[97]⟩⟩, ⟨0, 1, 1, ⟨#[98]⟩⟩] := ⟨by decide, by decide, by decide, by rfl⟩

set_option maxRecDepth 100000 in
set_option maxHeartbeats 4000000 in
theorem alive_ok (w : World) (hg : ErrT w) : Calls Tryd.prog 8 #[] w fun e w' => e = .returned (.bool true) ∧ Below w.heap.size w w' := by
  have HNEW := Lib.hid (netNew_any 2 w)
  have HG := Lib.hid hg
  clear hg
  go_enter Tryd.func8, Tryd.ntmps8
  go_wp2_with fail
  refine HNEW.out.mono ?_
  rintro e w1 ⟨hb1, ⟨j, p, hj, _, _, rfl, hN⟩ | ⟨h0, _⟩⟩
  case inr => omega
  obtain rfl : j = 2 := by omega
  clear hj
  obtain ⟨b, mb, cb, v1, F1, G1, rfl, hN1⟩ := hN
  have g1 := Good.fresh (k := 2) (by decide)
  have S1 := Lib.hid (send_step hN1 g1 (by decide) (by decide) 0 1 ⟨#[97]⟩)
  have HB1 := Lib.hid hb1; have HN1 := Lib.hid hN1; have HG1 := Lib.hid g1
  clear hb1 hN1 g1
  go_wp2_with fail
  refine S1.out.mono ?_; rintro e w2 ⟨u, rfl, he, hl⟩
  obtain rfl := he.nil al_codes.1
  have hb2 := HB1.out.trans (hl.go HN1.out HB1.out.size)
  obtain ⟨v2, F2, G2, hN2, _, _⟩ := hl
  have g2 : Good al1 1 := HG1.out.step (by decide) _ _ _ _
  have S2 := Lib.hid (send_step (n := al1) hN2 g2 (by decide) (by decide) 0 1 ⟨#[98]⟩)
  have HB2 := Lib.hid hb2; have HN2 := Lib.hid hN2; have HG2 := Lib.hid g2
  clear hb2 hN2 g2 he
  go_wp2_with fail
  refine S2.out.mono ?_; rintro e w3 ⟨u, rfl, he, hl⟩
  obtain rfl := he.nil al_codes.2.1
  have hb3 := HB2.out.trans (hl.go HN2.out HB2.out.size)
  obtain ⟨v3, F3, G3, hN3, _, _⟩ := hl
  have g3 : Good al2 2 := HG2.out.step (by decide) _ _ _ _
  have S3 := Lib.hid (double_step (n := al2) hN3 g3 (by decide) 1 0 ⟨#[]⟩)
  have HB3 := Lib.hid hb3; have HN3 := Lib.hid hN3; have HG3 := Lib.hid g3
  clear hb3 hN3 g3 he
  go_wp2_with fail
  refine S3.out.mono ?_; rintro e w4 ⟨u, rfl, he, hl⟩
  obtain rfl := he.nil al_codes.2.2.1
  have hb4 := HB3.out.trans (hl.go HN3.out HB3.out.size)
  obtain ⟨v4, F4, G4, hN4, _, _⟩ := hl
  have g4 : Good al3 3 := HG3.out.step (by decide) _ _ _ _
  have S4 := Lib.hid (deliver_step (n := al3) hN4 g4 (by decide) (by decide) 2 1 0 ⟨#[]⟩ (by decide) (by decide))
  have HB4 := Lib.hid hb4; have HN4 := Lib.hid hN4; have HG4 := Lib.hid g4
  clear hb4 hN4 g4 he
  go_wp2_with fail
  refine S4.out.mono ?_; rintro e w5 ⟨u, rfl, he, hl⟩
  obtain rfl := he.nil al_codes.2.2.2.1
  have hb5 := HB4.out.trans (hl.go HN4.out HB4.out.size)
  obtain ⟨v5, F5, G5, hN5, _, _⟩ := hl
  have g5 : Good al4 4 := HG4.out.step (by decide) _ _ _ _
  have S5 := Lib.hid (deliver_step (n := al4) hN5 g5 (by decide) (by decide) 2 0 0 ⟨#[]⟩ (by decide) (by decide))
  have HB5 := Lib.hid hb5; have HN5 := Lib.hid hN5; have HG5 := Lib.hid g5
  clear hb5 hN5 g5 he
  go_wp2_with fail
  refine S5.out.mono ?_; rintro e w6 ⟨u, rfl, he, hl⟩
  obtain rfl := he.nil al_codes.2.2.2.2.1
  have hb6 := HB5.out.trans (hl.go HN5.out HB5.out.size)
  obtain ⟨v6, F6, G6, hN6, _, _⟩ := hl
  have g6 : Good al5 5 := HG5.out.step (by decide) _ _ _ _
  have S6 := Lib.hid (deliver_step (n := al5) hN6 g6 (by decide) (by decide) 2 0 0 ⟨#[]⟩ (by decide) (by decide))
  have HB6 := Lib.hid hb6; have HN6 := Lib.hid hN6; have HG6 := Lib.hid g6
  clear hb6 hN6 g6 he
  go_wp2_with fail
  refine S6.out.mono ?_; rintro e w7 ⟨u, rfl, he, hl⟩
  obtain rfl := he.nil al_codes.2.2.2.2.2.1
  have hb7 := HB6.out.trans (hl.go HN6.out HB6.out.size)
  obtain ⟨v7, F7, G7, hN7, _, _⟩ := hl
  have g7 : Good al6 6 := HG6.out.step (by decide) _ _ _ _
  have IB := inbox_ok (n := al6) hN7 1 g7.k al_end.2.2.1 (fun a => Nat.le_trans (g7.sn a 1) (by decide))
  rw [al_end.2.1, al_end.2.2.2] at IB
  have HIB := Lib.hid IB
  have HB7 := Lib.hid hb7; have HN7 := Lib.hid (show NetIn w7 w.heap.size _ al6 b mb cb v7 F7 G7 from hN7); have HG7 := Lib.hid g7
  clear hb7 hN7 g7 he IB
  go_wp2_with fail
  refine HIB.out.mono ?_; rintro e w8 ⟨u, rfl, hf, hb8⟩
  obtain ⟨A, cp, hu, hcp, _⟩ := id hf
  subst hu
  obtain ⟨g, off, rfl, _, _, _, a3⟩ := hf.lets.pos (i := 0) (by decide)
  obtain ⟨g', off', hA, _, _, _, b3⟩ := hf.lets.pos (i := 1) (by decide)
  injection hA with hA
  injection hA with z1 z2
  subst z1 z2
  have hN8 := HN7.out.below hb8 (Nat.le_refl _)
  have HQ := quiet_any ⟨b, mb, cb, v7, F7, G7, rfl, hN8⟩
  rw [al_end.1] at HQ
  have HQ := Lib.hid HQ
  have S8 := Lib.hid (deliver_step (n := al6) hN8 HG7.out (by decide) (by decide) 2 0 0 ⟨#[]⟩ (by decide) (by decide))
  have HB8 := Lib.hid (HB7.out.trans (hb8.mono HB7.out.size)); have HN8 := Lib.hid hN8
  clear hb8 hN8 hcp hf
  simp only [List.getElem_cons_zero, List.getElem_cons_succ, Nat.zero_mul, Nat.add_zero, Nat.one_mul] at a3 b3
  simp only [List.length_cons, List.length_nil, Nat.zero_add, Nat.reduceAdd]
  go_wp2_with fail
  refine HQ.out.mono ?_; rintro e wz ⟨rfl, hw⟩; obtain rfl := hw.symm
  go_wp2_with fail
  refine S8.out.mono ?_; rintro e w9 ⟨u, rfl, he, hl⟩
  have hb9 := HB8.out.trans (hl.go HN8.out HB8.out.size)
  have CA := code_as he (HG.out.below hb9 (Nat.le_refl _))
  rw [al_codes.2.2.2.2.2.2] at CA
  have CA := Lib.hid CA; have HB9 := Lib.hid hb9
  rcases he.form with rfl | ⟨fb, rfl⟩
  all_goals
    clear he hl hb9
    go_wp2_with fail
    refine CA.out.mono ?_; rintro e w10 ⟨rfl, hb10⟩
    have HB10 := Lib.hid (HB9.out.trans (hb10.mono HB9.out.size))
    clear hb10
    go_wp2_with fail
    go_ret
    exact ⟨rfl, HB10.out⟩
end Go.Proofs.YtbecgfeoacncdaaDoor
