/- BspSame: the law. Written by gen_same20.py. -/
import Derived.Test.YtlopoddllfkkfaaDoorBspH
namespace Go.Proofs.YtlopoddllfkkfaaDoor
open Go.RowKit

/-- A slice that reads as acts. -/
def ActsV (w : World) (v : Value) (E : List (Int × Int)) : Prop :=
  (E = [] ∧ ∃ (ao : Option Addr) (cap : Nat), v = .slice ao 0 cap) ∨ (0 < E.length ∧ ∃ b off cap : Nat, v = .slice (some ⟨b, off, none⟩) E.length cap ∧
    ∀ i, i < E.length → w.cell? ⟨b, off + i * 2, none⟩ = some (.int .i64 (E.getD i (0, 0)).1) ∧ w.cell? ⟨b, off + i * 2 + 1, none⟩ = some (.int .i64 (E.getD i (0, 0)).2))
theorem ActsV.below {w w' : World} {v : Value} {E : List (Int × Int)} (h : ActsV w v E) {B : Nat} (hb : Below B w w') (hB : w.heap.size ≤ B) : ActsV w' v E := by
  rcases h with h | ⟨h0, b, off, cap, rfl, hc⟩
  · exact Or.inl h
  · refine Or.inr ⟨h0, b, off, cap, rfl, fun i hi => ?_⟩
    obtain ⟨c1, c2⟩ := hc i hi
    have hl : b < B := Nat.lt_of_lt_of_le (World.block_lt_of_cell? _ _ c1) hB
    exact ⟨(hb.cell (p := ⟨b, off + i * 2, none⟩) hl).trans c1, (hb.cell (p := ⟨b, off + i * 2 + 1, none⟩) hl).trans c2⟩
theorem ActsV.form {w : World} {v : Value} {E : List (Int × Int)} (h : ActsV w v E) : ∃ A c, v = .slice A E.length c := by
  rcases h with ⟨rfl, ao, cap, rfl⟩ | ⟨_, b, off, cap, rfl, _⟩
  · exact ⟨_, _, rfl⟩
  · exact ⟨_, _, rfl⟩
theorem ActsV.pos {w : World} {A : Option Addr} {c n : Nat} {E : List (Int × Int)} (h : ActsV w (.slice A n c) E) {i : Nat} (hi : i < E.length) : ∃ b off, A = some ⟨b, off, none⟩ ∧ w.cell? ⟨b, off + i * 2, none⟩ = some (.int .i64 (E.getD i (0, 0)).1) ∧ w.cell? ⟨b, off + i * 2 + 1, none⟩ = some (.int .i64 (E.getD i (0, 0)).2) := by
  rcases h with ⟨rfl, _⟩ | ⟨_, b, off, cap, e, hc⟩
  · simp at hi
  · injection e with e1 _ _
    exact ⟨b, off, e1, hc i hi⟩
/-- Two machines of one job, side by side. -/
def Duo (TL : List (List Int)) (p0 : MP) (vt : Value) (ba bb ma mb q : Nat) (pa pb : MP) (w2 wr : World) : Prop :=
  ∃ Ra Rb, LawM TL p0 vt ba q ma Ra pa wr ∧ LawM TL p0 vt bb 0 mb Rb pb wr ∧ (∀ g, Rb g → ¬ Ra g) ∧ Below ba w2 wr
section
variable {TL : List (List Int)} {p0 pa pb pa' pb' : MP} {vt : Value} {ba bb ma mb q q' : Nat} {w2 wr w' : World}
theorem Duo.below (h : Duo TL p0 vt ba bb ma mb q pa pb w2 wr) (hb : Below wr.heap.size wr w') (hba : ba ≤ wr.heap.size) : Duo TL p0 vt ba bb ma mb q pa pb w2 w' := by
  obtain ⟨Ra, Rb, h1, h2, h3, h4⟩ := h
  exact ⟨Ra, Rb, h1.below hb, h2.below hb, h3, h4.trans (hb.mono hba)⟩
theorem Duo.a (h : Duo TL p0 vt ba bb ma mb q pa pb w2 wr) : ∃ R, LawM TL p0 vt ba q ma R pa wr ∧ ∀ w', LawTo TL p0 vt ba q' ma R pa' wr w' → Duo TL p0 vt ba bb ma mb q' pa' pb w2 w' := by
  obtain ⟨Ra, Rb, h1, h2, h3, h4⟩ := h
  refine ⟨Ra, h1, fun w' ⟨R', k1, k2, k3, k4⟩ => ⟨R', Rb, k1, h2.stay k2 h3, fun g hg hr => ?_, h4.trans k4⟩⟩
  rcases k3 g hr with e | e
  · exact h3 g hg e
  · have := (h2.1.foot hg).2
    omega
theorem Duo.b (h : Duo TL p0 vt ba bb ma mb q pa pb w2 wr) (hbb : ba ≤ bb) : ∃ R, LawM TL p0 vt bb 0 mb R pb wr ∧ ∀ w', LawTo TL p0 vt bb 0 mb R pb' wr w' → Duo TL p0 vt ba bb ma mb q pa pb' w2 w' := by
  obtain ⟨Ra, Rb, h1, h2, h3, h4⟩ := h
  refine ⟨Rb, h2, fun w' ⟨R', k1, k2, k3, k4⟩ => ⟨Ra, R', h1.stay k2 (fun g hg hr => h3 g hr hg), k1, fun g hg hr => ?_, h4.trans (k4.mono hbb)⟩⟩
  rcases k3 g hg with e | e
  · exact h3 g e hr
  · have := (h1.1.foot hr).2
    omega
theorem Duo.size (h : Duo TL p0 vt ba bb ma mb q pa pb w2 wr) (hbb : bb ≤ w2.heap.size) : ba ≤ wr.heap.size ∧ bb ≤ wr.heap.size := by
  obtain ⟨Ra, Rb, h1, h2, h3, h4⟩ := h
  obtain ⟨⟨_, _, _, _, _, _, _, hm, _⟩, _⟩ := h1
  have := h4.size
  exact ⟨Nat.le_trans hm.bm (Nat.le_of_lt hm.whole.lt), by omega⟩
end
theorem passQ_rd (TL : List (List Int)) (p : MP) : (passQ TL p).rd ≤ p.rd + 1 := by
  unfold passQ
  split
  · exact Nat.le_refl _
  · omega
theorem workQ_rd (TL : List (List Int)) (p : MP) (i : Int) : (workQ TL p i).rd = p.rd := by
  unfold workQ
  split <;> rfl
theorem crashP_rd (p : MP) (i : Int) : (crashP p i).rd = p.rd := by
  unfold crashP
  split <;> rfl
theorem LawTo.mono {TL : List (List Int)} {p0 p : MP} {vt : Value} {base q q' m : Nat} {R : Nat → Prop} {w w' : World} (h : LawTo TL p0 vt base q m R p w w') (hq : q ≤ q') : LawTo TL p0 vt base q' m R p w w' := by
  obtain ⟨R', ⟨⟨nb, wb, ib, b, sv, us, Rn, hm, rfl⟩, h2, h3⟩, k2, k3, k4⟩ := h
  exact ⟨_, ⟨⟨nb, wb, ib, b, sv, us, Rn, hm.mono (by omega), rfl⟩, h2.mono hq, h3⟩, k2, k3, k4⟩
/-- Some act was done. -/
def Acted (TL : List (List Int)) (p0 : MP) (vt : Value) (ba bb ma mb i : Nat) (w2 wr : World) : Prop := ∃ p, p.rd ≤ i ∧ Duo TL p0 vt ba bb ma mb i p p0 w2 wr
/-- The first machine at a round, or the second. -/
def AtA (TL : List (List Int)) (p0 : MP) (vt : Value) (ba bb ma mb r : Nat) (w2 wr : World) : Prop := ∃ p q, p.rd = r ∧ q ≤ 101 ∧ Duo TL p0 vt ba bb ma mb q p p0 w2 wr
def AtB (TL : List (List Int)) (p0 : MP) (vt : Value) (ba bb ma mb goal r : Nat) (w2 wr : World) : Prop := ∃ p pb q, p.rd = goal ∧ pb.rd = r ∧ q ≤ 101 ∧ Duo TL p0 vt ba bb ma mb q p pb w2 wr
set_option maxRecDepth 100000 in
set_option maxHeartbeats 8000000 in
theorem same20_law (X : List ByteArray) (C : List (List Int)) (E : List (Int × Int)) (rn : Nat) (hrn : rn < 256) (vx vc vl : Value) (w : World) (hg : ErrT w) (hx : ValsV w vx (txtC X)) (hc : ListsV w vc C) (he : ActsV w vl E) :
    Calls Tryd.prog 5 #[vx, vc, vl, .int .u8 (rn : Int)] w fun e w' => e = .returned (.bool true) ∧ Below w.heap.size w w' := by
  have AL := Lib.hid (alive20 w hg)
  have FI := Lib.hid (fun W (h : Below w.heap.size w W) => fine_any X C vx vc W (hx.below h (Nat.le_refl _)) (hc.below h (Nat.le_refl _)))
  have HX := Lib.hid (fun W (h : Below w.heap.size w W) => hx.below h (Nat.le_refl _))
  have HC := Lib.hid (fun W (h : Below w.heap.size w W) => hc.below h (Nat.le_refl _))
  have HE := Lib.hid (fun W (h : Below w.heap.size w W) => he.below h (Nat.le_refl _))
  obtain ⟨Ax, cx, rfl⟩ := txt_form hx
  obtain ⟨Ac, cc, rfl⟩ := hc.form
  obtain ⟨Ae, ce, rfl⟩ := he.form
  obtain ⟨n, hn⟩ : ∃ n, X.length = n := ⟨_, rfl⟩
  obtain ⟨c, hcl⟩ : ∃ n, C.length = n := ⟨_, rfl⟩
  obtain ⟨l, hl⟩ : ∃ n, E.length = n := ⟨_, rfl⟩
  rw [hn] at FI HX ⊢
  rw [hcl] at FI HC ⊢
  rw [hl] at HE ⊢
  have HN := Lib.hid hn; have HCL := Lib.hid hcl; have HL := Lib.hid hl
  have z0 : Int.tmod (rn : Int) 4 = ((rn % 4 : Nat) : Int) := by rw [Int.tmod_eq_emod_of_nonneg (by omega)]; omega
  obtain ⟨z, hz⟩ : ∃ z, rn % 4 = z := ⟨_, rfl⟩
  have z4 : z < 4 := by omega
  rw [hz] at z0
  have zc : IntKind.i64.wrap (rn : Int) = (rn : Int) := by rw [IntKind.wrap_i64]; omega
  clear hg hx hc he hn hcl hl hz hrn
  go_enter Tryd.func5, Tryd.ntmps5
  go_wp2_with fail
  refine AL.out.mono ?_; rintro e w1 ⟨rfl, hb1⟩
  have HB1 := Lib.hid hb1
  have F1 := Lib.hid (FI.out w1 hb1)
  clear hb1
  go_wp2_with fail
  refine F1.out.mono ?_; rintro e w2 ⟨rfl | ⟨rfl, hfine⟩, hw⟩
  · obtain rfl := hw.symm; clear hw
    go_wp2_with fail
    go_ret
    exact ⟨rfl, HB1.out⟩
  obtain rfl := hw.symm; clear hw
  by_cases h100 : 100 < l
  · have t1 : decide (100 < l) = true := decide_eq_true h100
    have t1' : decide ((100 : Int) < l) = true := decide_eq_true (by omega)
    clear h100 hfine
    go_wp2_with fail
    go_ret
    exact ⟨rfl, HB1.out⟩
  have t1 : decide (100 < l) = false := decide_eq_false h100
  have t1' : decide ((100 : Int) < l) = false := decide_eq_false (by omega)
  have hl100 : l ≤ 100 := by omega
  have HX1 := HX.out w1 HB1.out
  have hn1 := hfine.n1
  have hn2 := hfine.n2
  have htl : ∀ a, (C.getD a []).length ≤ 8 := fun a => by have := (hfine.rows a).1; omega
  have htr : ∀ a, ∀ t ∈ C.getD a [], 0 ≤ t ∧ t < (X.length : Int) := fun a => (hfine.rows a).2
  have hs1 : ∀ a, (X.getD a ⟨#[]⟩).size ≤ 60 := fun a => by
    by_cases ha : a < X.length
    · exact hfine.txt _ (getD_mem_txt ha)
    · simp only [List.getD]; rw [List.getElem?_eq_none (by omega)]; exact Nat.zero_le _
  have LN := Lib.hid (fun W (h : Below w1.heap.size w1 W) => lnew (TL := C) (vt := .slice Ac c cc) X _ W (HX1.below h (Nat.le_refl _)) hn1 (by omega) htl htr hs1)
  have HT := Lib.hid (fun W (h : Below w1.heap.size w1 W) => HC.out W (HB1.out.trans (h.mono HB1.out.size)))
  have HE1 := Lib.hid (fun W (h : Below w1.heap.size w1 W) => HE.out W (HB1.out.trans (h.mono HB1.out.size)))
  have HXL : Hid (X.length = n) := HN
  obtain ⟨p0, hp0⟩ : ∃ p, startP X.length 0 X (List.replicate X.length []) = p := ⟨_, rfl⟩
  rw [hp0] at LN
  have HP0 : Hid (p0.rd = 0 ∧ p0.k = n ∧ p0.st = X) := Lib.hid (by rw [← hp0]; exact ⟨rfl, HN.out, rfl⟩)
  have L1 := Lib.hid (LN.out w1 (Below.refl _ _))
  have hnn : n ≤ 6 := by rw [← HN.out]; exact hn2
  unfold wordJob at L1
  clear h100 hfine HX1 hn1 hn2 htl htr hs1 hp0
  go_wp2_with fail
  refine L1.out.mono ?_; rintro e w3 ⟨ma, Ra, rfl, hma, hRa, hb3⟩
  have HMA := Lib.hid hma; have HB3 := Lib.hid hb3
  have L2 := Lib.hid (LN.out w3 hb3)
  unfold wordJob at L2
  clear hma hRa hb3
  go_wp2_with fail
  refine L2.out.mono ?_; rintro e w4 ⟨mb, Rb, rfl, hmb, hRb, hb4⟩
  have HD : Hid (Duo C p0 (.slice Ac c cc) w1.heap.size w3.heap.size ma mb 0 p0 p0 w3 w4) := Lib.hid ⟨Ra, Rb, HMA.out.below hb4, hmb, fun g hg hr => by have h1 := hRb g hg; have h2 := (HMA.out.1.foot hr).2; omega, hb4.mono HB3.out.size⟩
  have HBB := Lib.hid HB3.out.size
  clear hmb hRb hb4
  go_wp2_with fail
  go_loopg [13] l (fun g y wr => ∃ i, i ≤ l ∧ g = l - i ∧ y = .int .i64 (i : Nat) ∧ Acted C p0 (.slice Ac c cc) w1.heap.size w3.heap.size ma mb i w3 wr)
  case atStart => exact ⟨0, Nat.zero_le _, rfl, rfl, p0, by rw [HP0.out.1]; exact Nat.le_refl _, HD.out⟩
  case round =>
    obtain ⟨i, hi, rfl, rfl, p, hrd, hduo⟩ := hrel
    have HRD := Lib.hid hrd; have HDU := Lib.hid hduo
    have hsz := hduo.size (Nat.le_refl _)
    have hbel : Below w1.heap.size w1 wr := by
      obtain ⟨_, _, _, _, _, h4⟩ := hduo
      exact HB3.out.trans h4
    have HBEL := Lib.hid hbel
    by_cases hlt : i < l
    · obtain ⟨b, off, rfl, d0, d1⟩ := (HE1.out wr hbel).pos (show i < E.length by rw [HL.out]; exact hlt)
      obtain ⟨kd, nn, hkn⟩ : ∃ x y, E.getD i (0, 0) = (x, y) := ⟨_, _, rfl⟩
      rw [hkn] at d0 d1
      simp only at d0 d1
      have hq : i ≤ 300 := by omega
      have K0 := Lib.hid (fun W (hW : Below w1.heap.size wr W) => (HT.out W (hbel.trans hW)))
      have KW : Hid (Calls Tryd.prog 12 #[.pointer (some ⟨ma, 0, none⟩), .int .i64 nn] wr fun e w' => ∃ u, e = .returned u ∧ Acted C p0 (.slice Ac c cc) w1.heap.size w3.heap.size ma mb (i + 1) w3 w') := Lib.hid (by
        obtain ⟨Rx, hx1, hx2⟩ := HDU.out.a (q' := i + 1) (pa' := workQ C p nn)
        refine (lwork hx1 hsz.1 hq (fun W hW => K0.out W hW) nn).mono ?_
        rintro e w' ⟨u, rfl, _, h3⟩
        exact ⟨u, rfl, workQ C p nn, by rw [workQ_rd]; omega, hx2 _ (h3.mono (by omega))⟩)
      have KD : Hid (Calls Tryd.prog 14 #[.pointer (some ⟨ma, 0, none⟩), .int .i64 nn] wr fun e w' => ∃ u, e = .returned u ∧ Acted C p0 (.slice Ac c cc) w1.heap.size w3.heap.size ma mb (i + 1) w3 w') := Lib.hid (by
        obtain ⟨Rx, hx1, hx2⟩ := HDU.out.a (q' := i + 1) (pa' := netP p 2 nn)
        refine (ldeliver hx1 hsz.1 hq nn).mono ?_
        rintro e w' ⟨u, rfl, _, h3⟩
        exact ⟨u, rfl, netP p 2 nn, (show p.rd ≤ _ by omega), hx2 _ (h3.mono (by omega))⟩)
      have K2 : Hid (Calls Tryd.prog 15 #[.pointer (some ⟨ma, 0, none⟩), .int .i64 nn] wr fun e w' => ∃ u, e = .returned u ∧ Acted C p0 (.slice Ac c cc) w1.heap.size w3.heap.size ma mb (i + 1) w3 w') := Lib.hid (by
        obtain ⟨Rx, hx1, hx2⟩ := HDU.out.a (q' := i + 1) (pa' := netP p 1 nn)
        refine (ldouble hx1 hsz.1 hq nn).mono ?_
        rintro e w' ⟨u, rfl, _, h3⟩
        exact ⟨u, rfl, netP p 1 nn, (show p.rd ≤ _ by omega), hx2 _ (h3.mono (by omega))⟩)
      have KC : Hid (Calls Tryd.prog 16 #[.pointer (some ⟨ma, 0, none⟩), .int .i64 nn] wr fun e w' => ∃ u, e = .returned u ∧ Acted C p0 (.slice Ac c cc) w1.heap.size w3.heap.size ma mb (i + 1) w3 w') := Lib.hid (by
        obtain ⟨Rx, hx1, hx2⟩ := HDU.out.a (q' := i + 1) (pa' := crashP p nn)
        refine (lcrash hx1 hsz.1 nn).mono ?_
        rintro e w' ⟨u, rfl, _, h3⟩
        exact ⟨u, rfl, crashP p nn, by rw [crashP_rd]; omega, hx2 _ (h3.mono (by omega))⟩)
      have KP : Hid (Calls Tryd.prog 17 #[.pointer (some ⟨ma, 0, none⟩)] wr fun e w' => ∃ u, e = .returned u ∧ Acted C p0 (.slice Ac c cc) w1.heap.size w3.heap.size ma mb (i + 1) w3 w') := Lib.hid (by
        obtain ⟨Rx, hx1, hx2⟩ := HDU.out.a (q' := i + 1) (pa' := passQ C p)
        refine (lpass hx1 hsz.1 hq (by omega)).mono ?_
        rintro e w' ⟨u, rfl, _, h3⟩
        exact ⟨u, rfl, passQ C p, (by have := passQ_rd C p; omega), hx2 _ (h3.mono (by omega))⟩)
      have HI1 : Hid (i + 1 ≤ l) := Lib.hid hlt
      have KN : Hid (Acted C p0 (.slice Ac c cc) w1.heap.size w3.heap.size ma mb (i + 1) w3 wr) := Lib.hid (by
        obtain ⟨Rx, hx1, hx2⟩ := HDU.out.a (q' := i + 1) (pa' := p)
        exact ⟨p, by omega, hx2 _ (LawTo.of_below hx1 (Below.refl _ _) hsz.1 (by omega))⟩)
      have t7 : decide (i < l) = true := decide_eq_true hlt
      have t7' : decide ((i : Int) < l) = true := decide_eq_true (by omega)
      have i1 : (i : Int) < l := by omega
      clear hrd hduo hsz hbel hlt hkn hq hi
      by_cases h0 : kd = 0
      · subst h0
        go_wp2_with fail
        clear d0 d1
        refine KW.out.mono ?_; rintro e w5 ⟨u, rfl, ha⟩
        have HA := Lib.hid ha
        clear ha
        go_wp2_with fail
        go_roundg (l - (i + 1))
        case rel => exact ⟨i + 1, HI1.out, rfl, rfl, HA.out⟩
        case measure => have := HI1.out; omega
      have g0 : (kd == 0) = false := beq_eq_false_iff_ne.mpr h0
      have g0' : decide (kd = 0) = false := decide_eq_false h0
      by_cases h1 : kd = 1
      · subst h1
        go_wp2_with fail
        clear d0 d1
        refine KD.out.mono ?_; rintro e w5 ⟨u, rfl, ha⟩
        have HA := Lib.hid ha
        clear ha
        go_wp2_with fail
        go_roundg (l - (i + 1))
        case rel => exact ⟨i + 1, HI1.out, rfl, rfl, HA.out⟩
        case measure => have := HI1.out; omega
      have g1 : (kd == 1) = false := beq_eq_false_iff_ne.mpr h1
      have g1' : decide (kd = 1) = false := decide_eq_false h1
      by_cases h2 : kd = 2
      · subst h2
        go_wp2_with fail
        clear d0 d1
        refine K2.out.mono ?_; rintro e w5 ⟨u, rfl, ha⟩
        have HA := Lib.hid ha
        clear ha
        go_wp2_with fail
        go_roundg (l - (i + 1))
        case rel => exact ⟨i + 1, HI1.out, rfl, rfl, HA.out⟩
        case measure => have := HI1.out; omega
      have g2 : (kd == 2) = false := beq_eq_false_iff_ne.mpr h2
      have g2' : decide (kd = 2) = false := decide_eq_false h2
      by_cases h3 : kd = 3
      · subst h3
        go_wp2_with fail
        clear d0 d1
        refine KC.out.mono ?_; rintro e w5 ⟨u, rfl, ha⟩
        have HA := Lib.hid ha
        clear ha
        go_wp2_with fail
        go_roundg (l - (i + 1))
        case rel => exact ⟨i + 1, HI1.out, rfl, rfl, HA.out⟩
        case measure => have := HI1.out; omega
      have g3 : (kd == 3) = false := beq_eq_false_iff_ne.mpr h3
      have g3' : decide (kd = 3) = false := decide_eq_false h3
      by_cases h4 : kd = 4
      · subst h4
        go_wp2_with fail
        clear d0 d1
        refine KP.out.mono ?_; rintro e w5 ⟨u, rfl, ha⟩
        have HA := Lib.hid ha
        clear ha
        go_wp2_with fail
        go_roundg (l - (i + 1))
        case rel => exact ⟨i + 1, HI1.out, rfl, rfl, HA.out⟩
        case measure => have := HI1.out; omega
      have g4 : (kd == 4) = false := beq_eq_false_iff_ne.mpr h4
      have g4' : decide (kd = 4) = false := decide_eq_false h4
      go_wp2_with fail
      go_roundg (l - (i + 1))
      case rel => exact ⟨i + 1, HI1.out, rfl, rfl, KN.out⟩
      case measure => have := HI1.out; omega
    · have t7 : decide (i < l) = false := decide_eq_false hlt
      have t7' : decide ((i : Int) < l) = false := decide_eq_false (by omega)
      obtain ⟨w5, hw5⟩ : ∃ W, W = wr := ⟨_, rfl⟩
      subst hw5
      obtain ⟨R5, hx5, _⟩ := hduo.a (q' := i) (pa' := p)
      have RN := Lib.hid (lroundN hx5)
      obtain ⟨r, hr⟩ : ∃ r, p.rd = r := ⟨_, rfl⟩
      rw [hr] at RN
      have HR := Lib.hid hr
      have hr1 : r ≤ 100 := by omega
      obtain ⟨G, hG⟩ : ∃ G, r + z = G := ⟨_, rfl⟩
      have cw : IntKind.i64.wrap ((r : Int) + ((z : Nat) : Int)) = (G : Int) := by rw [IntKind.wrap_i64]; omega
      have hq5 : i ≤ 101 := by omega
      have HA0 : Hid (AtA C p0 (.slice Ac c cc) w1.heap.size w3.heap.size ma mb r w3 w5) := Lib.hid ⟨p, i, hr, hq5, HDU.out⟩
      have HG : Hid (r ≤ G ∧ G ≤ 104) := Lib.hid ⟨by omega, by omega⟩
      clear hrd hduo hsz hbel hlt hx5 hi hr hq5 hG hr1
      go_wp2_with fail
      refine RN.out.mono ?_; rintro e w6 ⟨rfl, hw6⟩
      obtain rfl := hw6.symm; clear hw6
      go_wp2_with fail
      clear cw
      go_loopg [] (G - r) (fun g wr => ∃ x, x ≤ G ∧ g = G - x ∧ AtA C p0 (.slice Ac c cc) w1.heap.size w3.heap.size ma mb x w3 wr)
      case atStart => exact ⟨r, HG.out.1, rfl, HA0.out⟩
      case round =>
        obtain ⟨x, hx, rfl, p7, q7, hrd, hq, hduo⟩ := hrel
        have HDU7 := Lib.hid hduo; have HRD7 := Lib.hid hrd; have HQ7 := Lib.hid hq
        have hsz := hduo.size (Nat.le_refl _)
        have hbel : Below w1.heap.size w1 wr := by
          obtain ⟨_, _, _, _, _, h4⟩ := hduo
          exact HB3.out.trans h4
        obtain ⟨R7, hx7, hto⟩ := hduo.a (q' := 0) (pa' := roundP C p7)
        have RN7 := Lib.hid (lroundN hx7)
        rw [hrd] at RN7
        have hG4 := HG.out.2
        by_cases hlt : x < G
        · have t7 : decide (x < G) = true := decide_eq_true hlt
          have t7' : decide ((x : Int) < G) = true := decide_eq_true (by omega)
          have i1 : (x : Int) < G := by omega
          have HLT := Lib.hid hlt
          have FN := Lib.hid ((lfinish hx7 hsz.1 (by omega) (by omega) (fun W hW => HT.out W (hbel.trans hW))).mono fun e w' h => (show e = Ending.returned Value.nilIface ∧ AtA C p0 (.slice Ac c cc) w1.heap.size w3.heap.size ma mb (x + 1) w3 w' from ⟨h.1, roundP C p7, 0, (show p7.rd + 1 = x + 1 by rw [hrd]), Nat.zero_le _, hto _ h.2⟩))
          clear hx hrd hq hduo hsz hbel hx7 hto hG4 hlt
          go_wp2_with fail
          refine RN7.out.mono ?_; rintro e w7 ⟨rfl, hw7⟩
          obtain rfl := hw7.symm; clear hw7
          go_wp2_with fail
          refine FN.out.mono ?_; rintro e w7 ⟨rfl, ha⟩
          have HA := Lib.hid ha
          clear ha
          go_wp2_with fail
          go_roundg (G - (x + 1))
          case rel => exact ⟨x + 1, HLT.out, rfl, HA.out⟩
          case measure => have := HLT.out; omega
        · have t7 : decide (x < G) = false := decide_eq_false hlt
          have t7' : decide ((x : Int) < G) = false := decide_eq_false (by omega)
          obtain rfl : G = x := by omega
          obtain ⟨w8, hw8⟩ : ∃ W, W = wr := ⟨_, rfl⟩
          subst hw8
          have HB0 : Hid (AtB C p0 (.slice Ac c cc) w1.heap.size w3.heap.size ma mb G 0 w3 w8) := Lib.hid ⟨p7, p0, q7, hrd, HP0.out.1, hq, hduo⟩
          clear hx hrd hq hduo hsz hbel hx7 hto hG4 hlt
          go_wp2_with fail
          refine RN7.out.mono ?_; rintro e w7 ⟨rfl, hw7⟩
          obtain rfl := hw7.symm; clear hw7
          go_wp2_with fail
          go_loopg [] G (fun g wr => ∃ x, x ≤ G ∧ g = G - x ∧ AtB C p0 (.slice Ac c cc) w1.heap.size w3.heap.size ma mb G x w3 wr)
          case atStart => exact ⟨0, Nat.zero_le _, rfl, HB0.out⟩
          case round =>
            obtain ⟨x, hx, rfl, p8, pb8, q8, hrda, hrd, hq, hduo⟩ := hrel
            have HDU8 := Lib.hid hduo; have HRD8 := Lib.hid hrd; have HQ8 := Lib.hid hq; have HRA8 := Lib.hid hrda
            have hsz := hduo.size (Nat.le_refl _)
            have hbel : Below w1.heap.size w1 wr := by
              obtain ⟨_, _, _, _, _, h4⟩ := hduo
              exact HB3.out.trans h4
            have HBE8 := Lib.hid hbel
            obtain ⟨R8, hx8, hto⟩ := hduo.b (pb' := roundP C pb8) HBB.out
            have RN8 := Lib.hid (lroundN hx8)
            rw [hrd] at RN8
            have hG4 := HG.out.2
            by_cases hlt : x < G
            · have t9 : decide (x < G) = true := decide_eq_true hlt
              have t9' : decide ((x : Int) < G) = true := decide_eq_true (by omega)
              have i1 : (x : Int) < G := by omega
              have HLT := Lib.hid hlt
              have FN := Lib.hid ((lfinish hx8 hsz.2 (by omega) (by omega) (fun W hW => HT.out W (hbel.trans (hW.mono HBB.out)))).mono fun e w' h => (show e = Ending.returned Value.nilIface ∧ AtB C p0 (.slice Ac c cc) w1.heap.size w3.heap.size ma mb G (x + 1) w3 w' from ⟨h.1, p8, roundP C pb8, q8, hrda, (show pb8.rd + 1 = x + 1 by rw [hrd]), hq, hto _ h.2⟩))
              clear hx hrd hq hduo hsz hbel hx8 hto hG4 hlt hrda
              go_wp2_with fail
              refine RN8.out.mono ?_; rintro e w7 ⟨rfl, hw7⟩
              obtain rfl := hw7.symm; clear hw7
              go_wp2_with fail
              refine FN.out.mono ?_; rintro e w7 ⟨rfl, ha⟩
              have HA := Lib.hid ha
              clear ha
              go_wp2_with fail
              go_roundg (G - (x + 1))
              case rel => exact ⟨x + 1, HLT.out, rfl, HA.out⟩
              case measure => have := HLT.out; omega
            · have t9 : decide (x < G) = false := decide_eq_false hlt
              have t9' : decide ((x : Int) < G) = false := decide_eq_false (by omega)
              obtain rfl : G = x := by omega
              obtain ⟨w9, hw9⟩ : ∃ W, W = wr := ⟨_, rfl⟩
              subst hw9
              obtain ⟨Ra, Rb, hA, hB, hsep, h29⟩ := hduo
              have hks : ∀ m b R p q (w : World), LawM C p0 (.slice Ac c cc) b q m R p w → p.rd = G → p.k = n ∧ p.st = (iterR C G p0).st ∧ p.st.length = n := by
                intro m b R p q w h hr
                have h1 := h.2.2
                rw [hr] at h1
                have h2 := (iterR_rd C p0 G).2
                refine ⟨by rw [h1.k, h2, HP0.out.2.1], h1.st, ?_⟩
                rw [h.2.1.l1, h1.k, h2, HP0.out.2.1]
              obtain ⟨ka, sa, la⟩ := hks _ _ _ _ _ _ hA hrda
              obtain ⟨kb, sb, lb⟩ := hks _ _ _ _ _ _ hB hrd
              obtain ⟨Y, hY⟩ : ∃ Y, (iterR C G p0).st = Y := ⟨_, rfl⟩
              rw [hY] at sa sb
              have SA := Lib.hid (lstates hA)
              rw [ka, sa] at SA
              have HB9 := Lib.hid hB
              have HYL : Hid (Y.length = n) := Lib.hid (by rw [← sa]; exact la)
              have HSB := Lib.hid sb; have HKB := Lib.hid kb
              clear hx hrd hq hsz hbel hx8 hto hG4 hlt hrda hA hB hsep h29 hks ka sa la kb sb lb hY
              go_wp2_with fail
              refine RN8.out.mono ?_; rintro e w7 ⟨rfl, hw7⟩
              obtain rfl := hw7.symm; clear hw7
              go_wp2_with fail
              refine SA.out.mono ?_; rintro e wA ⟨Aa, ca, rfl, hva, _, hbA⟩
              have HVA := Lib.hid hva; have HBA := Lib.hid hbA
              have SB := Lib.hid (lstates (HB9.out.below hbA))
              rw [HKB.out, HSB.out] at SB
              clear hva hbA
              go_wp2_with fail
              refine SB.out.mono ?_; rintro e wB ⟨Ab, cb, rfl, hvb, _, hbB⟩
              have HVB := Lib.hid hvb
              have HVA2 := Lib.hid (HVA.out.below hbB (Nat.le_refl _))
              have HBW : Hid (Below w.heap.size w wB) := Lib.hid (HB1.out.trans ((HBE8.out.trans ((HBA.out.trans (hbB.mono HBA.out.size)).mono HBE8.out.size)).mono HB1.out.size))
              clear hvb hbB
              go_wp2_with fail
              go_loopg [17] n (fun g y wr => ∃ i a, i ≤ n ∧ g = n - i ∧ y = .int .i64 (i : Nat) ∧ wr = wB.drewN a)
              case atStart => exact ⟨0, 0, Nat.zero_le _, rfl, rfl, rfl⟩
              case round =>
                obtain ⟨i, a, hi, rfl, rfl, hwd⟩ := hrel
                have HWD := Lib.hid hwd
                have hbr : Below wB.heap.size wB wr := by rw [hwd]; exact below_drewN' (Below.refl _ _) _
                have hva := HVA2.out.below hbr (Nat.le_refl _)
                have hvb := HVB.out.below hbr (Nat.le_refl _)
                have HBR := Lib.hid hbr
                by_cases hlt : i < n
                · have hly := HYL.out
                  obtain ⟨b1, o1, rfl, _, c1⟩ := txt_pos hva (i := i) (by omega)
                  obtain ⟨b2, o2, rfl, _, c2⟩ := txt_pos hvb (i := i) (by omega)
                  obtain ⟨y, hy⟩ : ∃ u, Y.getD i ⟨#[]⟩ = u := ⟨_, rfl⟩
                  rw [hy] at c1 c2
                  have e1 : decide (i < n) = true := decide_eq_true hlt
                  have e1' : decide ((i : Int) < n) = true := decide_eq_true (by omega)
                  have i1 : (i : Int) < n := by omega
                  have i2 : (0 : Int) ≤ i := by omega
                  have n0 : ((n : Int) != n) = false := bne_self_eq_false _
                  have n1 : (n != n) = false := bne_self_eq_false _
                  have HLT := Lib.hid hlt
                  clear hi hwd hbr hva hvb hlt hly hy
                  go_upto_region 34 with fail
                  go_quiet (fail)
                  go_wp2_with fail
                  go_roundg (n - (i + 1))
                  case rel => exact ⟨i + 1, _, HLT.out, rfl, rfl, by rw [HWD.out, World.drewN_drewN]⟩
                  case measure => have := HLT.out; omega
                · have e1 : decide (i < n) = false := decide_eq_false hlt
                  have e1' : decide ((i : Int) < n) = false := decide_eq_false (by omega)
                  obtain rfl : n = i := by omega
                  clear hi hwd hbr hva hvb hlt
                  go_wp2_with fail
                  go_ret
                  exact ⟨rfl, HBW.out.trans (HBR.out.mono HBW.out.size)⟩
end Go.Proofs.YtlopoddllfkkfaaDoor
