/- BspPlays: the law. Written by gen_plays20.py. -/
import Derived.Test.YtlopoddllfkkfaaDoorPlay20
import Derived.Test.YtlopoddllfkkfaaDoorBspS
namespace Go.Proofs.YtlopoddllfkkfaaDoor
open Go.RowKit

theorem play_start {TL : List (List Int)} {vt : Value} {m n : Nat} {X : List ByteArray} {vx : Value} {R : Nat → Prop} {w2 w3 : World} (hm : LawM TL (startP X.length 0 X (List.replicate X.length [])) vt w2.heap.size 0 m R (startP X.length 0 X (List.replicate X.length [])) w3) (hb : Below w2.heap.size w2 w3) (hl : ∀ W, Below w2.heap.size w2 W → ListsV W vt TL)
    (hx : ValsV w2 vx (txtC X)) (hn : X.length = n) (h1 : 1 ≤ X.length) :
    PlayS TL (startP X.length 0 X (List.replicate X.length [])) vt w2.heap.size m w2 0 (startP X.length 0 X (List.replicate X.length [])) vx (.slice (some ⟨w3.heap.size, 0, none⟩) n n) (w3.heap.size + 1) X (List.replicate X.length []) (List.replicate X.length false) ((w3.alloc (.cells (madeCells #[.slice none 0 0] n) 22)).alloc (.cells (madeCells #[.bool false] n) 4)) := by
  subst hn
  have hR : ∀ g, R g → w2.heap.size ≤ g ∧ g < w3.heap.size := fun g hg => hm.1.foot hg
  have h34 : Below w3.heap.size w3 (w3.alloc (.cells (madeCells #[.slice none 0 0] X.length) 22)) := (Below.refl _ _).alloc (Nat.le_refl _) _
  have hr := Whole.new w3 22 (madeCells #[.slice none 0 0] X.length)
  have hs4 : (w3.alloc (.cells (madeCells #[.slice none 0 0] X.length) 22)).heap.size = w3.heap.size + 1 := World.size_alloc _ _
  obtain ⟨w4, hw4⟩ : ∃ W, w3.alloc (.cells (madeCells #[.slice none 0 0] X.length) 22) = W := ⟨_, rfl⟩
  rw [hw4] at h34 hr hs4 ⊢
  have h45 : Below w4.heap.size w4 (w4.alloc (.cells (madeCells #[.bool false] X.length) 4)) := (Below.refl _ _).alloc (Nat.le_refl _) _
  have hk := Whole.new w4 4 (madeCells #[.bool false] X.length)
  have hs5 : (w4.alloc (.cells (madeCells #[.bool false] X.length) 4)).heap.size = w4.heap.size + 1 := World.size_alloc _ _
  obtain ⟨w5, hw5⟩ : ∃ W, w4.alloc (.cells (madeCells #[.bool false] X.length) 4) = W := ⟨_, rfl⟩
  rw [hw5] at h45 hk hs5 ⊢
  have h35 : Below w3.heap.size w3 w5 := h34.trans (h45.mono h34.size)
  have h25 : Below w2.heap.size w2 w5 := hb.trans (h35.mono hb.size)
  have hxl : ∀ g, vx.ownBlock = some g → g < w2.heap.size := fun g hg => by
    rcases hx with ⟨h0, _⟩ | ⟨h0, b, off, cap, rfl, hc⟩
    · have h9 : (txtC X).length = 0 := by rw [h0]; rfl
      rw [txtC_len] at h9; omega
    · have e : b = g := by simpa [Value.ownBlock] using hg
      subst e
      have h9 := hc 0 h0
      rw [List.getElem?_eq_getElem h0] at h9
      exact World.block_lt_of_cell? _ _ h9
  have hsz := hb.size
  rw [made_rows] at hr
  rw [made_bool, hs4] at hk
  exact ⟨R, {
    law := hm.below h35
    bel := h25
    lists := hl
    base := Nat.le_refl _
    want := hx.below h25 (Nat.le_refl _)
    wf := fun g hg => ⟨by have := hxl g hg; omega, fun hr => by have := hxl g hg; have := (hR g hr).1; omega, by have := hxl g hg; omega⟩
    box := ⟨List.replicate X.length (.slice none 0 0), by simp, by
      have hr5 := hr.below h45 (by omega)
      by_cases h0 : 0 < X.length
      · have h9 : ValsV w5 (.slice (some ⟨w3.heap.size, 0, none⟩) (List.replicate X.length (Value.slice none 0 0)).length (List.replicate X.length (Value.slice none 0 0)).length) (List.replicate X.length (Value.slice none 0 0)) := Or.inr ⟨by rw [List.length_replicate]; exact h0, w3.heap.size, 0, _, rfl, fun i _ => by rw [Nat.zero_add]; exact (hr5.cell i).trans (by simp only [List.getElem?_toArray])⟩
        rw [List.length_replicate] at h9
        exact h9
      · have e : X.length = 0 := by omega
        rw [e]
        exact Or.inl ⟨rfl, _, _, rfl⟩, fun i u Y h1 h2 => by
      obtain ⟨_, e1⟩ := List.getElem?_eq_some_iff.1 h1
      obtain ⟨_, e2⟩ := List.getElem?_eq_some_iff.1 h2
      simp at e1 e2
      subst e1 e2
      exact Or.inl ⟨rfl, _, _, rfl⟩, fun g hg => by
      rcases hg with hg | ⟨i, u, h1, hg⟩
      · have e : w3.heap.size = g := by simpa [Value.ownBlock] using hg
        subst e
        exact ⟨by omega, fun hr => by have := (hR _ hr).2; omega, by omega⟩
      · obtain ⟨_, e1⟩ := List.getElem?_eq_some_iff.1 h1
        simp at e1
        subst e1
        simp [Value.ownBlock] at hg⟩
    wk := hk
    wkr := fun hr => by have := (hR _ hr).2; omega
    kba := by omega }⟩
/-- At the head of the loop. -/
def HeadAt (TL : List (List Int)) (p0 : MP) (vt : Value) (ba m : Nat) (w2 : World) (n i : Nat) (x10 x11 x12 x13 : Value) (w : World) : Prop :=
  ∃ p kb, p.rd ≤ i ∧ p.k = n ∧ x12 = .slice (some ⟨kb, 0, none⟩) n n ∧ x13 = .int .i64 (p.rd : Int) ∧ (∃ A c, x10 = .slice A n c) ∧ (∃ A c, x11 = .slice A n c) ∧ PlayS TL p0 vt ba m w2 i p x10 x11 kb p.st p.bx p.wk w
/-- Behind the act. -/
def MidAt (TL : List (List Int)) (p0 : MP) (vt : Value) (ba m : Nat) (w2 : World) (n i rd : Nat) (x10 x11 x12 x19 : Value) (w : World) : Prop :=
  ∃ (b : Bool) (p p1 : MP) (kb : Nat) (WK : List Bool), x19 = .bool b ∧ x12 = .slice (some ⟨kb, 0, none⟩) n n ∧ p1.k = n ∧ p1.rd = rd ∧ MInv TL i p1 ∧ PlayS TL p0 vt ba m w2 i p x10 x11 kb p1.st p1.bx WK w ∧ (b = false → p = p1 ∧ WK = p1.wk) ∧ (b = true → p = roundP TL p1)
theorem mid_no {TL : List (List Int)} {p0 p : MP} {vt : Value} {ba m n i rd kb : Nat} {w2 w : World} {x10 x11 : Value} (hk : p.k = n) (hr : p.rd = rd) (h : PlayS TL p0 vt ba m w2 i p x10 x11 kb p.st p.bx p.wk w) : MidAt TL p0 vt ba m w2 n i rd x10 x11 (.slice (some ⟨kb, 0, none⟩) n n) (.bool false) w :=
  ⟨false, p, p, kb, p.wk, rfl, rfl, hk, hr, h.inv, h, fun _ => ⟨rfl, rfl⟩, fun h => by cases h⟩
theorem mid_yes {TL : List (List Int)} {p0 p : MP} {vt : Value} {ba m n i rd kb : Nat} {w2 w : World} {x10 x11 : Value} {WK : List Bool} (hk : p.k = n) (hr : p.rd = rd) (hi : MInv TL i p) (h : PlayS TL p0 vt ba m w2 i (roundP TL p) x10 x11 kb p.st p.bx WK w) : MidAt TL p0 vt ba m w2 n i rd x10 x11 (.slice (some ⟨kb, 0, none⟩) n n) (.bool true) w :=
  ⟨true, _, p, kb, WK, rfl, rfl, hk, hr, hi, h, fun h => (by cases h), fun _ => rfl⟩
theorem all_snoc {X : List Bool} {j : Nat} (h : j < X.length) : (X.take (j + 1)).all id = ((X.take j).all id && X.getD j false) := by
  rw [take_snocT (d := false) h, List.all_append]
  simp
set_option maxRecDepth 100000 in
set_option maxHeartbeats 16000000 in
theorem plays20_law (X : List ByteArray) (C : List (List Int)) (E : List (Int × Int)) (vx vc vl : Value) (w : World) (hg : ErrT w) (hx : ValsV w vx (txtC X)) (hc : ListsV w vc C) (he : ActsV w vl E) :
    Calls Tryd.prog 3 #[vx, vc, vl] w fun e w' => e = .returned (.bool true) ∧ Below w.heap.size w w' := by
  have AL := Lib.hid (alive20 w hg)
  have FI := Lib.hid (fun W (h : Below w.heap.size w W) => fine_any X C vx vc W (hx.below h (Nat.le_refl _)) (hc.below h (Nat.le_refl _)))
  have HX := Lib.hid (fun W (h : Below w.heap.size w W) => hx.below h (Nat.le_refl _))
  have HC := Lib.hid (fun W (h : Below w.heap.size w W) => hc.below h (Nat.le_refl _))
  have HE := Lib.hid (fun W (h : Below w.heap.size w W) => he.below h (Nat.le_refl _))
  have HGE := Lib.hid hg
  obtain ⟨Ax, cx, rfl⟩ := txt_form hx
  obtain ⟨Ac, cc, rfl⟩ := hc.form
  obtain ⟨Ae, ce, rfl⟩ := he.form
  obtain ⟨n, hn⟩ : ∃ n, X.length = n := ⟨_, rfl⟩
  obtain ⟨c, hcl⟩ : ∃ n, C.length = n := ⟨_, rfl⟩
  obtain ⟨l, hl⟩ : ∃ n, E.length = n := ⟨_, rfl⟩
  rw [hn] at FI HX ⊢
  rw [hcl] at FI HC ⊢
  rw [hl] at HE ⊢
  have HN := Lib.hid hn; have HCL := Lib.hid hcl; have HL := Lib.hid hl
  clear hg hx hc he hn hcl hl
  go_enter Tryd.func3, Tryd.ntmps3
  go_wp2_with fail
  refine AL.out.mono ?_; rintro e w1 ⟨rfl, hb1⟩
  have HB1 := Lib.hid hb1
  have F1 := Lib.hid (FI.out w1 hb1)
  clear hb1
  go_wp2_with fail
  refine F1.out.mono ?_; rintro e w2 ⟨rfl | ⟨rfl, hfine⟩, hw⟩
  · obtain rfl := hw.symm; clear hw
    go_wp2_with fail
    go_ret
    exact ⟨rfl, HB1.out⟩
  obtain rfl := hw.symm; clear hw
  by_cases h100 : 100 < l
  · have t1 : decide (100 < l) = true := decide_eq_true h100
    have t1' : decide ((100 : Int) < l) = true := decide_eq_true (by omega)
    clear h100 hfine
    go_wp2_with fail
    go_ret
    exact ⟨rfl, HB1.out⟩
  have t1 : decide (100 < l) = false := decide_eq_false h100
  have t1' : decide ((100 : Int) < l) = false := decide_eq_false (by omega)
  have hl100 : l ≤ 100 := by omega
  have hn1 := hfine.n1
  have hn2 := hfine.n2
  have htl : ∀ a, (C.getD a []).length ≤ 8 := fun a => by have := (hfine.rows a).1; omega
  have htr : ∀ a, ∀ t ∈ C.getD a [], 0 ≤ t ∧ t < (X.length : Int) := fun a => (hfine.rows a).2
  have hs1 : ∀ a, (X.getD a ⟨#[]⟩).size ≤ 60 := fun a => by
    by_cases ha : a < X.length
    · exact hfine.txt _ (getD_mem_txt ha)
    · simp only [List.getD]; rw [List.getElem?_eq_none (by omega)]; exact Nat.zero_le _
  have hb12 : Below w1.heap.size w1 (w1.alloc (.cells #[.slice Ac c cc] 28)) := (Below.refl _ _).alloc (Nat.le_refl _) _
  have hjc := Whole.new w1 28 #[.slice Ac c cc]
  obtain ⟨w2, hw2⟩ : ∃ W, w1.alloc (.cells #[.slice Ac c cc] 28) = W := ⟨_, rfl⟩
  rw [hw2] at hb12 hjc
  obtain ⟨jb, hjb⟩ : ∃ g, w1.heap.size = g := ⟨_, rfl⟩
  rw [hjb] at hjc
  have hbw2 : Below w.heap.size w w2 := HB1.out.trans (hb12.mono HB1.out.size)
  have LN := Lib.hid (lnew (TL := C) (vt := .slice Ac c cc) X _ w2 (HX.out w2 hbw2) hn1 (by omega) htl htr hs1)
  have HT : Hid (∀ W, Below w2.heap.size w2 W → ListsV W (.slice Ac c cc) C) := Lib.hid (fun W h => HC.out W (hbw2.trans (h.mono hbw2.size)))
  have HE2 := Lib.hid (fun W (h : Below w2.heap.size w2 W) => HE.out W (hbw2.trans (h.mono hbw2.size)))
  have HJC : Hid (∀ W, Below w2.heap.size w2 W → W.cell? ⟨jb, 0, none⟩ = some (.slice Ac c cc)) := Lib.hid (fun W h => (hjc.below h hjc.lt).cell 0)
  have HGW : Hid (∀ W, Below w2.heap.size w2 W → ErrT W) := Lib.hid (fun W h => HGE.out.below (hbw2.trans (h.mono hbw2.size)) (Nat.le_refl _))
  have hps := fun (m : Nat) (R : Nat → Prop) (w3 : World) hm hb => play_start (TL := C) (vt := .slice Ac c cc) (m := m) (n := n) (X := X) (R := R) (w2 := w2) (w3 := w3) hm hb HT.out (HX.out w2 hbw2) HN.out hn1
  obtain ⟨p0, hp0⟩ : ∃ p, startP X.length 0 X (List.replicate X.length []) = p := ⟨_, rfl⟩
  rw [hp0] at LN hps
  have HP0 : Hid (p0.rd = 0 ∧ p0.k = n ∧ p0.st = X ∧ p0.bx = List.replicate X.length [] ∧ p0.wk = List.replicate X.length false) := Lib.hid (by rw [← hp0]; exact ⟨rfl, HN.out, rfl, rfl, rfl⟩)
  have hnn : n ≤ 6 := by rw [← HN.out]; exact hn2
  have hn11 : 1 ≤ n := by rw [← HN.out]; exact hn1
  unfold wordJob at LN
  have HPS := Lib.hid hps; have HW2 := Lib.hid hw2; have HJB := Lib.hid hjb; have HBW2 := Lib.hid hbw2
  have c0 := HJC.out w2 (Below.refl _ _)
  clear h100 hfine hn1 hn2 htl htr hs1 hp0 hb12 hjc hw2 hbw2 hps hjb
  go_upto_region 6 with fail
  rw [HW2.out, HJB.out]
  go_wp2_with fail
  refine LN.out.mono ?_; rintro e w3 ⟨m, R, rfl, hm, hR, hb3⟩
  have HS0 := Lib.hid (HPS.out m R w3 hm hb3)
  clear hm hR hb3 c0
  have hmk1 := fun V => make_rows n V (by omega)
  have hmk2 := fun V => make_bools n V (by omega)
  go_wp2_with fail
  clear hmk1 hmk2 t1 t1'
  go_loopg [10, 11, 12, 13, 14] l (fun g x10 x11 x12 x13 y wr => ∃ i, i ≤ l ∧ g = l - i ∧ y = .int .i64 (i : Nat) ∧ HeadAt C p0 (.slice Ac c cc) w2.heap.size m w2 n i x10 x11 x12 x13 wr)
  case atStart =>
    refine ⟨0, Nat.zero_le _, rfl, rfl, p0, w3.heap.size + 1, by rw [HP0.out.1]; exact Nat.le_refl _, HP0.out.2.1, rfl, by rw [HP0.out.1]; rfl, ⟨_, _, rfl⟩, ⟨_, _, rfl⟩, ?_⟩
    rw [HP0.out.2.2.1, HP0.out.2.2.2.1, HP0.out.2.2.2.2]
    exact HS0.out
  case round =>
    obtain ⟨i, hi, rfl, rfl, p, kb, hrd, hpk, rfl, rfl, ⟨A10, c10, rfl⟩, ⟨A11, c11, rfl⟩, hpl⟩ := hrel
    obtain ⟨rd, hrdd⟩ : ∃ r, p.rd = r := ⟨_, rfl⟩
    rw [hrdd] at hrd ⊢
    have HPK := Lib.hid hpk; have HRD := Lib.hid hrdd; have HPL := Lib.hid hpl
    have hbel := hpl.bel
    obtain ⟨w4, hw4⟩ : ∃ W, W = wr := ⟨_, rfl⟩
    subst hw4
    by_cases hlt : i < l
    · obtain ⟨b, off, rfl, d0, d1⟩ := (HE2.out w4 hbel).pos (show i < E.length by rw [HL.out]; exact hlt)
      obtain ⟨kd, a, hkn⟩ : ∃ x y, E.getD i (0, 0) = (x, y) := ⟨_, _, rfl⟩
      have HKD : Hid (∀ W, Below w2.heap.size w2 W → W.cell? ⟨b, off + i * 2, none⟩ = some (.int .i64 kd)) := Lib.hid (fun W hW => by
        obtain ⟨b', off', e1, d0', _⟩ := (HE2.out W hW).pos (show i < E.length by rw [HL.out]; exact hlt)
        injection e1 with e1
        injection e1 with e1 e2
        subst e1 e2
        rw [hkn] at d0'
        exact d0')
      rw [hkn] at d1
      simp only at d1
      have t2 : decide (i < l) = true := decide_eq_true hlt
      have t2' : decide ((i : Int) < l) = true := decide_eq_true (by omega)
      have i1 : (i : Int) < l := by omega
      have HLT := Lib.hid hlt
      have hi100 : i ≤ 100 := by omega
      have hrd100 : rd ≤ 100 := by omega
      have HRI := Lib.hid hrd
      clear hi hrd hpk hrdd hpl hbel hlt d0 hkn
      go_upto_region 17 with fail
      obtain ⟨inB, hinB⟩ : ∃ x, decide (0 ≤ a ∧ a < (n : Int)) = x := ⟨_, rfl⟩
      have HIN := Lib.hid hinB
      clear hinB t2 t2' d1
      go_cut [16] (fun x wx => x = .bool inB ∧ Below w4.heap.size w4 wx)
      case first => as_aux_lemma =>
        by_cases h0 : 0 ≤ a
        · have s1 : decide (0 ≤ a) = true := decide_eq_true h0
          by_cases h1 : a < (n : Int)
          · have s2 : decide (a < (n : Int)) = true := decide_eq_true h1
            have HV : Hid (true = inB) := Lib.hid (by rw [← HIN.out]; exact (decide_eq_true ⟨h0, h1⟩).symm)
            clear h0 h1
            go_wp2_with fail
            go_meet
            exact ⟨by rw [← HV.out], Below.refl _ _⟩
          · have s2 : decide (a < (n : Int)) = false := decide_eq_false h1
            have HV : Hid (false = inB) := Lib.hid (by rw [← HIN.out]; exact (decide_eq_false (fun h => h1 h.2)).symm)
            clear h0 h1
            go_wp2_with fail
            go_meet
            exact ⟨by rw [← HV.out], Below.refl _ _⟩
        · have s1 : decide (0 ≤ a) = false := decide_eq_false h0
          have HV : Hid (false = inB) := Lib.hid (by rw [← HIN.out]; exact (decide_eq_false (fun h => h0 h.1)).symm)
          clear h0
          go_wp2_with fail
          go_meet
          exact ⟨by rw [← HV.out], Below.refl _ _⟩
      case rest =>
      obtain ⟨rfl, hb5⟩ := hcut
      have HP5 := Lib.hid (HPL.out.below hb5)
      obtain ⟨w5, hw5⟩ : ∃ W, W = wc := ⟨_, rfl⟩
      subst hw5
      clear hb5
      go_wp2_with fail
      go_loopg [17, 18] n (fun g av y wr => ∃ j, j ≤ n ∧ g = n - j ∧ y = .int .i64 (j : Nat) ∧ av = .bool ((p.wk.take j).all id) ∧ w5 = wr)
      case atStart => exact ⟨0, Nat.zero_le _, rfl, rfl, rfl, rfl⟩
      case round =>
        obtain ⟨j, hj, rfl, rfl, rfl, rfl⟩ := hrel
        have hwl : p.wk.length = n := by rw [HP5.out.inv.l5]; exact HPK.out
        by_cases hlt : j < n
        · have t2 : decide (j < n) = true := decide_eq_true hlt
          have t2' : decide ((j : Int) < n) = true := decide_eq_true (by omega)
          have j1 : (j : Int) < n := by omega
          have c1 := (HP5.out.cell (i := j) (by rw [hwl]; exact hlt)).1
          have HS := Lib.hid (all_snoc (X := p.wk) (j := j) (by rw [hwl]; exact hlt))
          obtain ⟨B, hB⟩ : ∃ x, p.wk.getD j false = x := ⟨_, rfl⟩
          obtain ⟨A, hA⟩ : ∃ x, (p.wk.take j).all id = x := ⟨_, rfl⟩
          rw [hB] at c1 HS
          rw [hA] at HS ⊢
          have HLT2 := Lib.hid hlt
          clear hj hwl hlt hB hA
          as_aux_lemma =>
          cases A with
          | true =>
            go_wp2_with fail
            go_roundg (n - (j + 1))
            case rel => exact ⟨j + 1, HLT2.out, rfl, rfl, by rw [HS.out]; rfl, rfl⟩
            case measure => have := HLT2.out; omega
          | false =>
            go_wp2_with fail
            go_roundg (n - (j + 1))
            case rel => exact ⟨j + 1, HLT2.out, rfl, rfl, by rw [HS.out]; rfl, rfl⟩
            case measure => have := HLT2.out; omega
        · have t2 : decide (j < n) = false := decide_eq_false hlt
          have t2' : decide ((j : Int) < n) = false := decide_eq_false (by omega)
          obtain rfl : n = j := by omega
          have HWA : Hid (p.wk.take n = p.wk) := Lib.hid (List.take_of_length_le (by omega))
          rw [HWA.out]
          obtain ⟨aB, haB⟩ : ∃ x, p.wk.all id = x := ⟨_, rfl⟩
          rw [haB]
          have HAL := Lib.hid haB
          have HWL := Lib.hid hwl
          have d0 := HKD.out w5 HP5.out.bel
          clear hj hwl hlt haB
          go_upto_block 4 with fail
          clear d0 t2 t2'
          go_cut [12, 19] (fun x y wx => MidAt C p0 (.slice Ac c cc) w2.heap.size m w2 n (i + 1) rd (.slice A10 n c10) (.slice A11 n c11) x y wx)
          case first => as_aux_lemma =>
            by_cases h0 : kd = 0
            · subst h0
              as_aux_lemma =>
              by_cases hin : 0 ≤ a ∧ a < (n : Int)
              · obtain ⟨d, rfl⟩ : ∃ d : Nat, a = d := ⟨a.toNat, by omega⟩
                have hd : d < n := by omega
                have hv : inB = true := by rw [← HIN.out]; exact decide_eq_true hin
                subst hv
                obtain ⟨c1, c2⟩ := HP5.out.cell (i := d) (by rw [HWL.out]; exact hd)
                have d1 : (d : Int) < n := by omega
                have HPK5 : Hid (0 ≤ (d : Int) ∧ (d : Int) < p.k) := Lib.hid (by rw [HPK.out]; exact hin)
                have WK := Lib.hid (pwork HP5.out (by omega) (d : Int))
                obtain ⟨bw, hbw⟩ : ∃ x, p.wk.getD d false = x := ⟨_, rfl⟩
                rw [hbw] at c1
                have HBW := Lib.hid hbw
                clear hin hbw hd
                cases bw with
                | true =>
                  have e1 : workC p (d : Int) = 4 := by unfold workC; rw [if_pos HPK5.out, show ((d : Int)).toNat = d from rfl, if_pos HBW.out]
                  have e2 : workQ C p (d : Int) = p := by unfold workQ; rw [e1]; rfl
                  rw [e1, e2] at WK
                  clear e1 e2
                  go_wp2_with fail
                  refine WK.out.mono ?_; rintro e w6 ⟨u, rfl, hu, hl6⟩
                  have HL6 := Lib.hid hl6
                  have CO := Lib.hid (code_as hu (HGW.out w6 hl6.bel))
                  clear hu hl6
                  go_wp2_with fail
                  refine CO.out.mono ?_; rintro e w7 ⟨rfl, hb7⟩
                  have HL7 := Lib.hid (HL6.out.below hb7)
                  have HL8 := Lib.hid (HL7.out.put d true)
                  rw [set_again HBW.out] at HL8
                  obtain ⟨c3, c4⟩ := HL7.out.cell (i := d) (by rw [HWL.out]; omega)
                  rw [HBW.out] at c3
                  clear hb7 c1 c2
                  go_wp2_with fail
                  go_meet
                  exact mid_no HPK.out HRD.out (HL8.out.mono (Nat.le_succ _))
                | false =>
                  have e1 : workC p (d : Int) = 0 := by unfold workC; rw [if_pos HPK5.out, show ((d : Int)).toNat = d from rfl, if_neg (by rw [HBW.out]; decide)]
                  have e2 : workQ C p (d : Int) = workP p d (C.getD d []) := by unfold workQ; rw [e1]; rfl
                  rw [e1, e2] at WK
                  clear e1 e2
                  go_wp2_with fail
                  refine WK.out.mono ?_; rintro e w6 ⟨u, rfl, hu, hl6⟩
                  have HL6 := Lib.hid hl6
                  have CO := Lib.hid (code_as hu (HGW.out w6 hl6.bel))
                  clear hu hl6
                  go_wp2_with fail
                  refine CO.out.mono ?_; rintro e w7 ⟨rfl, hb7⟩
                  have HL7 := Lib.hid (HL6.out.below hb7)
                  have HL8 := Lib.hid (HL7.out.put d true)
                  obtain ⟨c3, c4⟩ := HL7.out.cell (i := d) (by rw [HWL.out]; omega)
                  rw [HBW.out] at c3
                  clear hb7 c1 c2
                  go_wp2_with fail
                  go_meet
                  exact mid_no (p := workP p d (C.getD d [])) HPK.out HRD.out (HL8.out.mono (Nat.le_succ _))
              · have hv : inB = false := by rw [← HIN.out]; exact decide_eq_false hin
                subst hv
                have WK := Lib.hid (pwork HP5.out (by omega) a)
                have e1 : workC p a = 3 := by unfold workC; rw [if_neg (by rw [HPK.out]; exact hin)]
                have e2 : workQ C p a = p := by unfold workQ; rw [e1]; rfl
                rw [e1, e2] at WK
                clear e1 e2 hin
                go_wp2_with fail
                refine WK.out.mono ?_; rintro e w6 ⟨u, rfl, hu, hl6⟩
                have HL6 := Lib.hid hl6
                have CO := Lib.hid (code_as hu (HGW.out w6 hl6.bel))
                clear hu hl6
                go_wp2_with fail
                refine CO.out.mono ?_; rintro e w7 ⟨rfl, hb7⟩
                have HL7 := Lib.hid (HL6.out.below hb7)
                clear hb7
                go_wp2_with fail
                go_meet
                exact mid_no HPK.out HRD.out (HL7.out.mono (Nat.le_succ _))
            have g0 : (kd == 0) = false := beq_eq_false_iff_ne.mpr h0
            have g0' : decide (kd = 0) = false := decide_eq_false h0
            clear h0
            by_cases h1 : kd = 1
            · subst h1
              as_aux_lemma =>
              obtain ⟨L, hL⟩ : ∃ n, p.nt.fly.length = n := ⟨_, rfl⟩
              have FY := Lib.hid (pflying HP5.out (by omega) hL)
              have HLL := Lib.hid hL
              clear hL
              have dk := HKD.out
              go_wp2_with fail
              refine FY.out.mono ?_; rintro e w6 ⟨rfl, hb6⟩
              have HL6 := Lib.hid (HP5.out.below hb6)
              have d0 := HKD.out w6 HL6.out.bel
              clear hb6 dk
              have WK := Lib.hid (pdeliver HL6.out (by omega) a)
              rw [stepP_code p.nt 2 a (by decide), HLL.out] at WK
              by_cases hin : 0 ≤ a ∧ a < (L : Int)
              · rw [if_pos hin] at WK
                have s1 : decide (a < 0) = false := decide_eq_false (by omega)
                have s2 : decide ((L : Int) ≤ a) = false := decide_eq_false (by omega)
                clear hin
                go_wp2_with fail
                clear d0
                refine WK.out.mono ?_; rintro e w7 ⟨u, rfl, hu, hl7⟩
                have HL7 := Lib.hid hl7
                have CO := Lib.hid (code_as hu (HGW.out w7 hl7.bel))
                clear hu hl7
                go_wp2_with fail
                refine CO.out.mono ?_; rintro e w8 ⟨rfl, hb8⟩
                have HL8 := Lib.hid (HL7.out.below hb8)
                clear hb8
                go_wp2_with fail
                go_meet
                exact mid_no (p := netP p 2 a) HPK.out HRD.out HL8.out
              · rw [if_neg hin] at WK
                have hs : decide (a < 0) = true ∨ (decide (a < 0) = false ∧ decide ((L : Int) ≤ a) = true) := by
                  by_cases h : a < 0
                  · exact Or.inl (decide_eq_true h)
                  · exact Or.inr ⟨decide_eq_false h, decide_eq_true (by omega)⟩
                clear hin
                rcases hs with s1 | ⟨s1, s2⟩
                · go_wp2_with fail
                  clear d0
                  refine WK.out.mono ?_; rintro e w7 ⟨u, rfl, hu, hl7⟩
                  have HL7 := Lib.hid hl7
                  have CO := Lib.hid (code_as hu (HGW.out w7 hl7.bel))
                  clear hu hl7
                  go_wp2_with fail
                  refine CO.out.mono ?_; rintro e w8 ⟨rfl, hb8⟩
                  have HL8 := Lib.hid (HL7.out.below hb8)
                  clear hb8
                  go_wp2_with fail
                  go_meet
                  exact mid_no (p := netP p 2 a) HPK.out HRD.out HL8.out
                · go_wp2_with fail
                  clear d0
                  refine WK.out.mono ?_; rintro e w7 ⟨u, rfl, hu, hl7⟩
                  have HL7 := Lib.hid hl7
                  have CO := Lib.hid (code_as hu (HGW.out w7 hl7.bel))
                  clear hu hl7
                  go_wp2_with fail
                  refine CO.out.mono ?_; rintro e w8 ⟨rfl, hb8⟩
                  have HL8 := Lib.hid (HL7.out.below hb8)
                  clear hb8
                  go_wp2_with fail
                  go_meet
                  exact mid_no (p := netP p 2 a) HPK.out HRD.out HL8.out
            have g1 : (kd == 1) = false := beq_eq_false_iff_ne.mpr h1
            have g1' : decide (kd = 1) = false := decide_eq_false h1
            clear h1
            by_cases h2 : kd = 2
            · subst h2
              as_aux_lemma =>
              obtain ⟨L, hL⟩ : ∃ n, p.nt.fly.length = n := ⟨_, rfl⟩
              have FY := Lib.hid (pflying HP5.out (by omega) hL)
              have HLL := Lib.hid hL
              clear hL
              have dk := HKD.out
              go_wp2_with fail
              refine FY.out.mono ?_; rintro e w6 ⟨rfl, hb6⟩
              have HL6 := Lib.hid (HP5.out.below hb6)
              have d0 := HKD.out w6 HL6.out.bel
              clear hb6 dk
              have WK := Lib.hid (pdouble HL6.out (by omega) a)
              rw [stepP_code p.nt 1 a (by decide), HLL.out] at WK
              by_cases hin : 0 ≤ a ∧ a < (L : Int)
              · rw [if_pos hin] at WK
                have s1 : decide (a < 0) = false := decide_eq_false (by omega)
                have s2 : decide ((L : Int) ≤ a) = false := decide_eq_false (by omega)
                clear hin
                go_wp2_with fail
                clear d0
                refine WK.out.mono ?_; rintro e w7 ⟨u, rfl, hu, hl7⟩
                have HL7 := Lib.hid hl7
                have CO := Lib.hid (code_as hu (HGW.out w7 hl7.bel))
                clear hu hl7
                go_wp2_with fail
                refine CO.out.mono ?_; rintro e w8 ⟨rfl, hb8⟩
                have HL8 := Lib.hid (HL7.out.below hb8)
                clear hb8
                go_wp2_with fail
                go_meet
                exact mid_no (p := netP p 1 a) HPK.out HRD.out HL8.out
              · rw [if_neg hin] at WK
                have hs : decide (a < 0) = true ∨ (decide (a < 0) = false ∧ decide ((L : Int) ≤ a) = true) := by
                  by_cases h : a < 0
                  · exact Or.inl (decide_eq_true h)
                  · exact Or.inr ⟨decide_eq_false h, decide_eq_true (by omega)⟩
                clear hin
                rcases hs with s1 | ⟨s1, s2⟩
                · go_wp2_with fail
                  clear d0
                  refine WK.out.mono ?_; rintro e w7 ⟨u, rfl, hu, hl7⟩
                  have HL7 := Lib.hid hl7
                  have CO := Lib.hid (code_as hu (HGW.out w7 hl7.bel))
                  clear hu hl7
                  go_wp2_with fail
                  refine CO.out.mono ?_; rintro e w8 ⟨rfl, hb8⟩
                  have HL8 := Lib.hid (HL7.out.below hb8)
                  clear hb8
                  go_wp2_with fail
                  go_meet
                  exact mid_no (p := netP p 1 a) HPK.out HRD.out HL8.out
                · go_wp2_with fail
                  clear d0
                  refine WK.out.mono ?_; rintro e w7 ⟨u, rfl, hu, hl7⟩
                  have HL7 := Lib.hid hl7
                  have CO := Lib.hid (code_as hu (HGW.out w7 hl7.bel))
                  clear hu hl7
                  go_wp2_with fail
                  refine CO.out.mono ?_; rintro e w8 ⟨rfl, hb8⟩
                  have HL8 := Lib.hid (HL7.out.below hb8)
                  clear hb8
                  go_wp2_with fail
                  go_meet
                  exact mid_no (p := netP p 1 a) HPK.out HRD.out HL8.out
            have g2 : (kd == 2) = false := beq_eq_false_iff_ne.mpr h2
            have g2' : decide (kd = 2) = false := decide_eq_false h2
            clear h2
            by_cases h3 : kd = 3
            · subst h3
              as_aux_lemma =>
              by_cases hin : 0 ≤ a ∧ a < (n : Int)
              · have hv : inB = true := by rw [← HIN.out]; exact decide_eq_true hin
                subst hv
                have WK := Lib.hid (pcrash HP5.out a)
                have e1 : inW p.k a = 0 := if_pos (by rw [HPK.out]; exact hin)
                have e2 : crashP p a = backP p := if_pos (by rw [HPK.out]; exact hin)
                rw [e1, e2] at WK
                clear e1 e2 hin
                have hmk2 := fun V => make_bools n V (by omega)
                go_wp2_with fail
                refine WK.out.mono ?_; rintro e w6 ⟨u, rfl, hu, hl6⟩
                have HL6 := Lib.hid hl6
                have CO := Lib.hid (code_as hu (HGW.out w6 hl6.bel))
                clear hu hl6
                go_wp2_with fail
                refine CO.out.mono ?_; rintro e w7 ⟨rfl, hb7⟩
                have HL7 := Lib.hid (HL6.out.below hb7)
                have HL8 := Lib.hid (HL7.out.made (List.replicate n false))
                rw [← made_bool] at HL8
                obtain ⟨w8, hw8⟩ : ∃ W, w7.alloc (.cells (madeCells #[.bool false] n) 4) = W := ⟨_, rfl⟩
                rw [hw8] at HL8
                have HW8 := Lib.hid hw8
                have FY := Lib.hid (pflying HL8.out (by omega) (L := 0) rfl)
                clear hb7 hw8
                go_wp2_with fail
                rw [HW8.out]
                refine FY.out.mono ?_; rintro e w9 ⟨rfl, hb9⟩
                have HL9 := Lib.hid (HL8.out.below hb9)
                clear hb9 hmk2
                go_wp2_with fail
                go_meet
                exact mid_no (p := backP p) HPK.out HRD.out (by have h9 := HL9.out.mono (q' := i + 1) (Nat.le_succ _); rw [← HPK.out] at h9 ⊢; exact h9)
              · have hv : inB = false := by rw [← HIN.out]; exact decide_eq_false hin
                subst hv
                have WK := Lib.hid (pcrash HP5.out a)
                have e1 : inW p.k a = 3 := if_neg (by rw [HPK.out]; exact hin)
                have e2 : crashP p a = p := if_neg (by rw [HPK.out]; exact hin)
                rw [e1, e2] at WK
                clear e1 e2 hin
                go_wp2_with fail
                refine WK.out.mono ?_; rintro e w6 ⟨u, rfl, hu, hl6⟩
                have HL6 := Lib.hid hl6
                have CO := Lib.hid (code_as hu (HGW.out w6 hl6.bel))
                clear hu hl6
                go_wp2_with fail
                refine CO.out.mono ?_; rintro e w7 ⟨rfl, hb7⟩
                have HL7 := Lib.hid (HL6.out.below hb7)
                clear hb7
                go_wp2_with fail
                go_meet
                exact mid_no HPK.out HRD.out (HL7.out.mono (Nat.le_succ _))
            have g3 : (kd == 3) = false := beq_eq_false_iff_ne.mpr h3
            have g3' : decide (kd = 3) = false := decide_eq_false h3
            clear h3
            by_cases h4 : kd = 4
            · subst h4
              as_aux_lemma =>
              have PA := Lib.hid (ppass HP5.out (by omega) (by rw [HRD.out]; omega))
              cases aB with
              | false =>
                have e1 : passC p = 5 := if_neg (by rw [HAL.out]; decide)
                have e2 : passQ C p = p := by unfold passQ; rw [e1]; rfl
                rw [e1, e2] at PA
                clear e1 e2
                go_wp2_with fail
                refine PA.out.mono ?_; rintro e w6 ⟨u, rfl, hu, hl6⟩
                have HL6 := Lib.hid hl6
                have CO := Lib.hid (code_is hu (HGW.out w6 hl6.bel))
                clear hu hl6
                go_wp2_with fail
                refine CO.out.mono ?_; rintro e w7 ⟨rfl, hb7⟩
                have HL7 := Lib.hid (HL6.out.below hb7)
                clear hb7
                go_wp2_with fail
                go_meet
                exact mid_no HPK.out HRD.out (HL7.out.mono (Nat.le_succ _))
              | true =>
                by_cases hm : p.nt.miss = 0
                · have e1 : passC p = 0 := by unfold passC; rw [if_pos HAL.out, if_pos hm]
                  have e2 : passQ C p = roundP C p := if_pos e1
                  rw [e1, e2] at PA
                  clear e1 e2 hm
                  go_wp2_with fail
                  refine PA.out.mono ?_; rintro e w6 ⟨u, rfl, hu, hl6⟩
                  have HL6 := Lib.hid hl6
                  have CO := Lib.hid (code_is hu (HGW.out w6 hl6.bel))
                  clear hu hl6
                  go_wp2_with fail
                  refine CO.out.mono ?_; rintro e w7 ⟨rfl, hb7⟩
                  have HL7 := Lib.hid (HL6.out.below hb7)
                  clear hb7
                  go_wp2_with fail
                  go_meet
                  exact mid_yes HPK.out HRD.out (HP5.out.inv.mono (Nat.le_succ _)) (HL7.out.mono (Nat.le_succ _))
                · have e1 : passC p = 13 := by unfold passC; rw [if_pos HAL.out, if_neg hm]
                  have e2 : passQ C p = p := by unfold passQ; rw [e1]; rfl
                  rw [e1, e2] at PA
                  obtain ⟨L, hL⟩ : ∃ n, p.nt.fly.length = n := ⟨_, rfl⟩
                  have hL0 := late_fly HP5.out.inv hm
                  rw [hL] at hL0
                  have l0 : ((L : Int) == 0) = false := by simp; omega
                  have l1 : ¬ L = 0 := hL0
                  have HLL := Lib.hid hL
                  clear e1 e2 hm hL hL0
                  go_wp2_with fail
                  refine PA.out.mono ?_; rintro e w6 ⟨u, rfl, hu, hl6⟩
                  have HL6 := Lib.hid hl6
                  have CO := Lib.hid (code_is hu (HGW.out w6 hl6.bel))
                  clear hu hl6
                  go_wp2_with fail
                  refine CO.out.mono ?_; rintro e w7 ⟨rfl, hb7⟩
                  have HL7 := Lib.hid (HL6.out.below hb7)
                  have FY := Lib.hid (pflying HL7.out (by omega) HLL.out)
                  clear hb7
                  go_wp2_with fail
                  refine FY.out.mono ?_; rintro e w8 ⟨rfl, hb8⟩
                  have HL8 := Lib.hid (HL7.out.below hb8)
                  clear hb8
                  go_wp2_with fail
                  go_meet
                  exact mid_no HPK.out HRD.out (HL8.out.mono (Nat.le_succ _))
            have g4 : (kd == 4) = false := beq_eq_false_iff_ne.mpr h4
            have g4' : decide (kd = 4) = false := decide_eq_false h4
            clear h4
            by_cases h5 : kd = 5
            · subst h5
              as_aux_lemma =>
              have FN := Lib.hid (pfinish HP5.out (by omega) (by rw [HRD.out]; omega))
              go_wp2_with fail
              refine FN.out.mono ?_; rintro e w6 ⟨rfl, hl6⟩
              have HL6 := Lib.hid hl6
              clear hl6
              go_wp2_with fail
              go_meet
              exact mid_yes HPK.out HRD.out (HP5.out.inv.mono (Nat.le_succ _)) (HL6.out.mono (Nat.zero_le _))
            have g5 : (kd == 5) = false := beq_eq_false_iff_ne.mpr h5
            have g5' : decide (kd = 5) = false := decide_eq_false h5
            clear h5
            go_wp2_with fail
            go_meet
            exact mid_no HPK.out HRD.out (HP5.out.mono (Nat.le_succ _))
          case rest => as_aux_lemma =>
            obtain ⟨bP, pn, p1, kb1, WK1, rfl, rfl, hk1, hr1, hi1, hpl1, hno, hyes⟩ := hcut
            obtain ⟨w6, hw6⟩ : ∃ W, W = wc := ⟨_, rfl⟩
            subst hw6
            have HK1 := Lib.hid hk1; have HR1 := Lib.hid hr1; have HI1 := Lib.hid hi1; have HPL1 := Lib.hid hpl1; have HNO := Lib.hid hno; have HYES := Lib.hid hyes
            have c0 := HJC.out w6 hpl1.bel
            clear hk1 hr1 hi1 hpl1 hno hyes
            go_upto_if 235 with fail
            go_cut [10, 11, 12, 13] (fun a1 a2 a3 a4 wx => HeadAt C p0 (.slice Ac c cc) w2.heap.size m w2 n (i + 1) a1 a2 a3 a4 wx)
            case first => as_aux_lemma =>
              cases bP with
              | false =>
                obtain ⟨e1, e2⟩ := HNO.out rfl
                subst e1 e2
                go_wp2_with fail
                go_meet
                exact ⟨_, kb1, by rw [HR1.out]; have := HRI.out; omega, HK1.out, rfl, by rw [HR1.out], ⟨_, _, rfl⟩, ⟨_, _, rfl⟩, HPL1.out⟩
              | true =>
                have e1 := HYES.out rfl
                subst e1
                have NX := Lib.hid (pnext HPL1.out HI1.out)
                have hmk2 := fun V => make_bools n V (by omega)
                go_wp2_with fail
                refine NX.out.mono ?_; rintro e w7 ⟨vo, vb, rfl, hl7, ⟨Ao, co, hvo⟩, ⟨Ab, cb, hvb⟩⟩
                rw [HK1.out] at hvo hvb
                subst hvo hvb
                have HL8 := Lib.hid (hl7.made (List.replicate n false))
                rw [← made_bool] at HL8
                clear hl7 c0
                go_wp2_with fail
                go_meet
                exact ⟨roundP C p1, w7.heap.size, by show p1.rd + 1 ≤ _; rw [HR1.out]; have := HRI.out; omega, HK1.out, rfl, by show _ = Value.int _ ((p1.rd + 1 : Nat) : Int); rw [HR1.out]; rfl, ⟨_, _, rfl⟩, ⟨_, _, rfl⟩, by have h9 := HL8.out; rw [← HK1.out] at h9 ⊢; exact h9⟩
            case rest => as_aux_lemma =>
              clear c0
              obtain ⟨pz, kz, hrz, hkz, rfl, rfl, ⟨A10z, c10z, rfl⟩, ⟨A11z, c11z, rfl⟩, hplz⟩ := hcut
              obtain ⟨w7, hw7⟩ : ∃ W, W = wc := ⟨_, rfl⟩
              subst hw7
              obtain ⟨rz, hrzz⟩ : ∃ r, pz.rd = r := ⟨_, rfl⟩
              rw [hrzz]
              have HKZ := Lib.hid hkz; have HRZ := Lib.hid hrz; have HRZZ := Lib.hid hrzz; have HPZ := Lib.hid hplz
              have ST := Lib.hid (pstates hplz hkz)
              clear hkz hrz hrzz hplz
              go_wp2_with fail
              refine ST.out.mono ?_; rintro e w8 ⟨As, cs, rfl, hvs, hb8⟩
              have HVS := Lib.hid hvs
              have HP8 := Lib.hid (HPZ.out.below hb8)
              clear hvs hb8
              go_wp2_with fail
              go_loopg [28] n (fun g y wr => ∃ j, j ≤ n ∧ g = n - j ∧ y = .int .i64 (j : Nat) ∧ Below w8.heap.size w8 wr)
              case atStart => exact ⟨0, Nat.zero_le _, rfl, rfl, Below.refl _ _⟩
              case round =>
                obtain ⟨j, hj, rfl, rfl, hbr⟩ := hrel
                obtain ⟨w9, hw9⟩ : ∃ W, W = wr := ⟨_, rfl⟩
                subst hw9
                have HP9 := Lib.hid (HP8.out.below hbr)
                have HBR := Lib.hid hbr
                by_cases hlt : j < n
                · have t3 : decide (j < n) = true := decide_eq_true hlt
                  have t3' : decide ((j : Int) < n) = true := decide_eq_true (by omega)
                  have j1 : (j : Int) < n := by omega
                  have HLTJ := Lib.hid hlt
                  have hsl : pz.st.length = n := by rw [HP9.out.inv.l1]; exact HKZ.out
                  have hwl2 : pz.wk.length = n := by rw [HP9.out.inv.l5]; exact HKZ.out
                  obtain ⟨b1, o1, e1, hq1, c1⟩ := txt_pos (HVS.out.below hbr (Nat.le_refl _)) (i := j) (by omega)
                  obtain ⟨b2, o2, e2, hq2, c2⟩ := txt_pos HP9.out.wants (i := j) (by omega)
                  subst e1 e2
                  have c3 := (HP9.out.cell (i := j) (by omega)).1
                  obtain ⟨y, hy⟩ : ∃ y, pz.st.getD j ⟨#[]⟩ = y := ⟨_, rfl⟩
                  obtain ⟨bz, hbz⟩ : ∃ y, pz.wk.getD j false = y := ⟨_, rfl⟩
                  rw [hy] at c1 c2
                  rw [hbz] at c3
                  have WD : Hid (∀ W, Below w9.heap.size w9 W → Calls Tryd.prog 21 #[.pointer (some ⟨m, 0, none⟩), .int .i64 (j : Int)] W fun e w' => e = .returned (.bool bz) ∧ Below w9.heap.size w9 w') := Lib.hid (fun W hW => (pworked (HP9.out.below hW) j (by rw [HKZ.out]; exact hlt)).mono fun e w' h => ⟨by rw [h.1, hbz], hW.trans (h.2.mono hW.size)⟩)
                  have KS : Hid (∀ W, Below w9.heap.size w9 W → Below w9.heap.size w9 W ∧ W.cell? ⟨b1, o1 + j, none⟩ = some (.string y) ∧ W.cell? ⟨b2, o2 + j, none⟩ = some (.string y) ∧ W.cell? ⟨kz, j, none⟩ = some (.bool bz)) := Lib.hid (fun W hW => ⟨hW, (hW.cell (p := ⟨b1, o1 + j, none⟩) (World.block_lt_of_cell? _ _ c1)).trans c1, (hW.cell (p := ⟨b2, o2 + j, none⟩) (World.block_lt_of_cell? _ _ c2)).trans c2, (hW.cell (p := ⟨kz, j, none⟩) (World.block_lt_of_cell? _ _ c3)).trans c3⟩)
                  have n0 : ((n : Int) != n) = false := bne_self_eq_false _
                  have n1 : (n != n) = false := bne_self_eq_false _
                  have n2 : (bz != bz) = false := bne_self_eq_false _
                  clear hq1 hq2 hy hbz hsl hwl2 hlt hbr hj c1 c2 c3
                  go_upto_region 67 with fail
                  go_cut [283] (fun x wx => x = .bool false ∧ Below w9.heap.size w9 wx)
                  case first =>
                    go_region_held3 (fun W => Below w9.heap.size w9 W ∧ W.cell? ⟨b1, o1 + j, none⟩ = some (.string y) ∧ W.cell? ⟨b2, o2 + j, none⟩ = some (.string y) ∧ W.cell? ⟨kz, j, none⟩ = some (.bool bz))
                      (exact KS.out _ (by first | assumption | exact below_drewN' (Below.refl _ _) 1))
                      ((go_at_call 21; refine (WD.out _ (by first | assumption | exact below_drewN' (Below.refl _ _) 1)).mono ?_; rintro e' w' ⟨rfl, hb'⟩))
                    all_goals
                      go_wp2_with fail
                      go_meet
                      exact ⟨rfl, by assumption⟩
                  case rest =>
                    obtain ⟨rfl, hbx⟩ := hcut
                    have HBX := Lib.hid (HBR.out.trans (hbx.mono HBR.out.size))
                    clear hbx
                    go_wp2_with fail
                    go_roundg (n - (j + 1))
                    case rel => exact ⟨j + 1, HLTJ.out, rfl, rfl, HBX.out⟩
                    case measure => have := HLTJ.out; omega
                · have t3 : decide (j < n) = false := decide_eq_false hlt
                  have t3' : decide ((j : Int) < n) = false := decide_eq_false (by omega)
                  obtain rfl : n = j := by omega
                  have RO := Lib.hid (pround HP9.out)
                  rw [HRZZ.out] at RO
                  have n2 : ((rz : Int) != rz) = false := bne_self_eq_false _
                  clear hlt hj hbr
                  go_wp2_with fail
                  refine RO.out.mono ?_; rintro e wa ⟨rfl, hwa⟩
                  obtain rfl := hwa.symm
                  clear hwa
                  go_wp2_with fail
                  go_roundg (l - (i + 1))
                  case rel => exact ⟨i + 1, HLT.out, rfl, rfl, pz, kz, HRZ.out, HKZ.out, rfl, by rw [HRZZ.out], ⟨_, _, rfl⟩, ⟨_, _, rfl⟩, HP9.out⟩
                  case measure => have := HLT.out; omega
    · have t2 : decide (i < l) = false := decide_eq_false hlt
      have t2' : decide ((i : Int) < l) = false := decide_eq_false (by omega)
      have HBF : Hid (Below w.heap.size w w4) := Lib.hid (HBW2.out.trans (hbel.mono HBW2.out.size))
      clear hi hrd hpk hrdd hpl hbel hlt
      go_wp2_with fail
      go_ret
      exact ⟨rfl, HBF.out⟩
end Go.Proofs.YtlopoddllfkkfaaDoor
