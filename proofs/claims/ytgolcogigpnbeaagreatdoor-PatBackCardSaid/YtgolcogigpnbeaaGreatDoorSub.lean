/- Sub of vertices that are right. -/
import Derived.Test.YtgolcogigpnbeaaGreatDoorConn
import Derived.Test.YtgolcogigpnbeaaGreatDoorSubP
import Derived.Test.YtgolcogigpnbeaaGreatDoorReads5
import Derived.WalkSpells
namespace Go.Proofs.YtgolcogigpnbeaaGreatDoor
open Go.RowKit

theorem slice_to1 (A : Option Addr) (m c i : Nat) (h : i ≤ c) (W : World) : (Instr.slice 22 (.slice A m c) none (some (.int .i64 (i : Int))) none).run Tryz.prog W = .ok (.slice A i c) W := by
  have h1 : (0 : Int) ≤ (i : Int) := by omega
  have h2 : (i : Int) ≤ ((c : Nat) : Int) := by omega
  rw [run_slice_h (P := Tryz.prog) W 22 A m c (by kernel_rfl) .i64 (i : Int) h1 h2]
  simp [go_sem, sliced]

/-- append, by a name that the walk does not open. -/
def appSem (ts : Array TypeId) (ty : TypeId) (args : Array Value) : Sem Value := Builtin.append_ ts ty args
theorem app_alias (ts : Array TypeId) (ty : TypeId) (args : Array Value) : Builtin.append_ ts ty args = appSem ts ty args := rfl
theorem app_int1 {V : World} {base q c : Nat} {A : Option Addr} {X : List Int} (hown : V.ownsRow base 3 1 (.slice A q c) q (intCells X)) (hq : q ≤ 1000000) (hbase : base ≤ V.heap.size) (z : Int) :
    ∃ B cap w1, (appSem #[22, 22] 22 #[.slice A q c, .slice (some ⟨V.heap.size, 0, none⟩) 1 1]).run Tryz.prog ((V.alloc (.cells #[.int .i64 z] 3)).drew) = .ok (.slice B (q + 1) cap) w1 ∧
      w1.ownsRow base 3 1 (.slice B (q + 1) cap) (q + 1) (intCells (X ++ [z])) ∧ Grew V (.slice A q c) w1 (.slice B (q + 1) cap) := by
  obtain ⟨i0, hi, hz0, hz1, hz2⟩ := info_parts Tryz.infoInt6
  obtain ⟨v', w1, h1, h2, h3, _, h5⟩ := run_append_own_at (P := Tryz.prog) ((V.alloc (.cells #[.int .i64 z] 3)).drew) base 22 22 3 i0 _ 1 8 Tryz.underlying22 hi hz0 hz1 hz2 rfl (by decide) (.slice A q c) q (intCells X) (own_drewN (hown.alloc _) 1) ⟨V.heap.size, 0, none⟩ 1 1 [.int .i64 z] rfl
    (by
      intro j u hj
      match j, hj with
      | 0, hj =>
        simp at hj; subst hj
        exact ((Whole.new V 3 #[.int .i64 z]).drewN 1).cell 0)
    (by simp [Value.oneCell']) (by unfold maxLen; omega) (by omega) (Nat.le_trans hbase (by show V.heap.size ≤ (V.alloc _).heap.size; simp))
  obtain ⟨B, cap, rfl⟩ := own_form h2
  refine ⟨B, cap, w1, h1, by rw [intCells_app]; exact h2, grown_of_alloc (o := .cells #[.int .i64 z] 3) ⟨h3.os, h3.tape, h3.output, h3.size, h3.block⟩, ?_⟩
  rcases h5 with h5 | h5
  · exact Or.inl h5
  · refine Or.inr ⟨_, h5, ?_⟩
    show V.heap.size ≤ (V.alloc _).heap.size
    simp
theorem intsV_take {w : World} {A : Option Addr} {m c : Nat} {V : Nat → Int} (h : IntsV w (.slice A m c) m V) {i : Nat} (hi : i ≤ m) : IntsV w (.slice A i c) i V := by
  rcases h with ⟨h0, A', c', e⟩ | ⟨h0, b, off, c', e, hc⟩
  · exact Or.inl ⟨by omega, A, c, by rw [show i = 0 by omega]⟩
  · injection e with e1 e2 e3
    subst e1
    by_cases h1 : i = 0
    · subst h1; exact Or.inl ⟨rfl, _, _, rfl⟩
    · exact Or.inr ⟨by omega, b, off, c, rfl, fun j hj => hc j (by omega)⟩
/-- Labels of the first vertices. -/
def labV (L : List Int) (V : Nat → Int) (i : Nat) : List Int := (List.range i).map fun k => L.getD (V k).toNat 0
theorem labV_succ (L : List Int) (V : Nat → Int) (i : Nat) : labV L V (i + 1) = labV L V i ++ [L.getD (V i).toNat 0] := by
  unfold labV
  rw [List.range_succ, List.map_append]
  rfl
theorem labV_len (L : List Int) (V : Nat → Int) (i : Nat) : (labV L V i).length = i := by simp [labV]
/-- What is made so far. -/
def SubAt (w : World) (wr : World) (pb rb sb : Nat) (vl ve : Value) (lv ev : Value) (P : List Int) (Q : List (Int × Int)) : Prop :=
  Whole wr sb 31 #[lv, ev] ∧ Whole wr pb 31 #[vl, ve] ∧ Whole wr rb 31 #[.slice none 0 0, .slice none 0 0] ∧ wr.ownsRow w.heap.size 3 1 lv P.length (intCells P) ∧ wr.ownsRow w.heap.size 62 2 ev Q.length (eL Q) ∧ Below w.heap.size w wr
theorem kept_ne {wr w7 : World} {b1 b2 e1 e2 s1 s2 n1 n2 : Nat} {v v' lv : Value} {xs1 xs2 : List Value} (h : wr.ownsRow b1 e1 s1 lv n1 xs1) (hown : wr.ownsRow b2 e2 s2 v n2 xs2) (hg : Grew wr v w7 v') (hne : e2 ≠ e1) : w7.ownsRow b1 e1 s1 lv n1 xs1 := by
  refine h.kept hg.1 ?_
  rcases h.2 with ⟨e, _⟩ | ⟨g, cap, cur, e, _, hh, _⟩
  · subst e; exact Or.inl rfl
  · subst e
    refine Or.inr (fun he => own_ne hown (show Whole wr g e1 cur from hh) hne ?_)
    exact he.symm
theorem SubAt.put1 {w wr w7 : World} {pb rb sb q c c' : Nat} {A B : Option Addr} {vl ve ev : Value} {P P' : List Int} {Q : List (Int × Int)} (h : SubAt w wr pb rb sb vl ve (.slice A q c) ev P Q) (hsb : w.heap.size ≤ sb) (h1 : pb ≠ sb) (h2 : rb ≠ sb)
    (hown : w7.ownsRow w.heap.size 3 1 (.slice B (q + 1) c') P'.length (intCells P')) (hg : Grew wr (.slice A q c) w7 (.slice B (q + 1) c')) : SubAt w (w7.setCell ⟨sb, 0, none⟩ (.slice B (q + 1) c')) pb rb sb vl ve (.slice B (q + 1) c') ev P' Q := by
  obtain ⟨k1, k2, k3, k4, k5, k6⟩ := h
  have j1 := hg.whole k1 k4 (by decide)
  have j2 := hg.whole k2 k4 (by decide)
  have j3 := hg.whole k3 k4 (by decide)
  have j5 := kept_ne k5 k4 hg (by decide)
  refine ⟨j1.put 0 _, j2.other h1 _, j3.other h2 _, own_put hown (fun e => ?_) _, own_put j5 (fun e => ?_) _, (hg.below k4 k6 (Nat.le_refl _) k6.size).setCell (p := ⟨sb, 0, none⟩) hsb _⟩
  · exact own_ne hown j1 (by decide) e
  · exact own_ne j5 j1 (by decide) e
theorem SubAt.put2 {w wr w7 : World} {pb rb sb q c c' : Nat} {A B : Option Addr} {vl ve lv : Value} {P : List Int} {Q Q' : List (Int × Int)} (h : SubAt w wr pb rb sb vl ve lv (.slice A q c) P Q) (hsb : w.heap.size ≤ sb) (h1 : pb ≠ sb) (h2 : rb ≠ sb)
    (hown : w7.ownsRow w.heap.size 62 2 (.slice B (q + 1) c') Q'.length (eL Q')) (hg : Grew wr (.slice A q c) w7 (.slice B (q + 1) c')) : SubAt w (w7.setCell ⟨sb, 1, none⟩ (.slice B (q + 1) c')) pb rb sb vl ve lv (.slice B (q + 1) c') P Q' := by
  obtain ⟨k1, k2, k3, k4, k5, k6⟩ := h
  have j1 := hg.whole k1 k5 (by decide)
  have j2 := hg.whole k2 k5 (by decide)
  have j3 := hg.whole k3 k5 (by decide)
  have j4 := kept_ne k4 k5 hg (by decide)
  refine ⟨j1.put 1 _, j2.other h1 _, j3.other h2 _, own_put j4 (fun e => ?_) _, own_put hown (fun e => ?_) _, (hg.below k5 k6 (Nat.le_refl _) k6.size).setCell (p := ⟨sb, 1, none⟩) hsb _⟩
  · exact own_ne j4 j1 (by decide) e
  · exact own_ne hown j1 (by decide) e
theorem SubAt.later {w wr w' : World} {pb rb sb : Nat} {vl ve lv ev : Value} {P : List Int} {Q : List (Int × Int)} (h : SubAt w wr pb rb sb vl ve lv ev P Q) (hb : Below wr.heap.size wr w') : SubAt w w' pb rb sb vl ve lv ev P Q := by
  obtain ⟨k1, k2, k3, k4, k5, k6⟩ := h
  exact ⟨k1.below hb k1.lt, k2.below hb k2.lt, k3.below hb k3.lt, own_below k4 hb (Nat.le_refl _), own_below k5 hb (Nat.le_refl _), k6.trans (hb.mono k6.size)⟩
/-- What Sub tells. -/
def SubTo (L : List Int) (E : List (Int × Int)) (m : Nat) (V : Nat → Int) (w : World) (e : Ending) (w' : World) : Prop :=
  ∃ vl ve, e = .returned (.tuple #[.agg #[vl, ve], .nilIface]) ∧ w'.ownsRow w.heap.size 3 1 vl (labV L V m).length (intCells (labV L V m)) ∧ w'.ownsRow w.heap.size 62 2 ve (subE V E m m).length (eL (subE V E m m)) ∧ Below w.heap.size w w'
attribute [local go_sem ↓] app_alias
set_option maxRecDepth 100000 in
set_option maxHeartbeats 8000000 in
theorem sub_any {w : World} {vl ve : Value} {Au : Option Addr} {L : List Int} {E : List (Int × Int)} {n m cu : Nat} {V : Nat → Int} (hn : L.length = n) (hl : SeqV w vl L) (he : EdgesV w ve E) (hrp : RightP L E) (hu : IntsV w (.slice Au m cu) m V) (mc : m ≤ cu) (hV : ∀ i, i < m → 0 ≤ V i ∧ V i < n) (hI : ∀ i j, i < m → j < i → V j ≠ V i) (hm8 : m ≤ 8) (h2 : E.length ≤ 10000) :
    Calls Tryz.prog 26 #[.agg #[vl, ve], .slice Au m cu] w (SubTo L E m V w) := by
  obtain ⟨Al, cl, rfl⟩ := IntsV.form hl
  obtain ⟨Ae, ce, rfl⟩ := he.form
  obtain ⟨i0, hi0, hz0, hz1, hz2⟩ := info_parts Tryz.infoInt6
  obtain ⟨j0, hj0, ky0, ky1, ky2⟩ := info_parts Tryz.infoAE
  obtain ⟨k, hk⟩ : ∃ k, E.length = k := ⟨_, rfl⟩
  rw [hn] at hl ⊢
  rw [hk] at he h2 ⊢
  have hp1 := ((Whole.new w 31 #[.slice Al n cl, .slice Ae k ce]).alloc (.cells #[.slice none 0 0, .slice none 0 0] 31))
  have hx1 := Whole.new (w.alloc (.cells #[.slice Al n cl, .slice Ae k ce] 31)) 31 #[.slice none 0 0, .slice none 0 0]
  have hb1 : Below w.heap.size w ((w.alloc (.cells #[.slice Al n cl, .slice Ae k ce] 31)).alloc (.cells #[.slice none 0 0, .slice none 0 0] 31)) := ((Below.refl _ _).alloc (Nat.le_refl _) _).alloc (by rw [World.size_alloc]; omega) _
  rw [World.size_alloc] at hx1
  obtain ⟨w1, hw⟩ : ∃ W, ((w.alloc (.cells #[.slice Al n cl, .slice Ae k ce] 31)).alloc (.cells #[.slice none 0 0, .slice none 0 0] 31)) = W := ⟨_, rfl⟩
  rw [hw] at hb1 hp1 hx1
  obtain ⟨pb, hpb⟩ : ∃ g, w.heap.size = g := ⟨_, rfl⟩
  obtain ⟨rb, hrb⟩ : ∃ g, pb + 1 = g := ⟨_, rfl⟩
  rw [hpb] at hp1
  rw [hpb, hrb] at hx1
  have HB := Lib.hid hb1; have HW := Lib.hid hw; have HN := Lib.hid hn; have HK := Lib.hid hk; have HX := Lib.hid hx1; have HP := Lib.hid hp1; have HPB := Lib.hid hpb; have HRB := Lib.hid hrb; have HRP := Lib.hid hrp; have HV := Lib.hid hV; have HI := Lib.hid hI
  have RT : Hid (Calls Tryz.prog 21 #[.agg #[.slice Al n cl, .slice Ae k ce]] w1 fun e w' => e = .returned .nilIface ∧ Below w1.heap.size w1 w') := Lib.hid ((right_any (hl.below hb1 (Nat.le_refl _)) (he.below hb1 (Nat.le_refl _)) (by have := hrp.len; omega) (by omega)).mono fun e w' h => h.nil (rightF_none.2 hrp))
  have HL := Lib.hid (fun W (h : Below w.heap.size w W) => hl.below h (Nat.le_refl _))
  have HE := Lib.hid (fun W (h : Below w.heap.size w W) => he.below h (Nat.le_refl _))
  have HU := Lib.hid (fun W (h : Below w.heap.size w W) => hu.below h (Nat.le_refl _))
  have n8 : n ≤ 8 := by rw [← hn]; exact hrp.len
  have HE2 : Hid (E.length ≤ 10000) := Lib.hid (by omega)
  have c0 : w1.cell? ⟨pb, 0, none⟩ = some (.slice Al n cl) := hp1.cell 0
  have c1 : w1.cell? ⟨pb, 1, none⟩ = some (.slice Ae k ce) := hp1.cell 1
  clear hb1 hw hl he hn hk hu hrp hx1 hp1 hrb hV hI h2
  go_enter Tryz.func26, Tryz.ntmps26
  go_upto_region 1 with fail
  rw [HW.out, show pb + 1 = rb from HRB.out]
  clear hpb
  go_wp2_with fail
  refine RT.out.mono ?_; rintro e w2 ⟨rfl, hb2⟩
  have hbA : Below w1.heap.size w1 (w2.alloc (.cells #[.slice none 0 0, .slice none 0 0] 31)) := hb2.alloc hb2.size _
  have hsbW := Whole.new w2 31 #[.slice none 0 0, .slice none 0 0]
  obtain ⟨sb, hsb⟩ : ∃ g, w2.heap.size = g := ⟨_, rfl⟩
  obtain ⟨w3, hw3⟩ : ∃ W, w2.alloc (.cells #[.slice none 0 0, .slice none 0 0] 31) = W := ⟨_, rfl⟩
  rw [hw3] at hbA hsbW
  rw [hsb] at hsbW
  have HS0 : Hid (SubAt w w3 pb rb sb (.slice Al n cl) (.slice Ae k ce) (.slice none 0 0) (.slice none 0 0) [] []) := Lib.hid ⟨hsbW, HP.out.below hbA HP.out.lt, HX.out.below hbA HX.out.lt, ⟨rfl, Or.inl ⟨rfl, rfl⟩⟩, ⟨rfl, Or.inl ⟨rfl, rfl⟩⟩, HB.out.trans (hbA.mono HB.out.size)⟩
  have HSB : Hid (w.heap.size ≤ sb ∧ pb ≠ sb ∧ rb ≠ sb) := Lib.hid (by
    have := HP.out.lt; have := HX.out.lt; have := hb2.size; have := HB.out.size
    exact ⟨by omega, by omega, by omega⟩)
  have HW3 := Lib.hid hw3; have HSZ := Lib.hid hsb
  clear hb2 hbA hsbW hsb hw3 c0 c1
  go_upto_region 5 with fail
  rw [HW3.out, HSZ.out]
  go_wp2_with fail
  go_loopg [21] m (fun g y wr => ∃ i lv, i ≤ m ∧ g = m - i ∧ y = .int .i64 (i : Nat) ∧ SubAt w wr pb rb sb (.slice Al n cl) (.slice Ae k ce) lv (.slice none 0 0) (labV L V i) [])
  case atStart => exact ⟨0, _, Nat.zero_le _, rfl, rfl, HS0.out⟩
  case round =>
    as_aux_lemma =>
    obtain ⟨i, lv, hi, rfl, rfl, hs⟩ := hrel
    have HSA := Lib.hid hs
    have d0 : wr.cell? ⟨pb, 0, none⟩ = some (.slice Al n cl) := hs.2.1.cell 0
    have d1 : wr.cell? ⟨pb, 1, none⟩ = some (.slice Ae k ce) := hs.2.1.cell 1
    by_cases hlt : i < m
    · have t2 : decide (i < m) = true := decide_eq_true hlt
      have t2' : decide ((i : Int) < m) = true := decide_eq_true (by omega)
      have HLT := Lib.hid hlt
      obtain ⟨q, hq⟩ : ∃ q, (labV L V i).length = q := ⟨_, rfl⟩
      obtain ⟨A, c, rfl⟩ := own_form hs.2.2.2.1
      have hui := HU.out wr hs.2.2.2.2.2
      obtain ⟨bu, ou, e1, hcu⟩ := hui.pos (i := i) hlt
      subst e1
      obtain ⟨x, hx⟩ : ∃ x : Nat, V i = x := ⟨(V i).toNat, by have := (HV.out i hlt).1; omega⟩
      have hxn : x < n := by have := (HV.out i hlt).2; omega
      have c2 : wr.cell? ⟨bu, ou + i, none⟩ = some (.int .i64 x) := by rw [← hx]; exact hcu i hlt
      have hli := HL.out w (Below.refl _ _)
      obtain ⟨bl, ol, e2, c3⟩ := SeqV.pos hli (i := x) (by rw [HN.out]; exact hxn)
      subst e2
      obtain ⟨z, hz⟩ : ∃ z, L.getD x 0 = z := ⟨_, rfl⟩
      rw [hz] at c3
      have KL : ∀ W, Below w.heap.size w W → W.cell? ⟨bl, ol + x, none⟩ = some (.int .i64 z) := fun W hW => (hW.cell (p := ⟨bl, ol + x, none⟩) (World.block_lt_of_cell? _ _ c3)).trans c3
      have hownq : wr.ownsRow w.heap.size 3 1 (.slice A q c) q (intCells (labV L V i)) := by have h9 := hs.2.2.2.1; rw [hq] at h9; exact h9
      rw [hq] at hs
      obtain ⟨B, c', w7, hap, hown7, hgr7⟩ := app_int1 (V := wr) (q := q) hownq (by rw [← hq, labV_len]; omega) hs.2.2.2.2.2.size z
      have hb7 := hgr7.below hownq hs.2.2.2.2.2 (Nat.le_refl _) hs.2.2.2.2.2.size
      have hw7 := hgr7.whole hs.1 hownq (by decide)
      have hp7 := hgr7.whole hs.2.1 hownq (by decide)
      have S1 : Hid (wr.drew.cell? ⟨sb, 0, none⟩ = some (.slice A q c) ∧ wr.drew.cell? ⟨pb, 0, none⟩ = some (.slice (some ⟨bl, ol, none⟩) n cl) ∧ wr.drew.cell? ⟨bl, ol + x, none⟩ = some (.int .i64 z)) := Lib.hid ⟨hs.1.cell 0, hs.2.1.cell 0, KL _ (below_drewN' hs.2.2.2.2.2 1)⟩
      have S2 : Hid (((wr.alloc (.cells #[.int .i64 z] 3)).drew).cell? ⟨sb, 0, none⟩ = some (.slice A q c) ∧ ((wr.alloc (.cells #[.int .i64 z] 3)).drew).cell? ⟨pb, 0, none⟩ = some (.slice (some ⟨bl, ol, none⟩) n cl) ∧ ((wr.alloc (.cells #[.int .i64 z] 3)).drew).cell? ⟨bl, ol + x, none⟩ = some (.int .i64 z)) := Lib.hid ⟨(hs.1.alloc _).cell 0, (hs.2.1.alloc _).cell 0, KL _ (below_drewN' (hs.2.2.2.2.2.alloc hs.2.2.2.2.2.size _) 1)⟩
      have S3 : Hid (w7.cell? ⟨sb, 0, none⟩ = some (.slice A q c) ∧ w7.cell? ⟨pb, 0, none⟩ = some (.slice (some ⟨bl, ol, none⟩) n cl) ∧ w7.cell? ⟨bl, ol + x, none⟩ = some (.int .i64 z)) := Lib.hid ⟨hw7.cell 0, hp7.cell 0, KL _ hb7⟩
      have z0 : w7.cell? ⟨sb, 0, none⟩ = some (.slice A q c) := S3.out.1
      have z1 : w7.frozen? ⟨sb, 0, none⟩ = false := hw7.free 0
      have HNB : Hid (SubAt w (w7.setCell ⟨sb, 0, none⟩ (.slice B (q + 1) c')) pb rb sb (.slice (some ⟨bl, ol, none⟩) n cl) (.slice Ae k ce) (.slice B (q + 1) c') (.slice none 0 0) (labV L V (i + 1)) []) := Lib.hid (by
        refine hs.put1 HSB.out.1 HSB.out.2.1 HSB.out.2.2 ?_ hgr7
        rw [labV_len, labV_succ, hx, Int.toNat_natCast, hz, show i + 1 = q + 1 by rw [← hq, labV_len]]
        exact hown7)
      have hsl := slice_to1 (some ⟨bu, ou, none⟩) m cu i (by omega)
      have t3 : decide ((x : Int) < 0) = false := decide_eq_false (by omega)
      have t4 : decide ((x : Int) ≥ n) = false := decide_eq_false (by omega)
      have t4' : decide ((n : Int) ≤ x) = false := decide_eq_false (by omega)
      have t4'' : decide (n ≤ x) = false := decide_eq_false (by omega)
      have CI : Hid (Calls Tryz.prog 35 #[.slice (some ⟨bu, ou, none⟩) i cu, .int .i64 (x : Int)] wr fun e w' => e = .returned (.bool false) ∧ w' = wr) := Lib.hid ((conI_any _ (x : Int) _ wr (seqV_of (intsV_take hui (Nat.le_of_lt hlt))) (by simp; omega)).mono fun e w' h => ⟨by
        rw [h.1]
        congr 2
        rw [← Bool.not_eq_true, List.contains_iff_mem]
        intro hm
        obtain ⟨j, hj, e⟩ := List.mem_map.1 hm
        exact HI.out i j hlt (List.mem_range.1 hj) (by rw [e, hx]), h.2⟩)
      have HZ := Lib.hid hz; have HXX := Lib.hid hx
      have HQ := Lib.hid hq
      have i8 : (i : Int) < 9 := by omega
      have q8 : q ≤ 8 := by rw [← hq, labV_len]; omega
      have x8 : (x : Int) < 9 := by omega
      clear hs hlt hui hcu hli hownq hq hz hx hi KL hown7 hgr7 hb7 hw7 hp7 c3
      go_wp2_with fail
      refine CI.out.mono ?_; rintro e w' ⟨rfl, hwe⟩; obtain rfl := hwe.symm
      go_upto_region 10 with fail
      clear d0 d1 c2 t3 t4 t4' t4'' t2 t2' hsl
      go_wp2_with fail
      refine region_reads [0,1,2,3,4,5,6] 7 8 9 10 (by kernel_rfl) (by kernel_rfl) (fun w' => w'.cell? ⟨sb, 0, none⟩ = some (.slice A q c) ∧ w'.cell? ⟨pb, 0, none⟩ = some (.slice (some ⟨bl, ol, none⟩) n cl) ∧ w'.cell? ⟨bl, ol + x, none⟩ = some (.int .i64 z)) S1.out (by kernel_rfl) (by kernel_rfl) (by kernel_rfl) (by kernel_rfl) (by kernel_rfl) (by kernel_rfl) (by kernel_rfl) rfl rfl rfl rfl rfl rfl rfl rfl (by kernel_rfl) ?_
      refine ⟨_, ?v1_0, rfl, Or.inl ⟨by rfl, ?hy1_0⟩, fun _ _ _ h => h, ?rest1_0⟩
      case hy1_0 => (intro w' hSw; obtain ⟨s1, s2, s3⟩ := hSw; go_simp; try with_reducible rfl)
      try dsimp only [Act.put]
      refine ⟨_, ?v1_1, rfl, Or.inl ⟨by rfl, ?hy1_1⟩, fun _ _ _ h => h, ?rest1_1⟩
      case hy1_1 => (intro w' hSw; obtain ⟨s1, s2, s3⟩ := hSw; go_simp; try with_reducible rfl)
      try dsimp only [Act.put]
      refine ⟨_, ?v1_2, rfl, Or.inl ⟨by rfl, ?hy1_2⟩, fun _ _ _ h => h, ?rest1_2⟩
      case hy1_2 => (intro w' hSw; obtain ⟨s1, s2, s3⟩ := hSw; go_simp; try with_reducible rfl)
      try dsimp only [Act.put]
      refine ⟨_, ?v1_3, rfl, Or.inl ⟨by rfl, ?hy1_3⟩, fun _ _ _ h => h, ?rest1_3⟩
      case hy1_3 => (intro w' hSw; obtain ⟨s1, s2, s3⟩ := hSw; go_simp; try with_reducible rfl)
      try dsimp only [Act.put]
      refine ⟨_, ?v1_4, rfl, Or.inl ⟨by rfl, ?hy1_4⟩, fun _ _ _ h => h, ?rest1_4⟩
      case hy1_4 => (intro w' hSw; obtain ⟨s1, s2, s3⟩ := hSw; go_simp; try with_reducible rfl)
      try dsimp only [Act.put]
      refine ⟨_, ?v1_5, rfl, Or.inl ⟨by rfl, ?hy1_5⟩, fun _ _ _ h => h, ?rest1_5⟩
      case hy1_5 => (intro w' hSw; obtain ⟨s1, s2, s3⟩ := hSw; go_simp; try with_reducible rfl)
      try dsimp only [Act.put]
      refine ⟨_, ?v1_6, rfl, Or.inl ⟨by rfl, ?hy1_6⟩, fun _ _ _ h => h, ?rest1_6⟩
      case hy1_6 => (intro w' hSw; obtain ⟨s1, s2, s3⟩ := hSw; go_simp; try with_reducible rfl)
      try dsimp only [Act.put]
      refine reads_nil ?_
      refine wp_bare (fun K11 hK11 => ?_)
      go_simp
      refine hK11.out _ _ ⟨S2.out, ?_⟩
      refine wp_bare (fun K12 hK12 => ?_)
      go_simp
      refine hK12.out _ _ ⟨S3.out, ?_⟩
      refine wp_bare (fun K13 hK13 => ?_)
      go_simp
      refine hK13.out _ _ ?_
      refine wp_bare (fun K14 hK14 => ?_)
      go_simp
      refine hK14.out _ _ ?_
      go_wp2_with fail
      go_roundg (m - (i + 1))
      case rel => exact ⟨i + 1, _, HLT.out, rfl, by go_num, HNB.out⟩
      case measure => have := HLT.out; omega
    · have t2 : decide (i < m) = false := decide_eq_false hlt
      have t2' : decide ((i : Int) < m) = false := decide_eq_false (by omega)
      obtain rfl : m = i := by omega
      clear hi hlt hs
      go_upto_region 12 with fail
      clear t2 t2' d0 d1
      go_wp2_with fail
      obtain ⟨w4, hw4⟩ : ∃ W, W = wr := ⟨_, rfl⟩
      subst hw4
      go_loopg [58] m (fun g y wr => ∃ i ev, i ≤ m ∧ g = m - i ∧ y = .int .i64 (i : Nat) ∧ SubAt w wr pb rb sb (.slice Al n cl) (.slice Ae k ce) lv ev (labV L V m) (subE V E m i))
      case atStart => exact ⟨0, _, Nat.zero_le _, rfl, rfl, HSA.out⟩
      case round =>
        as_aux_lemma =>
        obtain ⟨i, ev, hi, rfl, rfl, hs⟩ := hrel
        have HSI := Lib.hid hs
        by_cases hlt : i < m
        · have t2 : decide (i < m) = true := decide_eq_true hlt
          have t2' : decide ((i : Int) < m) = true := decide_eq_true (by omega)
          have HLT := Lib.hid hlt
          have hui := HU.out w (Below.refl _ _)
          obtain ⟨bu, ou, e1, hcu⟩ := hui.pos (i := i) hlt
          subst e1
          obtain ⟨x, hx⟩ : ∃ x, V i = x := ⟨_, rfl⟩
          have KU : Hid (∀ W j, j < m → Below w.heap.size w W → W.cell? ⟨bu, ou + j, none⟩ = some (.int .i64 (V j))) := Lib.hid fun W j hj hW => (hW.cell (p := ⟨bu, ou + j, none⟩) (World.block_lt_of_cell? _ _ (hcu j hj))).trans (hcu j hj)
          have c2 : wr.cell? ⟨bu, ou + i, none⟩ = some (.int .i64 x) := by rw [← hx]; exact KU.out wr i hlt hs.2.2.2.2.2
          have HXX := Lib.hid hx
          have i8 : (i : Int) < 9 := by omega
          clear hui hcu hx hs hi hlt
          go_wp2_with fail
          clear t2 t2' c2
          obtain ⟨w5, hw5⟩ : ∃ W, W = wr := ⟨_, rfl⟩
          subst hw5
          go_loopg [12] (m - (i + 1)) (fun g y wr => ∃ j ev, j ≤ m ∧ i < j ∧ g = m - j ∧ y = .int .i64 (j : Nat) ∧ SubAt w wr pb rb sb (.slice Al n cl) (.slice Ae k ce) lv ev (labV L V m) (subE V E m i ++ rowE V E i j))
          case atStart => exact ⟨i + 1, _, HLT.out, Nat.lt_succ_self _, rfl, by go_num, by rw [rowE_low V E i (i + 1) (Nat.le_refl _), List.append_nil]; exact HSI.out⟩
          case round =>
            as_aux_lemma =>
            obtain ⟨j, ev, hj, hij, rfl, rfl, hs⟩ := hrel
            have HLIJ := Lib.hid hij
            have HSJ := Lib.hid hs
            by_cases hlj : j < m
            · have t2 : decide (j < m) = true := decide_eq_true hlj
              have t2' : decide ((j : Int) < m) = true := decide_eq_true (by omega)
              have HLJ := Lib.hid hlj
              obtain ⟨y, hy⟩ : ∃ y, V j = y := ⟨_, rfl⟩
              have c2 : wr.cell? ⟨bu, ou + j, none⟩ = some (.int .i64 y) := by rw [← hy]; exact KU.out wr j hlj hs.2.2.2.2.2
              have d0 : wr.cell? ⟨pb, 0, none⟩ = some (.slice Al n cl) := hs.2.1.cell 0
              have d1 : wr.cell? ⟨pb, 1, none⟩ = some (.slice Ae k ce) := hs.2.1.cell 1
              obtain ⟨b, hb⟩ : ∃ b, decide (ris (x, y) ∈ E) = b := ⟨_, rfl⟩
              have HBB := Lib.hid hb; have HY := Lib.hid hy
              have HH : Hid (∀ W, Below wr.heap.size wr W → Calls Tryz.prog 34 #[.agg #[.slice Al n cl, .slice Ae k ce], .int .i64 x, .int .i64 y] W fun e w' => e = .returned (.bool b) ∧ Below wr.heap.size wr w') := Lib.hid (fun W hW => (has_any (HE.out W (hs.2.2.2.2.2.trans (hW.mono hs.2.2.2.2.2.size))) (by have := HE2.out; omega) x y).mono fun e w' h => ⟨by rw [h.1, hb], hW.trans (h.2.mono hW.size)⟩)
              have j8 : (j : Int) < 9 := by omega
              clear hs hj hlj hy hb hij
              go_upto_region 18 with fail
              clear t2 t2'
              go_cut [77] (fun x wx => x = .bool b ∧ Below wr.heap.size wr wx)
              case first =>
                as_aux_lemma =>
                go_region_with (go_at_call 34; refine (HH.out _ (by first | assumption | exact Below.refl _ _ | exact below_drewN' (Below.refl _ _) _)).mono ?_; rintro e' wH ⟨rfl, hbH⟩)
                all_goals
                  go_wp2_with fail
                  go_meet
                  exact ⟨rfl, by assumption⟩
              case rest =>
                as_aux_lemma =>
                obtain ⟨rfl, hbx⟩ := hcut
                have hs := HSJ.out.later hbx
                clear hbx c2 d0 d1
                obtain ⟨wx, hwx⟩ : ∃ W, W = wc := ⟨_, rfl⟩
                subst hwx
                cases b with
                | false =>
                  have HS := Lib.hid hs
                  clear hs
                  go_wp2_with fail
                  go_roundg (m - (j + 1))
                  case rel => exact ⟨j + 1, _, HLJ.out, Nat.lt_succ_of_lt HLIJ.out, rfl, by go_num, by
                    rw [rowE_succ, if_neg, List.append_nil]
                    · exact HS.out
                    · have h9 := HBB.out
                      unfold inB
                      rw [HXX.out, HY.out, h9]
                      simp⟩
                  case measure => have := HLJ.out; omega
                | true =>
                  obtain ⟨q, hq⟩ : ∃ q, (subE V E m i ++ rowE V E i j).length = q := ⟨_, rfl⟩
                  have hq64 : q ≤ 1000 := by
                    rw [← hq, List.length_append]
                    have h9 := subE_len V E m i
                    have h8 := rowE_len V E i j
                    have h7 := HLJ.out; have h6 := HLT.out
                    have : i * m ≤ 8 * 8 := Nat.mul_le_mul (by omega) (by omega)
                    omega
                  obtain ⟨A, c, rfl⟩ := own_form hs.2.2.2.2.1
                  rw [hq] at hs
                  have hA := hs.later ((Below.refl _ _).alloc (Nat.le_refl _) (.cells #[.int .i64 (i : Int), .int .i64 (j : Int)] 62))
                  have HOW : Hid ((wx.alloc (.cells #[.int .i64 (i : Int), .int .i64 (j : Int)] 62)).ownsRow w.heap.size 62 2 (.slice A q c) q (eL (subE V E m i ++ rowE V E i j))) := Lib.hid (by have h9 := hA.2.2.2.2.1; rw [hq] at h9; exact h9)
                  have HSA2 := Lib.hid hA
                  have hs2 := hA.2.2.2.2.2.size
                  have e0 : wx.cell? ⟨sb, 1, none⟩ = some (.slice A q c) := hs.1.cell 1
                  have HN2 := Lib.hid (edges_new wx 62 (i : Int) (j : Int) 1)
                  have HQ := Lib.hid hq
                  clear hs hA hq
                  go_wp2_with (at_builtin; refine wpList_appEdges _ rfl _ _ 29 62 rfl w.heap.size j0 (.agg #[.int .i64 0, .int .i64 0]) Tryz.underlying29 hj0 ky0 rfl ky1 ky2 _ q _ rfl HOW.out _ [((i : Int), (j : Int))] rfl HN2.out (by simp; omega) hs2 ?_)
                  intro A3 c3 w7 hown3 hgrow3
                  have hw7 := hgrow3.whole HSA2.out.1 HOW.out (by decide)
                  have z0 : w7.cell? ⟨sb, 1, none⟩ = some (.slice A q c) := hw7.cell 1
                  have z1 : w7.frozen? ⟨sb, 1, none⟩ = false := hw7.free 1
                  have HNB : Hid (SubAt w (w7.setCell ⟨sb, 1, none⟩ (.slice A3 (q + 1) c3)) pb rb sb (.slice Al n cl) (.slice Ae k ce) lv (.slice A3 (q + 1) c3) (labV L V m) (subE V E m i ++ rowE V E i (j + 1))) := Lib.hid (by
                    refine HSA2.out.put2 HSB.out.1 HSB.out.2.1 HSB.out.2.2 ?_ hgrow3
                    rw [rowE_succ, if_pos, ← List.append_assoc, List.length_append, HQ.out, eL_app]
                    · exact hown3
                    · unfold inB
                      rw [HXX.out, HY.out, HBB.out]
                      simp
                      have := HLIJ.out
                      omega)
                  clear hown3 hgrow3 hw7 e0
                  go_wp2_with fail
                  go_roundg (m - (j + 1))
                  case rel => exact ⟨j + 1, _, HLJ.out, Nat.lt_succ_of_lt HLIJ.out, rfl, by go_num, HNB.out⟩
                  case measure => have := HLJ.out; omega
            · have t2 : decide (j < m) = false := decide_eq_false hlj
              have t2' : decide ((j : Int) < m) = false := decide_eq_false (by omega)
              obtain rfl : m = j := by omega
              have HS : Hid (SubAt w wr pb rb sb (.slice Al n cl) (.slice Ae k ce) lv ev (labV L V m) (subE V E m (i + 1))) := Lib.hid (by rw [subE_succ]; exact hs)
              clear hs hj hlj hij
              go_wp2_with fail
              go_roundg (m - (i + 1))
              case rel => exact ⟨i + 1, _, HLT.out, rfl, by go_num, HS.out⟩
              case measure => have := HLT.out; omega
        · have t2 : decide (i < m) = false := decide_eq_false hlt
          have t2' : decide ((i : Int) < m) = false := decide_eq_false (by omega)
          obtain rfl : m = i := by omega
          obtain ⟨Lv, lc, hlv⟩ := own_form hs.2.2.2.1
          obtain ⟨Ev, ec, rfl⟩ := own_form hs.2.2.2.2.1
          obtain ⟨la, hla⟩ : ∃ q, (labV L V m).length = q := ⟨_, rfl⟩
          obtain ⟨ea, hea⟩ : ∃ q, (subE V E m m).length = q := ⟨_, rfl⟩
          rw [hla] at hlv
          rw [hea] at hs
          subst hlv
          have e0 : wr.cell? ⟨sb, 0, none⟩ = some (.slice Lv la lc) := hs.1.cell 0
          have e1 : wr.cell? ⟨sb, 1, none⟩ = some (.slice Ev ea ec) := hs.1.cell 1
          have p0 : wr.cell? ⟨rb, 0, none⟩ = some (.slice none 0 0) := hs.2.2.1.cell 0
          have p1 : wr.cell? ⟨rb, 1, none⟩ = some (.slice none 0 0) := hs.2.2.1.cell 1
          have f0 := hs.2.2.1.free 0
          have f1 := hs.2.2.1.free 1
          have HFIN : Hid (Below w.heap.size w ((wr.setCell ⟨rb, 0, none⟩ (.slice Lv la lc)).setCell ⟨rb, 1, none⟩ (.slice Ev ea ec)) ∧ Whole ((wr.setCell ⟨rb, 0, none⟩ (.slice Lv la lc)).setCell ⟨rb, 1, none⟩ (.slice Ev ea ec)) rb 31 #[(.slice Lv la lc), (.slice Ev ea ec)] ∧ ((wr.setCell ⟨rb, 0, none⟩ (.slice Lv la lc)).setCell ⟨rb, 1, none⟩ (.slice Ev ea ec)).ownsRow w.heap.size 3 1 (.slice Lv la lc) (labV L V m).length (intCells (labV L V m)) ∧ ((wr.setCell ⟨rb, 0, none⟩ (.slice Lv la lc)).setCell ⟨rb, 1, none⟩ (.slice Ev ea ec)).ownsRow w.heap.size 62 2 (.slice Ev ea ec) (subE V E m m).length (eL (subE V E m m))) := Lib.hid (by
            have hrw : w.heap.size ≤ rb := by have := HRB.out; have := HPB.out; omega
            have n1 := own_ne hs.2.2.2.1 hs.2.2.1 (by decide)
            have n2 := own_ne hs.2.2.2.2.1 hs.2.2.1 (by decide)
            refine ⟨(hs.2.2.2.2.2.setCell (p := ⟨rb, 0, none⟩) hrw _).setCell (p := ⟨rb, 1, none⟩) hrw _, (hs.2.2.1.put 0 _).put 1 _, (own_put (own_put hs.2.2.2.1 (p := ⟨rb, 0, none⟩) n1 _) (p := ⟨rb, 1, none⟩) n1 _), (own_put (own_put hs.2.2.2.2.1 (p := ⟨rb, 0, none⟩) n2 _) (p := ⟨rb, 1, none⟩) n2 _)⟩)
          clear hs hi hlt hla hea
          go_wp2_with fail
          exact bodyPost_ret (results_pat rfl _ _ rb _ _ _ rfl rfl HFIN.out.2.1) rfl ⟨_, _, rfl, HFIN.out.2.2.1, HFIN.out.2.2.2, HFIN.out.1⟩
end Go.Proofs.YtgolcogigpnbeaaGreatDoor
