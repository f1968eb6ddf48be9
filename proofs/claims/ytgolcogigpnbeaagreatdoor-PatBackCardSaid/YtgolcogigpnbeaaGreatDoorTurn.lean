/- Turn of what is right. -/
import Derived.Test.YtgolcogigpnbeaaGreatDoorConn
import Derived.Test.YtgolcogigpnbeaaGreatDoorSortP
import Derived.Test.YtgolcogigpnbeaaGreatDoorPerm2
namespace Go.Proofs.YtgolcogigpnbeaaGreatDoor
open Go.RowKit

/-- Edges put down one by one. -/
def EdAt (w : World) (g m i : Nat) (F : Nat → Int × Int) : Prop := ∃ cs, Whole w g 62 cs ∧ cs.size = m * 2 ∧ ∀ j, j < i → cs[j * 2]? = some (.int .i64 (F j).1) ∧ cs[j * 2 + 1]? = some (.int .i64 (F j).2)
theorem EdAt.below {w w' : World} {g m i : Nat} {F : Nat → Int × Int} (h : EdAt w g m i F) (hb : Below w.heap.size w w') : EdAt w' g m i F := by
  obtain ⟨cs, h1, h2, h3⟩ := h
  exact ⟨cs, h1.below hb h1.lt, h2, h3⟩
theorem EdAt.slot {w : World} {g m i : Nat} {F : Nat → Int × Int} (h : EdAt w g m i F) {k : Nat} (hk : k < m) : (∃ a, w.cell? ⟨g, k * 2, none⟩ = some a) ∧ (∃ b, w.cell? ⟨g, k * 2 + 1, none⟩ = some b) ∧ w.frozen? ⟨g, k * 2, none⟩ = false ∧ w.frozen? ⟨g, k * 2 + 1, none⟩ = false ∧ g < w.heap.size := by
  obtain ⟨cs, h1, h2, _⟩ := h
  exact ⟨⟨_, (h1.cell _).trans (Array.getElem?_eq_getElem (by omega))⟩, ⟨_, (h1.cell _).trans (Array.getElem?_eq_getElem (by omega))⟩, h1.free _, h1.free _, h1.lt⟩
theorem EdAt.put {w : World} {g m i : Nat} {F : Nat → Int × Int} (h : EdAt w g m i F) (hi : i < m) {a b : Int} (hF : F i = (a, b)) : EdAt ((w.setCell ⟨g, i * 2, none⟩ (.int .i64 a)).setCell ⟨g, i * 2 + 1, none⟩ (.int .i64 b)) g m (i + 1) F := by
  obtain ⟨cs, h1, h2, h3⟩ := h
  refine ⟨_, (h1.put _ _).put _ _, by simp; exact h2, fun j hj => ?_⟩
  by_cases e : j = i
  · subst e
    rw [hF]
    refine ⟨?_, ?_⟩
    · rw [Array.getElem?_setIfInBounds_ne (by omega), Array.getElem?_setIfInBounds_self_of_lt (by omega)]
    · rw [Array.getElem?_setIfInBounds_self_of_lt (by simp; omega)]
  · obtain ⟨k1, k2⟩ := h3 j (by omega)
    refine ⟨?_, ?_⟩
    · rw [Array.getElem?_setIfInBounds_ne (by omega), Array.getElem?_setIfInBounds_ne (by omega)]; exact k1
    · rw [Array.getElem?_setIfInBounds_ne (by omega), Array.getElem?_setIfInBounds_ne (by omega)]; exact k2
theorem EdAt.own {w : World} {g m base : Nat} {F : Nat → Int × Int} (h : EdAt w g m m F) (hb : base ≤ g) (hm : m ≤ 1000000) : w.ownsRow base 62 2 (.slice (some ⟨g, 0, none⟩) m m) m (eL ((List.range m).map F)) := by
  obtain ⟨cs, h1, h2, h3⟩ := h
  have e : cs.toList = eL ((List.range m).map F) := by
    rw [← ecells_list]
    apply congrArg
    apply Array.ext_getElem?
    intro t
    by_cases ht : t < m * 2
    · have hj : t / 2 < ((List.range m).map F).length := by simp; omega
      obtain ⟨k1, k2⟩ := h3 (t / 2) (by omega)
      obtain ⟨q1, q2⟩ := ecells_at hj
      have eF : ((List.range m).map F).getD (t / 2) (0, 0) = F (t / 2) := by simp [List.getD, show t / 2 < m by omega]
      rw [eF] at q1 q2
      rcases (by omega : t = t / 2 * 2 ∨ t = t / 2 * 2 + 1) with e | e
      · rw [e, k1, q1]
      · rw [e, k2, q2]
    · rw [Array.getElem?_eq_none (by omega), Array.getElem?_eq_none (by rw [ecells_size]; simp; omega)]
  have hl : (eL ((List.range m).map F)).length = m * 2 := by rw [← e]; simp; exact h2
  exact ⟨hl, Or.inr ⟨g, m, cs, rfl, hb, h1, Nat.le_refl _, by unfold maxLen; omega, h2, by rw [e, List.take_of_length_le (by omega)]⟩⟩
theorem made_size (k : Nat) : (madeCells #[Value.int .i64 0, Value.int .i64 0] (k * 2)).size = k * 2 := by
  simp [madeCells]
theorem make_edges (k : Nat) (V : World) (hk : k ≤ 1000000) : (Instr.makeSlice 29 (.int .i64 (k : Nat)) (.int .i64 (k : Nat))).run Tryz.prog V = .ok (.slice (some ⟨V.heap.size, 0, none⟩) k k) (V.alloc (.cells (madeCells #[.int .i64 0, .int .i64 0] (k * 2)) 62)) := by
  obtain ⟨j1, hi1, ky0, ky1, ky2⟩ := info_parts Tryz.infoAE
  have h := run_make (P := Tryz.prog) V 29 62 j1 (.agg #[.int .i64 0, .int .i64 0]) Tryz.underlying29 hi1 ky0 .i64 .i64 (k : Int) (k : Int) (by omega) (by omega) (by rw [ky2]; omega) (by omega)
  rw [h, ky1, Int.toNat_natCast]
  rfl
/-- What Turn tells. -/
def TurnTo (n : Nat) (U : Nat → Int) (L : List Int) (E : List (Int × Int)) (w : World) (e : Ending) (w' : World) : Prop :=
  ∃ b g c Y, e = .returned (.tuple #[.agg #[.slice (some ⟨b, 0, none⟩) n n, .slice (some ⟨g, 0, none⟩) E.length c], .nilIface]) ∧ IntsV w' (.slice (some ⟨b, 0, none⟩) n n) n Y ∧ (∀ i, i < n → Y (U i).toNat = L.getD i 0) ∧ EdgesV w' (.slice (some ⟨g, 0, none⟩) E.length c) (turnE U E) ∧ Below w.heap.size w w'
theorem range_getD {α β : Type} (f : α → β) (d : α) (L : List α) : (List.range L.length).map (fun i => f (L.getD i d)) = L.map f := by
  apply List.ext_getElem
  · simp
  · intro i h1 h2
    simp at h1
    simp [List.getD, h1]
theorem turn_len (Z : Nat → Int) (E : List (Int × Int)) : (turnE Z E).length = E.length := by
  unfold turnE
  rw [sortE_len, List.length_map]
set_option maxRecDepth 100000 in
set_option maxHeartbeats 4000000 in
theorem turn_any {w : World} {vl ve vu : Value} {L : List Int} {E : List (Int × Int)} {n : Nat} {U : Nat → Int} (hn : L.length = n) (hl : SeqV w vl L) (he : EdgesV w ve E) (hrp : RightP L E) (hu : IntsV w vu n U) (hO : Order n U) (h2 : E.length ≤ 10000) :
    Calls Tryz.prog 25 #[.agg #[vl, ve], vu] w (TurnTo n U L E w) := by
  obtain ⟨Al, cl, rfl⟩ := IntsV.form hl
  obtain ⟨Ae, ce, rfl⟩ := he.form
  obtain ⟨Au, cu, rfl⟩ := IntsV.form hu
  obtain ⟨m, hm⟩ : ∃ m, E.length = m := ⟨_, rfl⟩
  rw [hn] at hl ⊢
  rw [hm] at he h2 ⊢
  have hb1 : Below w.heap.size w ((w.alloc (.cells #[.slice Al n cl, .slice Ae m ce] 31)).alloc (.cells #[.slice none 0 0, .slice none 0 0] 31)) := ((Below.refl _ _).alloc (Nat.le_refl _) _).alloc (by rw [World.size_alloc]; omega) _
  have hw1 := (Whole.new w 31 #[.slice Al n cl, .slice Ae m ce]).alloc (.cells #[.slice none 0 0, .slice none 0 0] 31)
  have hx1 := Whole.new (w.alloc (.cells #[.slice Al n cl, .slice Ae m ce] 31)) 31 #[.slice none 0 0, .slice none 0 0]
  rw [World.size_alloc] at hx1
  obtain ⟨w1, hw⟩ : ∃ W, ((w.alloc (.cells #[.slice Al n cl, .slice Ae m ce] 31)).alloc (.cells #[.slice none 0 0, .slice none 0 0] 31)) = W := ⟨_, rfl⟩
  rw [hw] at hb1 hw1 hx1
  obtain ⟨rb, hrb⟩ : ∃ g, w.heap.size + 1 = g := ⟨_, rfl⟩
  rw [hrb] at hx1
  have HB := Lib.hid hb1; have HW := Lib.hid hw; have HN := Lib.hid hn; have HM := Lib.hid hm; have HX := Lib.hid hx1; have HRB := Lib.hid hrb; have HRP := Lib.hid hrp; have HO := Lib.hid hO
  have HCC : Hid (∀ W, Below w1.heap.size w1 W → W.cell? ⟨w.heap.size, 0, none⟩ = some (.slice Al n cl) ∧ W.cell? ⟨w.heap.size, 1, none⟩ = some (.slice Ae m ce)) := Lib.hid (fun W h => ⟨(hw1.below h hw1.lt).cell 0, (hw1.below h hw1.lt).cell 1⟩)
  have RT : Hid (Calls Tryz.prog 21 #[.agg #[.slice Al n cl, .slice Ae m ce]] w1 fun e w' => e = .returned .nilIface ∧ Below w1.heap.size w1 w') := Lib.hid ((right_any (hl.below hb1 (Nat.le_refl _)) (he.below hb1 (Nat.le_refl _)) (by have := hrp.len; omega) (by omega)).mono fun e w' h => h.nil (rightF_none.2 hrp))
  have HL := Lib.hid (fun W (h : Below w1.heap.size w1 W) => hl.below (hb1.trans (h.mono hb1.size)) (Nat.le_refl _))
  have HE := Lib.hid (fun W (h : Below w1.heap.size w1 W) => he.below (hb1.trans (h.mono hb1.size)) (Nat.le_refl _))
  have HU := Lib.hid (fun W (h : Below w1.heap.size w1 W) => hu.below (hb1.trans (h.mono hb1.size)) (Nat.le_refl _))
  have hl2 : IntsV w (.slice Al n cl) n (fun i => L.getD i 0) := by
    have h9 := hl
    unfold SeqV at h9
    rw [hn] at h9
    exact h9
  have HL2 := Lib.hid (fun W (h : Below w1.heap.size w1 W) => hl2.below (hb1.trans (h.mono hb1.size)) (Nat.le_refl _))
  obtain ⟨c0, c1⟩ := HCC.out w1 (Below.refl _ _)
  have hm4 : m ≤ 10000 := h2
  clear hb1 hw1 hw hl he hn hm h2 hu hO hrp hl2 hx1 hrb
  go_enter Tryz.func25, Tryz.ntmps25
  go_upto_region 1 with fail
  rw [HW.out, HRB.out]
  go_wp2_with fail
  refine RT.out.mono ?_; rintro e w2 ⟨rfl, hb2⟩
  have HB2 := Lib.hid hb2
  obtain ⟨d0, d1⟩ := HCC.out w2 hb2
  have PT := Lib.hid (put_ok n U (fun i => L.getD i 0) _ _ w2 (HU.out w2 hb2) (HL2.out w2 hb2) HO.out)
  clear hb2 c0 c1
  go_wp2_with fail
  refine PT.out.mono ?_; rintro e w3 ⟨b, Y, rfl, hbs, hown, hY, hb3⟩
  have HY := Lib.hid hY; have HOW := Lib.hid hown
  have HB3 := Lib.hid (HB2.out.trans (hb3.mono HB2.out.size)); have HBS := Lib.hid hbs
  obtain ⟨c0, c1⟩ := HCC.out w3 HB3.out
  clear hbs hown hY hb3 d0 d1
  have hmk := fun V => make_edges m V (by omega)
  have hew := Whole.new w3 62 (madeCells #[.int .i64 0, .int .i64 0] (m * 2))
  have hb34 : Below w3.heap.size w3 (w3.alloc (.cells (madeCells #[.int .i64 0, .int .i64 0] (m * 2)) 62)) := (Below.refl _ _).alloc (Nat.le_refl _) _
  obtain ⟨w4, hw4⟩ : ∃ W, w3.alloc (.cells (madeCells #[.int .i64 0, .int .i64 0] (m * 2)) 62) = W := ⟨_, rfl⟩
  obtain ⟨eb, heb⟩ : ∃ g, w3.heap.size = g := ⟨_, rfl⟩
  rw [hw4] at hew hb34
  rw [heb] at hew
  have HED0 : Hid (EdAt w4 eb m 0 (fun j => ris (mvE U (E.getD j (0, 0))))) := Lib.hid ⟨_, hew, made_size m, fun j hj => absurd hj (Nat.not_lt_zero _)⟩
  have HW4 := Lib.hid hw4; have HEB := Lib.hid heb; have HB34 := Lib.hid hb34
  have HBE : Hid (w1.heap.size ≤ eb) := Lib.hid (by rw [← heb]; exact HB3.out.size)
  have HBE3 : Hid (w3.heap.size ≤ eb) := Lib.hid (by rw [← heb]; exact Nat.le_refl _)
  obtain ⟨d0, d1⟩ := HCC.out w4 (HB3.out.trans (hb34.mono HB3.out.size))
  clear hew hb34 hw4 heb
  go_upto_region 8 with fail
  rw [HW4.out, HEB.out]
  clear hmk c0 c1
  go_wp2_with fail
  go_loopg [37] m (fun g y wr => ∃ i, i ≤ m ∧ g = m - i ∧ y = .int .i64 (i : Nat) ∧ EdAt wr eb m i (fun j => ris (mvE U (E.getD j (0, 0)))) ∧ Below w3.heap.size w3 wr)
  case atStart => exact ⟨0, Nat.zero_le _, rfl, rfl, HED0.out, HB34.out⟩
  case round =>
    obtain ⟨i, hi, rfl, rfl, hed, hbr⟩ := hrel
    obtain ⟨w5, hw5⟩ : ∃ W, W = wr := ⟨_, rfl⟩
    subst hw5
    have HED := Lib.hid hed; have HBR := Lib.hid hbr
    by_cases hlt : i < m
    · have t2 : decide (i < m) = true := decide_eq_true hlt
      have t2' : decide ((i : Int) < m) = true := decide_eq_true (by omega)
      have i1 : (i : Int) < m := by omega
      have HLT := Lib.hid hlt
      have hbw : Below w1.heap.size w1 w5 := HB3.out.trans (hbr.mono HB3.out.size)
      obtain ⟨bE, oE, rfl, q0, q1⟩ := (HE.out w5 hbw).pos (i := i) (by rw [HM.out]; exact hlt)
      have hme : E.getD i (0, 0) ∈ E := by simp only [List.getD, List.getElem?_eq_getElem (show i < E.length by rw [HM.out]; exact hlt), Option.getD_some]; exact List.getElem_mem _
      have hen := HRP.out.ends _ hme
      rw [HN.out] at hen
      obtain ⟨x, hx⟩ : ∃ x : Nat, (E.getD i (0, 0)).1 = x := ⟨(E.getD i (0, 0)).1.toNat, by omega⟩
      obtain ⟨y, hy⟩ : ∃ y : Nat, (E.getD i (0, 0)).2 = y := ⟨(E.getD i (0, 0)).2.toNat, by omega⟩
      rw [hx] at q0 hen
      rw [hy] at q1 hen
      have x1 : (x : Int) < n := by omega
      have y1 : (y : Int) < n := by omega
      have hF : ris (mvE U (E.getD i (0, 0))) = (min (U x) (U y), max (U x) (U y)) := by
        unfold mvE
        rw [hx, hy]
        rfl
      obtain ⟨ub, uo, rfl, hcu⟩ := IntsV.pos (HU.out w5 hbw) (i := x) (by omega)
      have u0 := hcu x (by omega)
      have u1 := hcu y (by omega)
      obtain ⟨p, hp⟩ : ∃ p, U x = p := ⟨_, rfl⟩
      obtain ⟨q, hq⟩ : ∃ q, U y = q := ⟨_, rfl⟩
      rw [hp] at u0 hF
      rw [hq] at u1 hF
      have hb6 : Below w5.heap.size w5 (w5.alloc (.cells #[.int .i64 (x : Int), .int .i64 (y : Int)] 62)) := (Below.refl _ _).alloc (Nat.le_refl _) _
      have hx6 := Whole.new w5 62 #[.int .i64 (x : Int), .int .i64 (y : Int)]
      obtain ⟨w6, hw6⟩ : ∃ W, w5.alloc (.cells #[.int .i64 (x : Int), .int .i64 (y : Int)] 62) = W := ⟨_, rfl⟩
      obtain ⟨xb, hxb⟩ : ∃ g, w5.heap.size = g := ⟨_, rfl⟩
      rw [hw6] at hb6 hx6
      rw [hxb] at hx6
      have v0 : w6.cell? ⟨xb, 0, none⟩ = some (.int .i64 (x : Int)) := hx6.cell 0
      have v1 : w6.cell? ⟨xb, 1, none⟩ = some (.int .i64 (y : Int)) := hx6.cell 1
      have r0 : w6.cell? ⟨ub, uo + x, none⟩ = some (.int .i64 p) := (hb6.cell (p := ⟨ub, uo + x, none⟩) (World.block_lt_of_cell? _ _ u0)).trans u0
      have r1 : w6.cell? ⟨ub, uo + y, none⟩ = some (.int .i64 q) := (hb6.cell (p := ⟨ub, uo + y, none⟩) (World.block_lt_of_cell? _ _ u1)).trans u1
      have RI := Lib.hid (fun W => rising_any p q W)
      have HNX : Hid (∀ W, Below w6.heap.size w6 W → EdAt ((W.setCell ⟨eb, i * 2, none⟩ (.int .i64 (min p q))).setCell ⟨eb, i * 2 + 1, none⟩ (.int .i64 (max p q))) eb m (i + 1) (fun j => ris (mvE U (E.getD j (0, 0)))) ∧ Below w3.heap.size w3 ((W.setCell ⟨eb, i * 2, none⟩ (.int .i64 (min p q))).setCell ⟨eb, i * 2 + 1, none⟩ (.int .i64 (max p q)))) := Lib.hid (fun W hW =>
        ⟨((hed.below hb6).below hW).put hlt hF, ((hbr.trans ((hb6.trans (hW.mono hb6.size)).mono hbr.size)).setCell (p := ⟨eb, i * 2, none⟩) HBE3.out _).setCell (p := ⟨eb, i * 2 + 1, none⟩) HBE3.out _⟩)
      have HSL : Hid (∀ W, Below w6.heap.size w6 W → (∃ a, W.cell? ⟨eb, i * 2, none⟩ = some a) ∧ (∃ b, W.cell? ⟨eb, i * 2 + 1, none⟩ = some b) ∧ W.frozen? ⟨eb, i * 2, none⟩ = false ∧ W.frozen? ⟨eb, i * 2 + 1, none⟩ = false ∧ eb < W.heap.size) := Lib.hid (fun W hW => ((hed.below hb6).below hW).slot hlt)
      have HW6 := Lib.hid hw6; have HXB := Lib.hid hxb
      clear hi hed hbr hlt hbw hme hen hx hy hF hcu u0 u1 hp hq hb6 hx6 hw6 hxb
      go_upto_region 11 with fail
      rw [HW6.out, HXB.out]
      clear q0 q1 d0 d1
      go_region_with ((go_at_call 63; refine (RI.out _).mono ?_; rintro e' wR ⟨rfl, hbR0⟩; have hbR : Below w6.heap.size w6 wR := (below_drewN' (Below.refl w6.heap.size _) 1).trans hbR0; obtain ⟨⟨sa, z0⟩, ⟨sb, z1⟩, z2, z3, z4⟩ := HSL.out wR hbR))
      all_goals
        have HNB := Lib.hid (HNX.out wR hbR)
        go_wp2_with fail
        go_roundg (m - (i + 1))
        case rel => exact ⟨i + 1, HLT.out, rfl, rfl, HNB.out⟩
        case measure => have := HLT.out; omega
    · have t2 : decide (i < m) = false := decide_eq_false hlt
      have t2' : decide ((i : Int) < m) = false := decide_eq_false (by omega)
      obtain rfl : m = i := by omega
      have hown := hed.own HBE.out (by omega)
      have SO := Lib.hid (sort_own ((List.range m).map (fun j => ris (mvE U (E.getD j (0, 0))))) eb m m w1.heap.size w5 (by simp) (by omega) hown)
      have HOW5 := Lib.hid (own_below HOW.out hbr (Nat.le_refl _))
      have HX5 := Lib.hid ((HX.out.below HB3.out HX.out.lt).below hbr (by have := HX.out.lt; have := HB3.out.size; omega))
      have HB5 := Lib.hid (HB3.out.trans (hbr.mono HB3.out.size))
      have HEW : Hid (w5.ownsRow w1.heap.size 62 2 (.slice (some ⟨eb, 0, none⟩) m m) m (eL ((List.range m).map (fun j => ris (mvE U (E.getD j (0, 0))))))) := Lib.hid hown
      clear hi hed hbr hlt hown d0 d1
      go_wp2_with fail
      refine SO.out.mono ?_; rintro e w7 ⟨rfl, D, hDp, hDs, hDo, hgr⟩
      have hD : D = turnE U E := by
        rw [← HM.out, range_getD (fun e => ris (mvE U e))] at hDp
        have hin : InE n E := by have h9 := HRP.out.ends; rw [HN.out] at h9; exact h9
        exact sorted_eq (turn_nodup HO.out hin HRP.out.rising) (by rw [List.map_map]; exact hDp) hDs
      rw [hD] at hDo
      have hrb1 : rb < w1.heap.size := HX.out.lt
      have hs12 := HB2.out.size
      have hX7 := HX5.out.grown hgr (fun e => by have h9 := HBE.out; have := Option.some.inj e; omega)
      have hO7 := HOW5.out.kept hgr (Or.inr (fun e => by have h9 := (HOW.out.lt eb e).2; have := HBE3.out; omega))
      have p0 : w7.cell? ⟨rb, 0, none⟩ = some (.slice none 0 0) := hX7.cell 0
      have p1 : w7.cell? ⟨rb, 1, none⟩ = some (.slice none 0 0) := hX7.cell 1
      have f0 := hX7.free 0
      have f1 := hX7.free 1
      have hB7 : Below w.heap.size w w7 := by
        exact (HB.out.trans (HB5.out.mono HB.out.size)).grown hgr (HB.out.trans (HB5.out.mono HB.out.size)).size (fun g hg => by have := Option.some.inj hg; have := HBE.out; have := HB.out.size; omega)
      have HFIN : Hid (Below w.heap.size w ((w7.setCell ⟨rb, 0, none⟩ (.slice (some ⟨b, 0, none⟩) n n)).setCell ⟨rb, 1, none⟩ (.slice (some ⟨eb, 0, none⟩) m m)) ∧ Whole ((w7.setCell ⟨rb, 0, none⟩ (.slice (some ⟨b, 0, none⟩) n n)).setCell ⟨rb, 1, none⟩ (.slice (some ⟨eb, 0, none⟩) m m)) rb 31 #[.slice (some ⟨b, 0, none⟩) n n, .slice (some ⟨eb, 0, none⟩) m m] ∧ IntsV ((w7.setCell ⟨rb, 0, none⟩ (.slice (some ⟨b, 0, none⟩) n n)).setCell ⟨rb, 1, none⟩ (.slice (some ⟨eb, 0, none⟩) m m)) (.slice (some ⟨b, 0, none⟩) n n) n Y ∧ EdgesV ((w7.setCell ⟨rb, 0, none⟩ (.slice (some ⟨b, 0, none⟩) n n)).setCell ⟨rb, 1, none⟩ (.slice (some ⟨eb, 0, none⟩) m m)) (.slice (some ⟨eb, 0, none⟩) m m) (turnE U E)) := Lib.hid (by
        have hrw : w.heap.size ≤ rb := by have := HRB.out; omega
        refine ⟨(hB7.setCell (p := ⟨rb, 0, none⟩) hrw _).setCell (p := ⟨rb, 1, none⟩) hrw _, (hX7.put 0 _).put 1 _, ?_, ?_⟩
        · exact own_intsV (own_put (own_put hO7 (p := ⟨rb, 0, none⟩) (fun e => by have h9 := (hO7.lt rb e).1; omega) _) (p := ⟨rb, 1, none⟩) (fun e => by have h9 := (hO7.lt rb e).1; omega) _)
        · exact own_edges (own_put (own_put hDo (p := ⟨rb, 0, none⟩) (fun e => by have h9 := (hDo.lt rb e).1; omega) _) (p := ⟨rb, 1, none⟩) (fun e => by have h9 := (hDo.lt rb e).1; omega) _))
      clear hDp hDs hDo hgr hD hrb1 hs12 hX7 hO7 hB7
      go_wp2_with fail
      exact bodyPost_ret (results_pat rfl _ _ rb _ _ _ rfl rfl HFIN.out.2.1) rfl ⟨b, eb, m, Y, by rw [HM.out]; rfl, HFIN.out.2.2.1, HY.out, by rw [HM.out]; exact HFIN.out.2.2.2, HFIN.out.1⟩
end Go.Proofs.YtgolcogigpnbeaaGreatDoor
