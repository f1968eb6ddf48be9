/- rank: branch: contract. -/
import Derived.Test.YtgphdngfbcjmcaaGreatDoorRank2
import Derived.StillTailTactics
import Derived.Deep.DeepCutAuto
namespace Go.Proofs.YtgphdngfbcjmcaaGreatDoor
open Go.RowKit

theorem results_branch2 {fn : Func} {p q : Tmp} (h : fn.results = #[.cell p 65, .tmp q]) (tmps : Array Value) (w : World) (g : Nat) (x y v : Value) (hp : tmps.getD p undef = .pointer (some ⟨g, 0, none⟩)) (hq : tmps.getD q undef = v) (hc : Whole w g 65 #[x, y]) :
    (results fn tmps).run Tryz.prog w = .ok (.tuple #[.agg #[x, y], v]) w := by
  have hp' : tmps[p]?.getD undef = .pointer (some ⟨g, 0, none⟩) := by simpa using hp
  have hq' : tmps[q]?.getD undef = v := by simpa using hq
  have c0 : w.cell? ⟨g, 0, none⟩ = some x := hc.cell 0
  have c1 : w.cell? ⟨g, 1, none⟩ = some y := hc.cell 1
  simp [results, h, hp', hq', asAddr, loadVar, go_sem, c0, c1]
theorem info64 : (Tryz.prog.info? 2).map (fun i => (i.zero, i.size, i.bytes)) = some (some (.int .i64 0), 1, 8) := by kernel_rfl
theorem run_longs (n : Nat) (hn : n ≤ 1000000) (V : World) : (Instr.makeSlice 63 (.int .i64 (n : Nat)) (.int .i64 (n : Nat))).run Tryz.prog V = .ok (.slice (some ⟨V.heap.size, 0, none⟩) n n) (V.alloc (.cells (madeCells #[.int .i64 0] n) 2)) := by
  obtain ⟨j1, hi1, ky0, ky1, ky2⟩ := info_parts info64
  have h := run_make (P := Tryz.prog) V 63 2 j1 (.int .i64 0) Tryz.underlying63 hi1 ky0 .i64 .i64 (n : Int) (n : Int) (by omega) (by omega) (by rw [ky2]; omega) (by omega)
  rw [h, ky1, Int.toNat_natCast, Nat.mul_one]
  rfl
/-- The first j of some numbers, and noughts. -/
def partL (E : List Int) (j : Nat) : List Int := E.take j ++ List.replicate (E.length - j) 0
theorem partL_len (E : List Int) {j : Nat} (h : j ≤ E.length) : (partL E j).length = E.length := by simp [partL]; omega
theorem partL_zero (E : List Int) : partL E 0 = List.replicate E.length 0 := by simp [partL]
theorem partL_all (E : List Int) : partL E E.length = E := by simp [partL]
theorem partL_get (E : List Int) {j : Nat} (hj : j ≤ E.length) (k : Nat) : (partL E j)[k]? = if k < E.length then some (if k < j then E.getD k 0 else 0) else none := by
  unfold partL
  rcases Nat.lt_or_ge k j with h | h
  · rw [List.getElem?_append_left (by rw [List.length_take, Nat.min_eq_left hj]; exact h), List.getElem?_take_of_lt h, if_pos (by omega), if_pos h, List.getElem?_eq_getElem (by omega)]
    simp [List.getD, show k < E.length by omega]
  · rw [List.getElem?_append_right (by rw [List.length_take, Nat.min_eq_left hj]; exact h), List.length_take, List.getElem?_replicate, Nat.min_eq_left hj]
    by_cases hk : k < E.length
    · rw [if_pos (by omega), if_pos hk, if_neg (by omega)]
    · rw [if_neg (by omega), if_neg hk]
theorem partL_put {E : List Int} {j : Nat} (h : j < E.length) : (intCells (partL E j)).toArray.setIfInBounds j (.int .i64 (E.getD j 0)) = (intCells (partL E (j + 1))).toArray := by
  apply Array.ext_getElem?
  intro k
  rw [List.setIfInBounds_toArray, List.getElem?_toArray, List.getElem?_toArray, List.getElem?_set]
  unfold intCells
  rw [List.getElem?_map, List.getElem?_map, partL_get E (by omega), partL_get E (by omega), List.length_map, partL_len E (by omega)]
  by_cases h1 : j = k
  · subst h1
    rw [if_pos rfl, if_pos h, if_pos h, if_pos (by omega)]
    rfl
  · rw [if_neg h1]
    by_cases h2 : k < j
    · rw [if_pos h2, if_pos (show k < j + 1 by omega)]
    · rw [if_neg h2, if_neg (show ¬ k < j + 1 by omega)]
theorem made_zero (n : Nat) : madeCells #[Value.int .i64 0] n = (intCells (List.replicate n 0)).toArray := by
  rw [← Array.toList_inj, toList_madeCells_one]
  simp [intCells]
/-- A made row of long numbers as a row of the call's own. -/
theorem own_longs {w : World} {base g : Nat} {E : List Int} (h : Whole w g 2 (intCells E).toArray) (hb : base ≤ g) (hE : E.length ≤ 1000000) : w.ownsRow base 2 1 (.slice (some ⟨g, 0, none⟩) E.length E.length) E.length (intCells E) := by
  refine ⟨by simp [intCells], Or.inr ⟨g, E.length, _, rfl, hb, h, Nat.le_refl _, by unfold maxLen; omega, by simp [intCells], ?_⟩⟩
  rw [List.toList_toArray, List.take_of_length_le (by simp [intCells])]

/-- What is read of ranks from a place on. -/
def RkRead (w : World) (rb n : Nat) (C : List (List Int)) (i : Nat) : Prop := (∃ Bk : Nat, w.cell? ⟨rb, 0, none⟩ = some (.slice (some ⟨Bk, 0, none⟩) n n)) ∧ (i + 1 < n → RkLev w rb n C i)
theorem RkRead.below {w w' : World} {rb n i : Nat} {C : List (List Int)} (h : RkRead w rb n C i) {B : Nat} (hb : Below B w w') (hB : w.heap.size ≤ B) : RkRead w' rb n C i := by
  obtain ⟨⟨Bk, h1⟩, h2⟩ := h
  exact ⟨⟨Bk, cell_below h1 hb hB⟩, fun hi => (h2 hi).below hb hB⟩
/-- A branch while its ends are reckoned. -/
def BrAt (w : World) (vt : Value) (m : Nat) (E : List Int) (j : Nat) (wr : World) : Prop :=
  Whole wr w.heap.size 65 #[.slice none 0 0, .slice none 0 0] ∧ Whole wr (w.heap.size + 1) 2 (intCells (partL E j)).toArray ∧ Whole wr (w.heap.size + 1 + 1) 65 #[vt, .slice (some ⟨w.heap.size + 1, 0, none⟩) m m] ∧ Below w.heap.size w wr
/-- What branch tells. -/
def BrTo (w : World) (vt : Value) (E : List Int) (e : Ending) (w' : World) : Prop := ∃ ends, e = .returned (.tuple #[.agg #[vt, ends], .nilIface]) ∧ w'.ownsRow w.heap.size 2 1 ends E.length (intCells E) ∧ Below w.heap.size w w'
set_option maxRecDepth 100000 in
set_option maxHeartbeats 4000000 in
theorem branch_any {w : World} {rb n i : Nat} {C : List (List Int)} (hrd : RkRead w rb n C i) (hn : n ≤ 8) (hi : i < n) (hC : C.length ≤ 100000) {vt : Value} {L : List Int} (hL : SeqV w vt L) (hLl : L.length ≤ 100000) (hsub : ∀ a ∈ L, a ∈ rowP C i)
    (hsum : (L.map (cntP C (n - 1 - i) i)).sum ≤ 9223372036854775807) :
    Calls Tryz.prog 26 #[.pointer (some ⟨rb, 0, none⟩), .int .i64 i, vt] w (BrTo w vt (endsL (cntP C (n - 1 - i) i) L)) := by
  obtain ⟨f, hf⟩ : ∃ f, cntP C (n - 1 - i) i = f := ⟨_, rfl⟩
  rw [hf] at hsum ⊢
  obtain ⟨A, c, rfl⟩ := IntsV.form hL
  obtain ⟨m, hm⟩ : ∃ m, L.length = m := ⟨_, rfl⟩
  obtain ⟨E, hE⟩ : ∃ E, endsL f L = E := ⟨_, rfl⟩
  have hEl : E.length = m := by rw [← hE, endsL_len, hm]
  rw [hE]
  rw [hm] at hL hLl ⊢
  obtain ⟨w1, hw1⟩ : ∃ W, ((w.alloc (.cells #[.slice none 0 0, .slice none 0 0] 65)).alloc (.cells (madeCells #[.int .i64 0] m) 2)).alloc (.cells #[.slice A m c, .slice (some ⟨w.heap.size + 1, 0, none⟩) m m] 65) = W := ⟨_, rfl⟩
  have hst : BrAt w (.slice A m c) m E 0 w1 := by
    rw [← hw1]
    refine ⟨((Whole.new _ _ _).alloc _).alloc _, ?_, ?_, (((Below.refl _ _).alloc (Nat.le_refl _) _).alloc (by simp) _).alloc (by simp; omega) _⟩
    · rw [partL_zero, hEl, ← made_zero]
      have := Whole.new (w.alloc (.cells #[.slice none 0 0, .slice none 0 0] 65)) 2 (madeCells #[.int .i64 0] m)
      rw [World.size_alloc] at this
      exact this.alloc _
    · have := Whole.new ((w.alloc (.cells #[.slice none 0 0, .slice none 0 0] 65)).alloc (.cells (madeCells #[.int .i64 0] m) 2)) 65 #[.slice A m c, .slice (some ⟨w.heap.size + 1, 0, none⟩) m m]
      rw [World.size_alloc, World.size_alloc] at this
      exact this
  have HST := Lib.hid hst; have HW1 := Lib.hid hw1; have HRD := Lib.hid hrd; have HL := Lib.hid hL; have HM := Lib.hid hm; have HE := Lib.hid hE; have HEL := Lib.hid hEl; have HSUB := Lib.hid hsub; have HSUM := Lib.hid hsum; have HF := Lib.hid hf; have HCL := Lib.hid hC
  have hmk := fun V => run_longs m (by omega) V
  have hn8 : (n : Int) ≤ 8 := by omega
  have i1 : (i : Int) < n := by omega
  have i2 : (0 : Int) ≤ i := by omega
  have HI := Lib.hid hi
  clear hst hw1 hrd hL hm hE hEl hsub hsum hf hi hn hC
  go_enter Tryz.func26, Tryz.ntmps26
  go_wp2_with fail
  rw [HW1.out]
  clear hmk
  go_loopg [9, 22] m (fun gh ev yv wr => ∃ j, j ≤ m ∧ gh = m - j ∧ ev = .int .i64 (((L.take j).map f).sum : Nat) ∧ yv = .int .i64 (j : Nat) ∧ BrAt w (.slice A m c) m E j wr)
  case atStart => exact ⟨0, Nat.zero_le _, rfl, by simp, rfl, HST.out⟩
  case round =>
    obtain ⟨j, hj, rfl, rfl, rfl, h6, h7, h8, hB⟩ := hrel
    by_cases hlt : j < m
    · have hjL : j < L.length := by rw [HM.out]; exact hlt
      obtain ⟨b, off, rfl, ca⟩ := SeqV.pos (HL.out.below hB (Nat.le_refl _)) hjL
      obtain ⟨a, ha⟩ : ∃ a, L.getD j 0 = a := ⟨_, rfl⟩
      rw [ha] at ca
      have haL : a ∈ L := by rw [← ha]; simp [List.getD, hjL]
      have haR := HSUB.out a haL
      have hsj := sum_take_succ f hjL
      rw [ha] at hsj
      have hle := sum_take_le f L (j + 1)
      have hsm := HSUM.out
      obtain ⟨s, hs⟩ : ∃ s, ((L.take j).map f).sum = s := ⟨_, rfl⟩
      obtain ⟨s1, hs1⟩ : ∃ s, ((L.take (j + 1)).map f).sum = s := ⟨_, rfl⟩
      rw [hs, hs1] at hsj
      rw [hs1] at hle
      rw [hs]
      have hEj : E.getD j 0 = (s1 : Int) := by rw [← HE.out, endsL_at f L hjL, hs1]
      obtain ⟨⟨Bk, crr⟩, hlev⟩ := HRD.out.below hB (Nat.le_refl _)
      have t3 : decide (j < m) = true := decide_eq_true hlt
      have j1 : (j : Int) < m := by omega
      have j2 : (0 : Int) ≤ j := by omega
      have hsI : (s : Int) + (f a : Nat) = (s1 : Nat) := by omega
      have hs1b : (s1 : Int) ≤ 9223372036854775807 := by omega
      have AD := fun W => add_ok (s : Nat) (f a : Nat) W (by omega) (by omega) (by omega) (by omega) (by omega) (by omega)
      rw [hsI] at AD
      have HAD := Lib.hid AD; have H6 := Lib.hid h6; have H7 := Lib.hid h7; have H8 := Lib.hid h8; have HB := Lib.hid hB; have HLT := Lib.hid hlt; have HEJ := Lib.hid hEj; have HS1 := Lib.hid hs1
      have hjE : Hid (j < E.length) := Lib.hid (by rw [HEL.out]; exact hlt)
      have hfa : i + 1 < n → lastE (nxE n C i a) = (f a : Nat) := fun hin => by rw [lastE_nx C hin, HF.out]
      have HFA := Lib.hid hfa; have HLEV := Lib.hid hlev
      have HF1 : ¬ i + 1 < n → f a = 1 := fun h => by
        rw [← HF.out, show n - 1 - i = 0 by have := HI.out; omega]
        rfl
      have HF1 := Lib.hid HF1
      clear hlt hjL ha haL hsj hle hsm hs hs1 hEj hlev hsI hs1b AD h6 h7 h8 hB hfa
      have hcase : (decide ((i : Int) < (n : Int) - 1) = true ∧ i + 1 < n) ∨ (decide ((i : Int) < (n : Int) - 1) = false ∧ ¬ i + 1 < n) := by
        by_cases h : i + 1 < n
        · exact Or.inl ⟨decide_eq_true (by omega), h⟩
        · exact Or.inr ⟨decide_eq_false (by omega), h⟩
      rcases hcase with ⟨t4, hin⟩ | ⟨t4, hin⟩
      · have BH := Lib.hid (behind_any (HLEV.out hin) HI.out HCL.out haR)
        have HL9 := Lib.hid (HFA.out hin)
        have HNL : Hid ((nxE n C i a).length ≤ 1000000) := Lib.hid (by rw [nxE_len]; have := nxt_len n C i a; have := HCL.out; omega)
        clear hin haR
        go_wp2_with fail
        refine BH.out.mono ?_; rintro e w2 ⟨tt, ends, rfl, htt, hee, hb2⟩
        have TOT := Lib.hid (total_any (vt := tt) hee HNL.out)
        have HB2 := Lib.hid hb2
        rw [HL9.out] at TOT
        clear htt hee hb2
        go_wp2_with fail
        refine TOT.out.mono ?_; rintro e w3 ⟨rfl, hb3⟩
        have HB3 := Lib.hid (HB2.out.trans (hb3.mono HB2.out.size))
        clear hb3
        have H63 := Lib.hid (H6.out.below HB3.out H6.out.lt); have H73 := Lib.hid (H7.out.below HB3.out H7.out.lt); have H83 := Lib.hid (H8.out.below HB3.out H8.out.lt); have HBW := Lib.hid (HB.out.trans (HB3.out.mono HB.out.size))
        have AD3 := Lib.hid (HAD.out w3)
        clear ca crr
        go_wp2_with fail
        refine AD3.out.mono ?_; rintro e w4 ⟨rfl, hw4⟩; obtain rfl := hw4
        have c8 : w3.cell? ⟨w.heap.size + 1 + 1, 1, none⟩ = some (.slice (some ⟨w.heap.size + 1, 0, none⟩) m m) := H83.out.cell 1
        have hbl := H73.out.lt
        have f7 := H73.out.free j
        obtain ⟨z7, c7⟩ : ∃ z7, w3.cell? ⟨w.heap.size + 1, j, none⟩ = some z7 := by
          have hz : j < (intCells (partL E j)).toArray.size := by
            rw [List.size_toArray]
            unfold intCells
            rw [List.length_map, partL_len E (Nat.le_of_lt hjE.out)]
            exact hjE.out
          exact ⟨(intCells (partL E j)).toArray[j], by rw [H73.out.cell j]; exact Array.getElem?_eq_getElem hz⟩
        have hp := H73.out.put j (.int .i64 (s1 : Nat))
        rw [← HEJ.out, partL_put hjE.out] at hp
        have hfin : BrAt w (.slice (some ⟨b, off, none⟩) m c) m E (j + 1) (w3.drew.setCell ⟨w.heap.size + 1, j, none⟩ (.int .i64 (s1 : Nat))) := by
          rw [← HEJ.out]
          exact ⟨(H63.out.drewN 1).other (p := ⟨w.heap.size + 1, j, none⟩) (by show w.heap.size ≠ w.heap.size + 1; omega) _, hp, (H83.out.drewN 1).other (p := ⟨w.heap.size + 1, j, none⟩) (by show w.heap.size + 1 + 1 ≠ w.heap.size + 1; omega) _, (below_drewN' HBW.out 1).setCell (by show w.heap.size ≤ w.heap.size + 1; omega) _⟩
        have HFIN := Lib.hid hfin
        clear hp hfin
        go_wp2_with fail
        refine wp_region_still_tail 7 (by kernel_rfl) (by kernel_rfl) ?_
        simp only [List.take_succ_cons, List.take_zero, List.drop_succ_cons, List.drop_zero]
        change wpStill _ _ (World.drew _) _ _ _
        repeat still_step
        refine wpStill_nil ?_
        change wpList _ _ _ _ _ (World.drew _)
        go_wp2_with fail
        clear c8 f7 c7
        go_roundg (m - (j + 1))
        case rel => exact ⟨j + 1, HLT.out, rfl, by rw [HS1.out], by go_num, HFIN.out⟩
        case measure => have := HLT.out; omega
      · obtain ⟨w3, hw3⟩ : ∃ W, W = wr := ⟨_, rfl⟩
        subst hw3
        have HFA1 := Lib.hid (HF1.out hin)
        have HB3 := Lib.hid (Below.refl w3.heap.size w3)
        rw [show ((f a : Nat) : Int) = 1 by rw [HFA1.out]; rfl] at HAD
        clear hin haR
        have H63 := Lib.hid (H6.out.below HB3.out H6.out.lt); have H73 := Lib.hid (H7.out.below HB3.out H7.out.lt); have H83 := Lib.hid (H8.out.below HB3.out H8.out.lt); have HBW := Lib.hid (HB.out.trans (HB3.out.mono HB.out.size))
        have AD3 := Lib.hid (HAD.out w3)
        go_wp2_with fail
        refine AD3.out.mono ?_; rintro e w4 ⟨rfl, hw4⟩; obtain rfl := hw4
        have c8 : w3.cell? ⟨w.heap.size + 1 + 1, 1, none⟩ = some (.slice (some ⟨w.heap.size + 1, 0, none⟩) m m) := H83.out.cell 1
        have hbl := H73.out.lt
        have f7 := H73.out.free j
        obtain ⟨z7, c7⟩ : ∃ z7, w3.cell? ⟨w.heap.size + 1, j, none⟩ = some z7 := by
          have hz : j < (intCells (partL E j)).toArray.size := by
            rw [List.size_toArray]
            unfold intCells
            rw [List.length_map, partL_len E (Nat.le_of_lt hjE.out)]
            exact hjE.out
          exact ⟨(intCells (partL E j)).toArray[j], by rw [H73.out.cell j]; exact Array.getElem?_eq_getElem hz⟩
        have hp := H73.out.put j (.int .i64 (s1 : Nat))
        rw [← HEJ.out, partL_put hjE.out] at hp
        have hfin : BrAt w (.slice (some ⟨b, off, none⟩) m c) m E (j + 1) (w3.drew.setCell ⟨w.heap.size + 1, j, none⟩ (.int .i64 (s1 : Nat))) := by
          rw [← HEJ.out]
          exact ⟨(H63.out.drewN 1).other (p := ⟨w.heap.size + 1, j, none⟩) (by show w.heap.size ≠ w.heap.size + 1; omega) _, hp, (H83.out.drewN 1).other (p := ⟨w.heap.size + 1, j, none⟩) (by show w.heap.size + 1 + 1 ≠ w.heap.size + 1; omega) _, (below_drewN' HBW.out 1).setCell (by show w.heap.size ≤ w.heap.size + 1; omega) _⟩
        have HFIN := Lib.hid hfin
        clear hp hfin
        go_wp2_with fail
        refine wp_region_still_tail 7 (by kernel_rfl) (by kernel_rfl) ?_
        simp only [List.take_succ_cons, List.take_zero, List.drop_succ_cons, List.drop_zero]
        change wpStill _ _ (World.drew _) _ _ _
        repeat still_step
        refine wpStill_nil ?_
        change wpList _ _ _ _ _ (World.drew _)
        go_wp2_with fail
        clear c8 f7 c7
        go_roundg (m - (j + 1))
        case rel => exact ⟨j + 1, HLT.out, rfl, by rw [HS1.out], by go_num, HFIN.out⟩
        case measure => have := HLT.out; omega
    · obtain rfl : j = m := by omega
      have t3 : decide (j < j) = false := by simp
      have hall : partL E j = E := by rw [← HEL.out, partL_all]
      rw [hall] at h7
      have c8 : wr.cell? ⟨w.heap.size + 1 + 1, 1, none⟩ = some (.slice (some ⟨w.heap.size + 1, 0, none⟩) j j) := h8.cell 1
      have c9 : wr.cell? ⟨w.heap.size + 1 + 1, 0, none⟩ = some (.slice A j c) := h8.cell 0
      have b0 : wr.cell? ⟨w.heap.size, 0, none⟩ = some (.slice none 0 0) := h6.cell 0
      have b1 : wr.cell? ⟨w.heap.size, 1, none⟩ = some (.slice none 0 0) := h6.cell 1
      have f0 := h6.free 0
      have f1 := h6.free 1
      have hbl := h6.lt
      have hres : Whole ((wr.setCell ⟨w.heap.size, 0, none⟩ (.slice A j c)).setCell ⟨w.heap.size, 1, none⟩ (.slice (some ⟨w.heap.size + 1, 0, none⟩) j j)) w.heap.size 65 #[.slice A j c, .slice (some ⟨w.heap.size + 1, 0, none⟩) j j] := (h6.put 0 _).put 1 _
      have h7f : Whole ((wr.setCell ⟨w.heap.size, 0, none⟩ (.slice A j c)).setCell ⟨w.heap.size, 1, none⟩ (.slice (some ⟨w.heap.size + 1, 0, none⟩) j j)) (w.heap.size + 1) 2 (intCells E).toArray := (h7.other (by show w.heap.size + 1 ≠ w.heap.size; omega) _).other (by show w.heap.size + 1 ≠ w.heap.size; omega) _
      have hbf : Below w.heap.size w ((wr.setCell ⟨w.heap.size, 0, none⟩ (.slice A j c)).setCell ⟨w.heap.size, 1, none⟩ (.slice (some ⟨w.heap.size + 1, 0, none⟩) j j)) := (hB.setCell (by simp) _).setCell (by simp) _
      have hown := own_longs (base := w.heap.size) h7f (by omega) (by rw [HEL.out]; omega)
      rw [HEL.out] at hown
      have HRES := Lib.hid hres; have HBF := Lib.hid hbf; have HOWN := Lib.hid hown
      clear h6 h7 h8 hB hres h7f hbf hown hall hlt
      go_wp2_with fail
      exact bodyPost_ret (results_branch2 rfl _ _ _ _ _ _ rfl rfl HRES.out) rfl ⟨_, rfl, by rw [HEL.out]; exact HOWN.out, HBF.out⟩
end Go.Proofs.YtgphdngfbcjmcaaGreatDoor
