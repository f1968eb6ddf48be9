/- pat: Make, where nothing is wrong. -/
import Derived.Test.YtgolcogigpnbeaaGreatDoorSortP
import Derived.Test.YtgolcogigpnbeaaGreatDoorPat8
import Derived.Test.YtgolcogigpnbeaaGreatDoorPat6
import Derived.Test.YtgolcogigpnbeaaGreatDoorGlob
namespace Go.Proofs.YtgolcogigpnbeaaGreatDoor
open Go.RowKit

theorem Tryz.infoAE : (Tryz.prog.info? 62).map (fun i => (i.zero, i.size, i.bytes)) = some (some (.agg #[.int .i64 0, .int .i64 0]), 2, 16) := by kernel_rfl
/-- Two results, of which the first is a pattern that lies in a box. -/
theorem results_pat {fn : Func} {p q : Tmp} (h : fn.results = #[.cell p 31, .tmp q]) (tmps : Array Value) (w : World) (g : Nat) (x y c : Value) (hp : tmps.getD p undef = .pointer (some ⟨g, 0, none⟩)) (hq : tmps.getD q undef = c) (hc : Whole w g 31 #[x, y]) :
    (results fn tmps).run Tryz.prog w = .ok (.tuple #[.agg #[x, y], c]) w := by
  have hp' : tmps[p]?.getD undef = .pointer (some ⟨g, 0, none⟩) := by simpa using hp
  have hq' : tmps[q]?.getD undef = c := by simpa using hq
  have c0 : w.cell? ⟨g, 0, none⟩ = some x := hc.cell 0
  have c1 : w.cell? ⟨g, 1, none⟩ = some y := hc.cell 1
  simp [results, h, hp', hq', asAddr, loadVar, go_sem, c0, c1]
theorem own_base {w : World} {b b' e s n : Nat} {v : Value} {xs : List Value} (h : w.ownsRow b e s v n xs) (hb : b' ≤ b) : w.ownsRow b' e s v n xs := by
  refine ⟨h.1, ?_⟩
  rcases h.2 with h1 | ⟨g, cap, cur, h1, h2, h3⟩
  · exact Or.inl h1
  · exact Or.inr ⟨g, cap, cur, h1, by omega, h3⟩
/-- A pattern in memory of the call's own. -/
def PatOwn (B : Nat) (w : World) (v : Value) (L : List Int) (E : List (Int × Int)) : Prop := ∃ vl ve, v = .agg #[vl, ve] ∧ w.ownsRow B 3 1 vl L.length (intCells L) ∧ w.ownsRow B 62 2 ve E.length (eL E)
theorem sortE_len {E : List (Int × Int)} : (sortE E).length = E.length := by
  have := (sortE_perm _ E rfl).length_eq
  simpa using this

set_option maxRecDepth 100000 in
set_option maxHeartbeats 4000000 in
theorem make_good {w : World} {vl ve : Value} {L : List Int} {E : List (Int × Int)} (hl : SeqV w vl L) (he : EdgesV w ve E) (k1 : 0 < L.length) (k2 : 0 < E.length) (k3 : E.length ≤ 10000) (hlab : labF L = none)
    (hin : ∀ e ∈ E, 0 ≤ e.1 ∧ 0 ≤ e.2 ∧ e.1 < (L.length : Int) ∧ e.2 < (L.length : Int) ∧ e.1 ≠ e.2) (hnd : (E.map ris).Nodup) :
    Calls Tryz.prog 29 #[vl, ve] w fun e w' => Below w.heap.size w w' ∧ ∃ v, e = .returned (.tuple #[v, .nilIface]) ∧ PatOwn w.heap.size w' v L (sortE E) := by
  obtain ⟨j0, hj0, hz0, hz1, hz2⟩ := info_parts Tryz.infoAE
  obtain ⟨Al, cl, rfl⟩ := IntsV.form hl
  obtain ⟨Ae, ce, rfl⟩ := he.form
  obtain ⟨n, hn⟩ : ∃ n, L.length = n := ⟨_, rfl⟩
  obtain ⟨m, hm⟩ : ∃ m, E.length = m := ⟨_, rfl⟩
  have hb1 : Below w.heap.size w (w.alloc (.cells #[.slice none 0 0, .slice none 0 0] 31)) := (Below.refl _ _).alloc (Nat.le_refl _) _
  have hx := Whole.new w 31 #[.slice none 0 0, .slice none 0 0]
  obtain ⟨w1, hw1⟩ : ∃ W, w.alloc (.cells #[.slice none 0 0, .slice none 0 0] 31) = W := ⟨_, rfl⟩
  obtain ⟨pb, hpb⟩ : ∃ g, w.heap.size = g := ⟨_, rfl⟩
  rw [hw1] at hb1 hx
  rw [hpb] at hx
  have hll := labF_none.1 hlab
  have CL := checkLabels_any (hl.below hb1 (Nat.le_refl _)) hn (by omega)
  rw [hn] at k1 CL hin hl ⊢
  rw [hm] at k2 k3 he ⊢
  have HL := Lib.hid hl; have HE := Lib.hid he; have HN := Lib.hid hn; have HM := Lib.hid hm; have HB1 := Lib.hid hb1; have HX := Lib.hid hx; have HW1 := Lib.hid hw1; have HPB := Lib.hid hpb; have HCL := Lib.hid CL; have HLAB := Lib.hid hlab; have HIN := Lib.hid hin; have HND := Lib.hid hnd; have HLL := Lib.hid hll
  clear hl he hn hm hb1 hx hw1 hpb CL hlab hin hnd hll
  go_enter Tryz.func29, Tryz.ntmps29
  go_upto_region 1 with fail
  rw [HW1.out, HPB.out]
  go_wp2_with fail
  refine HCL.out.mono ?_; rintro e w2 hto
  obtain ⟨rfl, hb2⟩ := hto.nil HLAB.out
  have HX2 := Lib.hid (HX.out.below hb2 HX.out.lt); have HB2 := Lib.hid (HB1.out.trans (hb2.mono HB1.out.size))
  clear hto hb2
  go_wp2_with fail
  go_loopg [7, 20] m (fun g rv y wr => ∃ k, k ≤ m ∧ g = m - k ∧ y = .int .i64 (k : Nat) ∧ wr.ownsRow w.heap.size 62 2 rv k (eL ((E.take k).map ris)) ∧ Below w.heap.size w wr ∧ Whole wr pb 31 #[.slice none 0 0, .slice none 0 0])
  case atStart => exact ⟨0, Nat.zero_le _, rfl, rfl, World.ownsRow_nil _ _ _ 2, HB2.out, HX2.out⟩
  case round =>
    obtain ⟨k, hk, rfl, rfl, hown, hB, hX⟩ := hrel
    obtain ⟨A, c, rfl⟩ := own_form hown
    by_cases hlt : k < m
    · have hkE : k < E.length := by rw [HM.out]; exact hlt
      obtain ⟨b, off, rfl, d0, d1⟩ := (HE.out.below hB (Nat.le_refl _)).pos (i := k) hkE
      obtain ⟨x, hx⟩ : ∃ x, E.getD k (0, 0) = x := ⟨_, rfl⟩
      have hi := HIN.out _ (getD_memE hkE)
      rw [hx] at d0 d1 hi
      obtain ⟨a, q⟩ := x
      simp only at d0 d1 hi
      have hnot : ((min a q, max a q) ∈ (E.take k).map ris) ↔ False := by
        refine ⟨fun h => ?_, False.elim⟩
        have hs : E.map ris = (E.take k).map ris ++ ris (a, q) :: (E.drop (k + 1)).map ris := by
          conv => lhs; rw [← List.take_append_drop k E, List.drop_eq_getElem_cons hkE, ← getD_at hkE, hx]
          simp
        have := HND.out
        rw [hs, List.nodup_append] at this
        exact this.2.2 _ h (ris (a, q)) (List.mem_cons_self ..) rfl
      have t3 : decide (k < m) = true := decide_eq_true hlt
      have j1 : (k : Int) < m := by omega
      have j2 : (0 : Int) ≤ k := by omega
      have t4 : (a == q) = false := by simpa using hi.2.2.2.2
      have hb3 : Below w.heap.size w (wr.alloc (.cells #[.int .i64 a, .int .i64 q] 62)) := hB.alloc hB.size _
      have hG3 := Whole.new wr 62 #[.int .i64 a, .int .i64 q]
      have hX3 := hX.alloc (.cells #[.int .i64 a, .int .i64 q] 62)
      have hO3 := hown.alloc (.cells #[.int .i64 a, .int .i64 q] 62)
      obtain ⟨w3, hw3⟩ : ∃ W, wr.alloc (.cells #[.int .i64 a, .int .i64 q] 62) = W := ⟨_, rfl⟩
      obtain ⟨gb, hgb⟩ : ∃ g, wr.heap.size = g := ⟨_, rfl⟩
      rw [hw3] at hb3 hG3 hX3 hO3
      rw [hgb] at hG3
      have e0 : w3.cell? ⟨gb, 0, none⟩ = some (.int .i64 a) := hG3.cell 0
      have e1 : w3.cell? ⟨gb, 1, none⟩ = some (.int .i64 q) := hG3.cell 1
      have HRI := Lib.hid (fun W => rising_any a q W)
      have hTK : eL ((E.take (k + 1)).map ris) = eL ((E.take k).map ris) ++ eL [(min a q, max a q)] := by
        rw [List.take_succ_eq_append_getElem hkE, ← getD_at hkE, hx, List.map_append, eL_app]; rfl
      have hTL : ((E.take k).map ris).length = k := by rw [List.length_map, List.length_take]; omega
      have HCE := Lib.hid (fun W => checkEdge_any (n : Int) (k : Int) a q false W)
      have HEF : Hid (edgeF n k a q false = none) := Lib.hid (edgeF_none.2 ⟨hi.1, hi.2.1, hi.2.2.1, hi.2.2.2.1, rfl⟩)
      have HW3 := Lib.hid hw3; have HGB := Lib.hid hgb; have HB3 := Lib.hid hb3; have HG3 := Lib.hid hG3; have HX3 := Lib.hid hX3; have HO3 := Lib.hid hO3; have HLT := Lib.hid hlt; have HNOT := Lib.hid hnot; have HTK := Lib.hid hTK; have HTL := Lib.hid hTL
      clear hkE hx hi hnot hb3 hG3 hX3 hO3 hw3 hgb hlt hTK hTL hown hB hX
      go_upto_region 8 with fail
      rw [HW3.out, HGB.out]
      go_wp2_with fail
      refine (HRI.out w3).mono ?_; rintro e w4 ⟨rfl, hb4⟩
      have hO4 := own_below HO3.out hb4 (Nat.le_refl _)
      have CT := contains_any ((E.take k).map ris) _ (min a q) (max a q) w4 (own_edges hO4) (by rw [HTL.out]; omega)
      rw [decide_eq_false HNOT.out.1] at CT
      have HCT := Lib.hid CT
      have hB4 := HB3.out.trans (hb4.mono HB3.out.size)
      have HG4 := Lib.hid (HG3.out.below hb4 HG3.out.lt); have HX4 := Lib.hid (HX3.out.below hb4 HX3.out.lt); have HO4 := Lib.hid hO4; have HB4 := Lib.hid hB4
      clear hO4 CT hB4 hb4
      go_wp2_with fail
      refine HCT.out.mono ?_; rintro e w5 ⟨rfl, hb5⟩
      have hG5 := HG4.out.below hb5 HG4.out.lt
      have g0 : w5.cell? ⟨gb, 0, none⟩ = some (.int .i64 a) := hG5.cell 0
      have g1 : w5.cell? ⟨gb, 1, none⟩ = some (.int .i64 q) := hG5.cell 1
      have HG5 := Lib.hid hG5; have HX5 := Lib.hid (HX4.out.below hb5 HX4.out.lt); have HO5 := Lib.hid (own_below HO4.out hb5 (Nat.le_refl _)); have HB5 := Lib.hid (HB4.out.trans (hb5.mono HB4.out.size))
      clear hb5 hG5
      go_wp2_with fail
      refine (HCE.out w5).mono ?_; rintro e w6 hto
      obtain ⟨rfl, hb6⟩ := hto.nil HEF.out
      have hG6 := HG5.out.below hb6 HG5.out.lt
      have g2 : w6.cell? ⟨gb, 0, none⟩ = some (.int .i64 a) := hG6.cell 0
      have g3 : w6.cell? ⟨gb, 1, none⟩ = some (.int .i64 q) := hG6.cell 1
      have HX6 := Lib.hid (HX5.out.below hb6 HX5.out.lt); have HO6 := Lib.hid (own_below HO5.out hb6 (Nat.le_refl _)); have HB6 := Lib.hid (HB5.out.trans (hb6.mono HB5.out.size))
      clear hto hb6 hG6
      go_wp2_with fail
      refine (HRI.out w6).mono ?_; rintro e w7 ⟨rfl, hb7⟩
      have hO7 := own_below HO6.out hb7 (Nat.le_refl _)
      have hB7 := HB6.out.trans (hb7.mono HB6.out.size)
      have hX7 := HX6.out.below hb7 HX6.out.lt
      have hb8 : Below w.heap.size w (w7.alloc (.cells #[.int .i64 (min a q), .int .i64 (max a q)] 62)) := hB7.alloc hB7.size _
      have hs8 := hb8.size
      have HB8 := Lib.hid hb8
      have HO8 := Lib.hid (hO7.alloc (.cells #[.int .i64 (min a q), .int .i64 (max a q)] 62))
      have HX8 := Lib.hid (hX7.alloc (.cells #[.int .i64 (min a q), .int .i64 (max a q)] 62))
      have HN8 := Lib.hid (edges_new w7 62 (min a q) (max a q) 1)
      clear hO7 hB7 hX7 hb8 hb7
      go_wp2_with (at_builtin; refine wpList_appEdges _ rfl _ _ 29 62 rfl w.heap.size j0 (.agg #[.int .i64 0, .int .i64 0]) Tryz.underlying29 hj0 hz0 rfl hz1 hz2 _ k _ rfl HO8.out _ [(min a q, max a q)] rfl HN8.out (by simp; omega) hs8 ?_)
      intro A3 c3 w9 hown3 hgrow3
      have HB9 := Lib.hid (hgrow3.below HO8.out HB8.out (Nat.le_refl _) hs8)
      have HX9 := Lib.hid (hgrow3.whole HX8.out HO8.out (by decide))
      have HO9 := Lib.hid hown3
      clear hown3 hgrow3
      go_wp2_with fail
      go_roundg (m - (k + 1))
      case rel => exact ⟨k + 1, HLT.out, rfl, by go_num, by rw [HTK.out, List.map_take]; exact HO9.out, HB9.out, HX9.out⟩
      case measure => have := HLT.out; omega
    · obtain rfl : k = m := by omega
      have t3 : decide (k < k) = false := by simp
      rw [List.take_of_length_le (by rw [HM.out]; omega)] at hown
      obtain ⟨g, rfl, hgl⟩ : ∃ g, A = some ⟨g, 0, none⟩ ∧ w.heap.size ≤ g := by
        rcases hown.2 with ⟨h1, h2⟩ | ⟨g, c', cur, h1, h2, _⟩
        · omega
        · injection h1 with a1 a2 a3
          exact ⟨g, a1, h2⟩
      have HSO := Lib.hid (sort_own (E.map ris) g k c w.heap.size wr (by rw [List.length_map, HM.out]) (by omega) hown)
      have hne : some pb ≠ some g := fun e => by
        injection e with e
        have h1 : (Value.slice (some ⟨g, 0, none⟩) k c).ownBlock = some g := rfl
        exact own_ne hown hX (by decide) (by rw [h1, e])
      have HNE := Lib.hid hne; have HB := Lib.hid hB; have HX := Lib.hid hX; have HGL := Lib.hid hgl
      clear hown hne hB hX hlt hgl
      go_wp2_with fail
      refine HSO.out.mono ?_
      rintro e w4 ⟨rfl, D, hp, hs, ho4, hg4⟩
      obtain rfl := sorted_eq HND.out hp hs
      have hB4 : Below w.heap.size w w4 := HB.out.grown hg4 HB.out.size (fun k' h => by injection h with h; rw [← h]; exact HGL.out)
      have hX4 := HX.out.grown hg4 HNE.out
      have hsq : IntsV w4 (.slice Al n cl) n (fun i => L.getD i 0) := by
        have h := HL.out.below hB4 (Nat.le_refl _)
        unfold SeqV at h
        rw [HN.out] at h
        exact h
      obtain ⟨b, off, rfl, hc⟩ := IntsV.pos hsq k1
      have CLN := Tryz.slices_Clone_int b off n cl L w4 (by rw [HN.out]; omega) (by have := HLL.out.1; rw [HN.out] at this; omega) (fun j hj => hc j (by rw [← HN.out]; exact hj))
      rw [List.take_of_length_le (by rw [HN.out]; omega)] at CLN
      have HCLN := Lib.hid CLN
      have HB4 := Lib.hid hB4; have HX4 := Lib.hid hX4; have HO4 := Lib.hid ho4
      clear hp hs ho4 hg4 hB4 hX4 hc CLN hsq
      go_wp2_with fail
      refine HCLN.out.mono ?_; rintro e w5 ⟨v5, rfl, ho5, _, hb5⟩
      obtain ⟨A5, c5, rfl⟩ := own_form ho5
      have hX5 := HX4.out.below hb5 HX4.out.lt
      have p0 : w5.cell? ⟨pb, 0, none⟩ = some (.slice none 0 0) := hX5.cell 0
      have p1 : w5.cell? ⟨pb, 1, none⟩ = some (.slice none 0 0) := hX5.cell 1
      have f0 := hX5.free 0
      have f1 := hX5.free 1
      have hB5 := HB4.out.trans (hb5.mono HB4.out.size)
      have hO5 := own_below HO4.out hb5 (Nat.le_refl _)
      have hL5 : w5.ownsRow w.heap.size 3 1 (.slice A5 n c5) n (intCells L) := own_base ho5 HB4.out.size
      have hpl : pb = w.heap.size := HPB.out.symm
      have HFIN : Hid (Below w.heap.size w ((w5.setCell ⟨pb, 0, none⟩ (.slice A5 n c5)).setCell ⟨pb, 1, none⟩ (.slice (some ⟨g, 0, none⟩) k c)) ∧ Whole ((w5.setCell ⟨pb, 0, none⟩ (.slice A5 n c5)).setCell ⟨pb, 1, none⟩ (.slice (some ⟨g, 0, none⟩) k c)) pb 31 #[.slice A5 n c5, .slice (some ⟨g, 0, none⟩) k c] ∧ PatOwn w.heap.size ((w5.setCell ⟨pb, 0, none⟩ (.slice A5 n c5)).setCell ⟨pb, 1, none⟩ (.slice (some ⟨g, 0, none⟩) k c)) (.agg #[.slice A5 n c5, .slice (some ⟨g, 0, none⟩) k c]) L (sortE E)) := by
        refine Lib.hid ⟨(hB5.setCell (p := ⟨pb, 0, none⟩) (by show w.heap.size ≤ pb; omega) _).setCell (p := ⟨pb, 1, none⟩) (by show w.heap.size ≤ pb; omega) _, (hX5.put 0 _).put 1 _, _, _, rfl, ?_, ?_⟩
        · rw [HN.out]
          exact own_put (own_put hL5 (p := ⟨pb, 0, none⟩) (fun e => own_ne hL5 hX5 (by decide) e) _) (p := ⟨pb, 1, none⟩) (fun e => own_ne hL5 hX5 (by decide) e) _
        · rw [sortE_len, HM.out]
          exact own_put (own_put hO5 (p := ⟨pb, 0, none⟩) (fun e => own_ne hO5 hX5 (by decide) e) _) (p := ⟨pb, 1, none⟩) (fun e => own_ne hO5 hX5 (by decide) e) _
      clear ho5 hb5 hX5 hB5 hO5 hL5 hpl
      go_wp2_with fail
      exact bodyPost_ret (results_pat rfl _ _ pb _ _ _ rfl rfl HFIN.out.2.1) rfl ⟨HFIN.out.1, _, rfl, HFIN.out.2.2⟩
end Go.Proofs.YtgolcogigpnbeaaGreatDoor
