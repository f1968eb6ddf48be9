/- VertParts: the law. -/
import Derived.Test.YtploaffmhemjkaaGrow
import Derived.Test.YtploaffmhemjkaaBeginsLaw
import Derived.Test.YtploaffmhemjkaaArg4
import Derived.BigQuiet
import Derived.Deep.RegionHeld3
import Derived.Deep.DrawnRows
import Derived.Deep.CutBlock
import Derived.Deep.AppendLies
namespace Go.Proofs.Ytploaffmhemjkaa
open Go.RowKit

theorem lk_snoc {n : Nat} {b : Int → Int → Bool} {l : List Int} {v : Int} (h : lkTo n b l l.length = true) (hv : hasV n v = true) (hn : v ∉ l) (hb : l = [] ∨ bes b l v = true) : lkTo n b (l ++ [v]) (l ++ [v]).length = true := by
  have hl := (lkTo_iff (Nat.le_refl _)).1 h
  rw [lkTo_iff (Nat.le_refl _)]
  intro j hj _
  rw [List.length_append] at hj
  simp at hj
  rcases Nat.lt_or_ge j l.length with h1 | h1
  · rw [List.getElem_append_left h1, List.take_append_of_le_length (by omega)]
    exact hl j h1 h1
  · obtain rfl : j = l.length := by omega
    rw [List.getElem_append_right (Nat.le_refl _), List.take_left]
    simp only [Nat.sub_self, List.getElem_cons_zero]
    refine ⟨hv, hn, ?_⟩
    rcases hb with hb | hb
    · left; rw [hb]; rfl
    · exact Or.inr hb
theorem may_grow {n : Nat} {b : Int → Int → Bool} {l : List Int} {v : Int} (hl : l ≠ []) : canL n b (l ++ [v]) = (growL n b l).contains v := by
  rw [canL_snoc]
  unfold growL
  cases hc : canL n b l with
  | false => simp
  | true =>
    rw [Bool.true_and, if_pos rfl, Bool.eq_iff_iff, List.contains_iff_mem, List.mem_filter, nxtL_mem]
    constructor
    · intro h
      obtain ⟨f1, f2, f3, _⟩ := follows_iff.1 h
      exact ⟨⟨f1, Or.inr ⟨f2, (f3.resolve_left hl).2⟩⟩, h⟩
    · exact fun h => h.2
theorem grow_next {n : Nat} {b : Int → Int → Bool} {l : List Int} {v : Int} (h : v ∈ growL n b l) : v ∈ nxtL n b l ∧ canL n b (l ++ [v]) = true := by
  unfold growL at h
  cases hc : canL n b l with
  | false => rw [hc] at h; simp at h
  | true =>
    rw [hc, if_pos rfl, List.mem_filter] at h
    exact ⟨h.1, by rw [canL_snoc, hc, h.2]; rfl⟩
theorem growL_len (n : Nat) (b : Int → Int → Bool) (l : List Int) : (growL n b l).length ≤ n := by
  unfold growL
  split
  · exact Nat.le_trans (List.length_filter_le _ _) (nxtL_len n b l)
  · simp
/-- A slice of no numbers, made. -/
theorem own_none (W : World) (base : Nat) (hb : base ≤ W.heap.size) : (W.alloc (.cells #[] 3)).ownsRow base 3 1 (.slice (some ⟨W.heap.size, 0, none⟩) 0 0) 0 [] :=
  World.ownsRow_made W #[] 0 hb (Nat.zero_le _) rfl
theorem cells_one (W : World) (x : Int) : ∀ j u, ([Value.int .i64 x])[j]? = some u → (W.alloc (.cells #[.int .i64 x] 3)).cell? ((⟨W.heap.size, 0, none⟩ : Addr).add j) = some u := by
  intro j u h
  match j, h with
  | 0, h =>
    simp at h
    subst h
    exact (Whole.new W 3 #[.int .i64 x]).cell 0
theorem one_cell {W : World} {b : Nat} {x : Int} (h : W.cell? ⟨b, 0, none⟩ = some (.int .i64 x)) : ∀ j u, ([Value.int .i64 x])[j]? = some u → W.cell? ((⟨b, 0, none⟩ : Addr).add j) = some u := by
  intro j u hj
  match j, hj with
  | 0, hj =>
    simp at hj
    subst hj
    exact h
theorem one_one {x : Int} : ∀ u ∈ [Value.int .i64 x], u.oneCell' = true := by
  intro u hu
  rw [List.mem_singleton] at hu
  subst hu
  rfl
theorem intCells_one {L : List Int} : ∀ u ∈ intCells L, u.oneCell' = true := by
  intro u hu
  unfold intCells at hu
  obtain ⟨x, _, rfl⟩ := List.mem_map.1 hu
  rfl

set_option maxRecDepth 100000 in
set_option maxHeartbeats 20000000 in
theorem parts_law (L : List Int) (E : List (Int × Int)) (X : List Int) (vl ve vx : Value) (w : World) (hl : SeqV w vl L) (he : EdgesV w ve E) (hxc : SeqC w vx X) (hE : ∀ e, e ∈ E → In64 e.1 ∧ In64 e.2) (h1 : L.length ≤ 9223372036854775807) (h2 : E.length ≤ 9223372036854775807) (h3 : X.length ≤ 9223372036854775807) :
    Calls Try.prog 6 #[vl, ve, vx] w fun e w' => e = .returned (.bool true) ∧ Below w.heap.size w w' := by
  have AL := Lib.hid (alive_ok w)
  have HSL := Lib.hid hl; have HSX := Lib.hid hxc; have HSE := Lib.hid he; have HE := Lib.hid hE; have HL1 := Lib.hid h1; have HL2 := Lib.hid h2
  obtain ⟨Al, cl, rfl⟩ := IntsV.form hl
  obtain ⟨Ae, ce, rfl⟩ := he.form
  obtain ⟨_, Ax, cx, rfl, hcx⟩ := hxc
  obtain ⟨p, hpp⟩ : ∃ p, X.length = p := ⟨_, rfl⟩
  obtain ⟨n, hnn⟩ : ∃ n, L.length = n := ⟨_, rfl⟩
  obtain ⟨m, hmm⟩ : ∃ m, E.length = m := ⟨_, rfl⟩
  rw [hpp] at HSX h3 hcx ⊢
  rw [hnn] at HSL ⊢
  rw [hmm] at HSE ⊢
  have HPP := Lib.hid hpp; have HNN := Lib.hid hnn; have HMM := Lib.hid hmm; have HCX := Lib.hid hcx
  clear hl he hE h1 h2 hnn hmm hpp hcx
  go_enter Try.func6, Try.ntmps6
  go_wp2_with fail
  refine AL.out.mono ?_; rintro e w1 ⟨rfl, hb1⟩
  have MA := Lib.hid (made_sure L E _ _ w1 (HSL.out.below hb1 (Nat.le_refl _)) (HSE.out.below hb1 (Nat.le_refl _)) HE.out HL1.out HL2.out)
  have HB1 := Lib.hid hb1
  clear hb1
  go_wp2_with fail
  refine MA.out.mono ?_
  rintro e w2 ⟨hb2, ⟨_, g0, rfl⟩ | ⟨hn, hm, hnf, g, v, rfl, hG, hv⟩⟩
  · have HB2 := Lib.hid (HB1.out.trans (hb2.mono HB1.out.size))
    have HB3 := Lib.hid (HB2.out.alloc HB2.out.size (.cells #[.slice none 0 0, .slice none 0 0] 27))
    clear hb2
    go_wp2_with fail
    go_ret
    exact ⟨rfl, HB3.out⟩
  · rw [HNN.out] at hn
    rw [HMM.out] at hm hv
    obtain ⟨Av, cv, rfl⟩ := own_form hv
    have hB2 := HB1.out.trans (hb2.mono HB1.out.size)
    by_cases hp20 : 12 < p
    · have t20 : decide ((12 : Int) < p) = true := decide_eq_true (by omega)
      have t20' : decide (12 < p) = true := decide_eq_true hp20
      have HB2 := Lib.hid hB2
      clear hb2 hG hv hnf MA hB2
      go_wp2_with fail
      go_ret
      exact ⟨rfl, (HB2.out.alloc HB2.out.size _)⟩
    have t20 : decide ((12 : Int) < p) = false := decide_eq_false (by omega)
    have t20' : decide (12 < p) = false := decide_eq_false (by omega)
    obtain ⟨hF, hR, hSl⟩ := fine_sort hnf
    obtain ⟨S, hS⟩ : ∃ S, sortE E = S := ⟨_, rfl⟩
    rw [hS] at hF hR hSl hG hv
    rw [HNN.out] at hR
    rw [HMM.out] at hSl
    have hG2 := GF.of hG HNN.out hF hR (by omega) (by omega)
    have hB3 : Below w.heap.size w (w2.alloc (.cells #[.slice Al n cl, .slice Av m cv] 27)) := hB2.alloc hB2.size _
    have hG3 := hG2.below (w' := w2.alloc (.cells #[.slice Al n cl, .slice Av m cv] 27)) ((Below.refl _ _).alloc (Nat.le_refl _) _)
    obtain ⟨w3, hw3⟩ : ∃ W, w2.alloc (.cells #[.slice Al n cl, .slice Av m cv] 27) = W := ⟨_, rfl⟩
    rw [hw3] at hB3 hG3
    have L3 := Lib.hid (list_any hG3 X _ (HSX.out.1.below hB3 (Nat.le_refl _)) (by rw [HPP.out]; omega))
    have HG3 := Lib.hid hG3; have HB3 := Lib.hid hB3; have HW3 := Lib.hid hw3
    have hp10 : p ≤ 12 := by omega
    clear hb2 hG hv hnf MA hB2 hp20 hF hR hSl hS hG2 hB3 hG3 hw3
    go_upto_region 6 with fail
    rw [HW3.out]
    go_wp2_with fail
    refine L3.out.mono ?_; rintro e w4 ⟨v4, rfl, hs4, hb4⟩
    have hB4 := HB3.out.trans (hb4.mono HB3.out.size)
    have HB4 := Lib.hid hB4; have HG4 := Lib.hid (HG3.out.below hb4)
    have hX4 := HSX.out.below hB4 (Nat.le_refl _)
    have LK4 := linked_any (HG3.out.below hb4) X _ hX4 (by rw [HPP.out]; omega)
    obtain ⟨z, hz⟩ : ∃ z, lkTo n (adj S) X X.length = z := ⟨_, rfl⟩
    rw [hz] at LK4
    cases z with
    | false =>
      obtain ⟨_, A4, c4, rfl, hc4⟩ := id hs4
      have HLK := Lib.hid LK4; have HZ := Lib.hid hz
      obtain ⟨q4, hq4⟩ : ∃ q, ((listL n (adj S) X).getD []).length = q := ⟨_, rfl⟩
      obtain ⟨z4, hz4⟩ : ∃ q, (listL n (adj S) X).isSome = q := ⟨_, rfl⟩
      rw [hq4, hz4]
      clear hs4 hc4 hb4 hB4 hX4 LK4 hz L3 hq4 hz4
      go_wp2_with fail
      refine HLK.out.mono ?_; rintro e w5 ⟨rfl, hb5⟩
      have hB5 := HB4.out.trans (hb5.mono HB4.out.size)
      have LK5 := linked_any (HG4.out.below hb5) X _ (HSX.out.below hB5 (Nat.le_refl _)) (by rw [HPP.out]; omega)
      rw [HZ.out] at LK5
      have HLK5 := Lib.hid LK5; have HB5 := Lib.hid hB5
      clear hb5 hB5 LK5
      go_wp2_with fail
      refine HLK5.out.mono ?_; rintro e w6 ⟨rfl, hb6⟩
      have HB6 := Lib.hid (HB5.out.trans (hb6.mono HB5.out.size))
      clear hb6
      go_wp2_with fail
      go_ret
      exact ⟨rfl, HB6.out⟩
    | true =>
      obtain ⟨x, hx, hxl⟩ := lk_list (adj_comm S) hz
      rw [hx] at hs4 ⊢
      simp only [Option.getD_some, Option.isSome_some] at hs4 ⊢
      obtain ⟨_, A4, c4, rfl, hc4⟩ := id hs4
      rw [HPP.out] at hxl
      rw [hxl] at hs4 hc4 ⊢
      have HLK := Lib.hid LK4; have HZ := Lib.hid hz; have HX := Lib.hid hx; have HXL := Lib.hid hxl; have HS4 := Lib.hid hs4
      have tp := (show ((p : Int) != p) = false by simp)
      clear hs4 hc4 hb4 hB4 hX4 LK4 hz L3 hx hxl
      go_wp2_with fail
      refine HLK.out.mono ?_; rintro e w5 ⟨rfl, hb5⟩
      have hB5 := HB4.out.trans (hb5.mono HB4.out.size)
      have LK5 := linked_any (HG4.out.below hb5) X _ (HSX.out.below hB5 (Nat.le_refl _)) (by rw [HPP.out]; omega)
      rw [HZ.out] at LK5
      have HLK5 := Lib.hid LK5; have HB5 := Lib.hid hB5; have HG5 := Lib.hid (HG4.out.below hb5); have HS5 := Lib.hid (HS4.out.below hb5 (Nat.le_refl _))
      clear hb5 hB5 LK5
      by_cases hp0 : p = 0
      · subst hp0
        go_wp2_with fail
        refine HLK5.out.mono ?_; rintro e w6 ⟨rfl, hb6⟩
        have HB6 := Lib.hid (HB5.out.trans (hb6.mono HB5.out.size))
        clear hb6
        go_wp2_with fail
        go_ret
        exact ⟨rfl, HB6.out⟩
      have tp0 : ((p : Int) == 0) = false := by simp; omega
      have HP0 := Lib.hid (show 0 < p by omega)
      clear hp0
      go_wp2_with fail
      refine HLK5.out.mono ?_; rintro e w6 ⟨rfl, hb6⟩
      have hB6 := HB5.out.trans (hb6.mono HB5.out.size)
      have hX6 := HSX.out.below hB6 (Nat.le_refl _)
      have NX := Lib.hid (next_any (HG5.out.below hb6) X _ hX6.1 (by rw [HPP.out]; omega))
      have HB6 := Lib.hid hB6; have HG6 := Lib.hid (HG5.out.below hb6); have HS6 := Lib.hid (HS5.out.below hb6 (Nat.le_refl _))
      clear hb6 hB6 hX6
      go_wp2_with fail
      refine NX.out.mono ?_; rintro e w7 ⟨v7, rfl, ho7, hb7⟩
      have hB7 := HB6.out.trans (hb7.mono HB6.out.size)
      have GX := Lib.hid (grow_any (HG6.out.below hb7) X _ (HSX.out.below hB7 (Nat.le_refl _)) (by rw [HPP.out]; omega))
      have hql := nxtL_len n (adj S) X
      have hgl := growL_len n (adj S) X
      have hne : X ≠ [] := fun e => by have := HPP.out; rw [e] at this; have := HP0.out; simp at *; omega
      have HNX := Lib.hid (fun (y : Int) (hy : y ∈ nxtL n (adj S) X) => (show y ∉ X ∧ lkTo n (adj S) (X ++ [y]) (X ++ [y]).length = true by
        obtain ⟨h1, h2⟩ := nxtL_mem.1 hy
        have h3 := h2.resolve_left hne
        exact ⟨h3.1, lk_snoc HZ.out h1 h3.1 (Or.inr h3.2)⟩))
      have HNR := Lib.hid (nxtL_rising n (adj S) X)
      have HGN := Lib.hid (fun (y : Int) (hy : y ∈ growL n (adj S) X) => grow_next hy)
      have HMG := Lib.hid (fun (y : Int) => may_grow (n := n) (b := adj S) (v := y) hne)
      obtain ⟨N, hN⟩ : ∃ N, nxtL n (adj S) X = N := ⟨_, rfl⟩
      obtain ⟨G, hGG⟩ : ∃ N, growL n (adj S) X = N := ⟨_, rfl⟩
      rw [hN] at ho7 HNX HNR HGN hql
      rw [hGG] at GX HGN HMG hgl
      obtain ⟨q, hq⟩ : ∃ q, N.length = q := ⟨_, rfl⟩
      rw [hq] at ho7 hql
      obtain ⟨A7, c7, rfl⟩ := own_form ho7
      have HN7 := Lib.hid (own_seq ho7); have HB7 := Lib.hid hB7; have HG7 := Lib.hid (HG6.out.below hb7); have HS7 := Lib.hid (HS6.out.below hb7 (Nat.le_refl _)); have HQ := Lib.hid hq
      clear ho7 hb7 hB7 hN hGG hq hne
      go_wp2_with fail
      refine GX.out.mono ?_; rintro e w8 ⟨v8, rfl, hs8, hb8⟩
      obtain ⟨r, hr⟩ : ∃ q, G.length = q := ⟨_, rfl⟩
      obtain ⟨_, A8, c8, rfl, _⟩ := id hs8
      rw [hr] at hs8 hgl ⊢
      have hB8 := HB7.out.trans (hb8.mono HB7.out.size)
      have HG8 := Lib.hid (HG7.out.below hb8); have HS8 := Lib.hid (HS7.out.below hb8 (Nat.le_refl _)); have HN8 := Lib.hid (HN7.out.below hb8 (Nat.le_refl _)); have HM8 := Lib.hid hs8; have HR := Lib.hid hr; have HB8 := Lib.hid hB8; have HX8 := Lib.hid (HSX.out.below hB8 (Nat.le_refl _))
      clear hb8 hs8 hr hB8
      go_wp2_with fail
      go_loopg [14] q (fun gh yv wr => ∃ i, i ≤ q ∧ gh = q - i ∧ yv = .int .i64 (i : Nat) ∧ Below w8.heap.size w8 wr)
      case atStart => exact ⟨0, Nat.zero_le _, rfl, rfl, Below.refl _ _⟩
      case round =>
        obtain ⟨i, hi, rfl, rfl, hB⟩ := hrel
        by_cases hit : i < q
        · have hiN : i < N.length := by rw [HQ.out]; exact hit
          have hbw := HB8.out.trans (hB.mono HB8.out.size)
          obtain ⟨j1, hi1, ky0, ky1, ky2⟩ := info_parts Try.infoInt6
          obtain ⟨bn, on, hAn, hyc⟩ := seqPos (HN8.out.below hB (Nat.le_refl _)) hiN
          obtain ⟨bx, ox, hAx, _⟩ := seqPos (HX8.out.1) (i := 0) (by rw [HPP.out]; exact HP0.out)
          have hmem : N.getD i 0 ∈ N := by
            rw [show N.getD i 0 = N[i] by simp [List.getD, hiN]]
            exact List.getElem_mem _
          obtain ⟨y, hy⟩ : ∃ y, N.getD i 0 = y := ⟨_, rfl⟩
          rw [hy] at hyc hmem
          obtain ⟨n1, n2⟩ := HNX.out y hmem
          subst hAn hAx
          have hxw : ∀ W, Below wr.heap.size wr W → SeqC W (.slice (some ⟨bx, ox, none⟩) p cx) X := fun W hb => (HX8.out.below hB (Nat.le_refl _)).below hb (Nat.le_refl _)
          have HXC := Lib.hid (fun (W : World) (hb : Below wr.heap.size wr W) => seq_cells (n := p) (c := cx) (b := bx) (off := ox) (L := X) (fun j hj => by
            obtain ⟨b', o', e, h⟩ := seqPos (hxw W hb).1 hj
            injection e with e
            injection e with e1 e2
            rw [← e1, ← e2] at h
            exact h) HPP.out.symm HCX.out)
          have HLX := Lib.hid (show (intCells X).length = p * 1 by unfold intCells; rw [List.length_map, HPP.out, Nat.mul_one])
          have HLKN := Lib.hid (fun (W : World) (v : Value) (hb : Below wr.heap.size wr W) (hs : SeqC W v (X ++ [y])) => (linked_any (HG8.out.below (hB.trans (hb.mono hB.size))) (X ++ [y]) v hs (by rw [List.length_append, HPP.out]; simp; omega)).mono (fun e w' hh => (show e = .returned (.bool true) ∧ Below wr.heap.size wr w' by
            obtain ⟨h1, h2⟩ := hh
            rw [n2] at h1
            exact ⟨h1, hb.trans (h2.mono hb.size)⟩)))
          have HHAS := Lib.hid (fun (W : World) (hb : Below wr.heap.size wr W) => (refHas_any X y _ W (hxw W hb).1 (by rw [HPP.out]; omega)).mono (fun e w' hh => (show e = .returned (.bool false) ∧ w' = W by
            obtain ⟨h1, h2⟩ := hh
            rw [show X.contains y = false by simpa using n1] at h1
            exact ⟨h1, h2⟩)))
          have hls : (wr.drew.alloc (.cells #[.int .i64 y] 3)).heap.size = wr.heap.size + 1 := by rw [World.size_alloc]; rfl
          have hlz : (wr.drew.alloc (.cells #[] 3)).heap.size = wr.heap.size + 1 := by rw [World.size_alloc]; rfl
          have o3 := own_none (wr.drew.alloc (.cells #[.int .i64 y] 3)) wr.heap.size (by rw [hls]; omega)
          rw [hls] at o3
          have OWN3 := Lib.hid o3
          have lA := (Whole.new (wr.drew.alloc (.cells #[] 3)) 3 #[.int .i64 y]).cell 0
          rw [hlz] at lA
          have LITA := Lib.hid (show ((wr.drew.alloc (.cells #[] 3)).alloc (.cells #[.int .i64 y] 3)).cell? ⟨wr.heap.size + 1, 0, none⟩ = some (.int .i64 y) from lA)
          have LITB := Lib.hid (show ((wr.drew.alloc (.cells #[.int .i64 y] 3)).alloc (.cells #[] 3)).cell? ⟨wr.heap.size, 0, none⟩ = some (.int .i64 y) from ((Whole.new wr.drew 3 #[.int .i64 y]).alloc (.cells #[] 3)).cell 0)
          have NEA := Lib.hid (show some (wr.heap.size + 1) ≠ (Value.slice (some ⟨wr.heap.size, 0, none⟩) 0 0).ownBlock from fun e => absurd (Option.some.inj e) (show ¬ (wr.heap.size + 1 = wr.heap.size) by omega))
          have NEB := Lib.hid (show some wr.heap.size ≠ (Value.slice (some ⟨wr.heap.size + 1, 0, none⟩) 0 0).ownBlock from fun e => absurd (Option.some.inj e) (show ¬ (wr.heap.size = wr.heap.size + 1) by omega))
          have hlt := cellLt hyc
          have HIT := Lib.hid hit; have HBi := Lib.hid hB
          have hpp0 := HP0.out
          have t5 : decide (i < q) = true := decide_eq_true hit
          have j2 : (i : Int) < q := by omega
          have j3 : (0 : Int) ≤ i := by omega
          rcases Nat.eq_zero_or_pos i with h0 | h0
          · have t6 : decide ((0 : Int) < i) = false := decide_eq_false (by omega)
            have t6' : decide (0 < i) = false := decide_eq_false (by omega)
            have HKS := Lib.hid (fun (W : World) (hb : Below wr.heap.size wr W) => (show Below wr.heap.size wr W ∧ W.cell? ⟨bn, on + i, none⟩ = some (.int .i64 y) from ⟨hb, (hb.cell (p := ⟨bn, on + i, none⟩) hlt).trans hyc⟩))
            clear hit hiN hbw hmem hy n1 n2 hxw hls hlz o3 lA hlt hB h0
            go_upto_region 15 with fail
            go_cut [109] (fun x wx => x = .bool false ∧ Below wr.heap.size wr wx)
            case first =>
              refine wp_region_held_drew (S := fun w' => Below wr.heap.size wr w' ∧ w'.cell? ⟨bn, on + i, none⟩ = some (.int .i64 y)) (by kernel_rfl) ?_ (fun hHeld => ?_)
              · (try dsimp only); exact HKS.out _ (below_drewN' (Below.refl _ _) 1)
              refine wpAnyH_take (i := 0) (oi := ({ dst := some 74, op := Op.move (Operand.tmp 7), type := 25, pos := "law.go:140", after := #[], guard := none } : Oper)) (v := ?vpa1) rfl (by kernel_rfl) (by kernel_rfl) (by kernel_rfl) (fun _ _ _ h => h) (Or.inl ⟨by rfl, ?hypa1⟩) (by assumption) ?restpa1
              case hypa1 => intro w hSw; (try dsimp only at hSw); go_simp; all_goals (with_reducible rfl)
              try simp only [Act.put, List.setIfInBounds_toArray, List.set_cons_zero, List.set_cons_succ]
              refine wpAnyH_take (i := 2) (oi := ({ dst := some 76, op := Op.move (Operand.tmp 2), type := 22, pos := "law.go:140", after := #[], guard := none } : Oper)) (v := ?vpa2) rfl (by kernel_rfl) (by kernel_rfl) (by kernel_rfl) (fun _ _ _ h => h) (Or.inl ⟨by rfl, ?hypa2⟩) (by assumption) ?restpa2
              case hypa2 => intro w hSw; (try dsimp only at hSw); go_simp; all_goals (with_reducible rfl)
              try simp only [Act.put, List.setIfInBounds_toArray, List.set_cons_zero, List.set_cons_succ]
              refine wpAnyH_take (i := 4) (oi := ({ dst := some 78, op := Op.move (Operand.tmp 12), type := 22, pos := "law.go:140", after := #[], guard := none } : Oper)) (v := ?vpa3) rfl (by kernel_rfl) (by kernel_rfl) (by kernel_rfl) (fun _ _ _ h => h) (Or.inl ⟨by rfl, ?hypa3⟩) (by assumption) ?restpa3
              case hypa3 => intro w hSw; (try dsimp only at hSw); go_simp; all_goals (with_reducible rfl)
              try simp only [Act.put, List.setIfInBounds_toArray, List.set_cons_zero, List.set_cons_succ]
              refine wpAnyH_take (i := 5) (oi := ({ dst := some 79, op := Op.move (Operand.tmp 14), type := 3, pos := "law.go:140", after := #[], guard := none } : Oper)) (v := ?vpa4) rfl (by kernel_rfl) (by kernel_rfl) (by kernel_rfl) (fun _ _ _ h => h) (Or.inl ⟨by rfl, ?hypa4⟩) (by assumption) ?restpa4
              case hypa4 => intro w hSw; (try dsimp only at hSw); go_simp; all_goals (with_reducible rfl)
              try simp only [Act.put, List.setIfInBounds_toArray, List.set_cons_zero, List.set_cons_succ]
              refine wpAnyH_take (i := 6) (oi := ({ dst := some 80, op := Op.indexAddr 22 (Operand.tmp 78) (Operand.tmp 79), type := 0, pos := "law.go:140", after := #[{ on := 4, ground := Ground.data }, { on := 5, ground := Ground.data }], guard := none } : Oper)) (v := ?vpa5) rfl (by kernel_rfl) (by kernel_rfl) (by kernel_rfl) (fun _ _ _ h => h) (Or.inl ⟨by rfl, ?hypa5⟩) (by assumption) ?restpa5
              case hypa5 => intro w hSw; (try dsimp only at hSw); go_simp; all_goals (with_reducible rfl)
              try simp only [Act.put, List.setIfInBounds_toArray, List.set_cons_zero, List.set_cons_succ]
              refine wpAnyH_take (i := 7) (oi := ({ dst := some 81, op := Op.load 3 (Operand.tmp 80), type := 3, pos := "law.go:140", after := #[{ on := 6, ground := Ground.data }], guard := none } : Oper)) (v := ?vpa6) rfl (by kernel_rfl) (by kernel_rfl) (by kernel_rfl) (fun _ _ _ h => h) (Or.inl ⟨by rfl, ?hypa6⟩) (by assumption) ?restpa6
              case hypa6 => intro w hSw; (try dsimp only at hSw); go_simp; all_goals (with_reducible rfl)
              try simp only [Act.put, List.setIfInBounds_toArray, List.set_cons_zero, List.set_cons_succ]
              refine wpAnyH_ready (rs := [1, 8]) (by kernel_rfl) (by simp) ?_
              refine (AllReadyH.cons (o := ({ dst := some 75, op := Op.buildSlice 22 0 #[], type := 22, pos := "law.go:140", after := #[], guard := none } : Oper)) rfl (fun K hK => ?_) (AllReadyH.cons (o := ({ dst := some 82, op := Op.buildSlice 22 1 #[(0, Operand.tmp 81)], type := 22, pos := "law.go:140", after := #[{ on := 7, ground := Ground.data }], guard := none } : Oper)) rfl (fun K hK => ?_) AllReadyH.nil))
              · go_simp
                refine hK.out _ _ ?_ (fun hHeld => ?_)
                · (try dsimp only); exact HKS.out _ (hHeld.1.alloc hHeld.1.size _)
                clear hK K
                try simp only [Act.put, List.setIfInBounds_toArray, List.set_cons_zero, List.set_cons_succ]
                refine wpAnyH_ready (rs := [3, 8]) (by kernel_rfl) (by simp) ?_
                refine (AllReadyH.cons (o := ({ dst := some 77, op := Op.call { callee := Callee.builtin Builtin.append, args := #[Operand.tmp 75, Operand.tmp 76], argTypes := #[22, 22] }, type := 22, pos := "law.go:140", after := #[{ on := 1, ground := Ground.data }, { on := 2, ground := Ground.data }], guard := none } : Oper)) rfl (fun K hK => ?_) (AllReadyH.cons (o := ({ dst := some 82, op := Op.buildSlice 22 1 #[(0, Operand.tmp 81)], type := 22, pos := "law.go:140", after := #[{ on := 7, ground := Ground.data }], guard := none } : Oper)) rfl (fun K hK => ?_) AllReadyH.nil))
                · have hH := hHeld.1
                  refine step_append_lies _ rfl _ _ 22 rfl wr.heap.size 3 j1 (.int .i64 0) 1 8 Try.underlying22 hi1 ky0 ky1 ky2 rfl (by decide) _ 0 _ rfl (own_none wr.drew wr.heap.size (Nat.le_refl _)) ⟨bx, ox, none⟩ p cx (intCells X) rfl HLX.out (HXC.out _ hH) intCells_one (by omega) (by unfold maxLen; omega) (by omega) hH.size _ rfl ?_
                  intro g2 c2 w2 hown2 hgrow2 hwhere2 hlt2
                  simp only [Nat.zero_add, List.nil_append] at hown2
                  try simp only [Nat.zero_add]
                  have hB2 : Below wr.heap.size wr w2 := hH.grown hgrow2 hH.size (fun k hk => ((own_none wr.drew wr.heap.size (Nat.le_refl _)).lt k hk).1)
                  refine hK.out _ _ ?_ (fun hHeld => ?_)
                  · (try dsimp only); exact HKS.out _ hB2
                  clear hK K
                  try simp only [Act.put, List.setIfInBounds_toArray, List.set_cons_zero, List.set_cons_succ]
                  refine wpAnyH_ready (rs := [8]) (by kernel_rfl) (by simp) ?_
                  refine (AllReadyH.cons (o := ({ dst := some 82, op := Op.buildSlice 22 1 #[(0, Operand.tmp 81)], type := 22, pos := "law.go:140", after := #[{ on := 7, ground := Ground.data }], guard := none } : Oper)) rfl (fun K hK => ?_) AllReadyH.nil)
                  go_simp
                  refine hK.out _ _ ?_ (fun hHeld => ?_)
                  · (try dsimp only); exact HKS.out _ (hHeld.1.alloc hHeld.1.size _)
                  clear hK K
                  try simp only [Act.put, List.setIfInBounds_toArray, List.set_cons_zero, List.set_cons_succ]
                  refine wpAnyH_ready (rs := [9]) (by kernel_rfl) (by simp) ?_
                  refine (AllReadyH.cons (o := ({ dst := some 83, op := Op.call { callee := Callee.builtin Builtin.append, args := #[Operand.tmp 77, Operand.tmp 82], argTypes := #[22, 22] }, type := 22, pos := "law.go:140", after := #[{ on := 3, ground := Ground.data }, { on := 8, ground := Ground.data }, { on := 3, ground := Ground.chain }], guard := none } : Oper)) rfl (fun K hK => ?_) AllReadyH.nil)
                  have hH3 := hHeld.1
                  refine step_append_lies _ rfl _ _ 22 rfl wr.heap.size 3 j1 (.int .i64 0) 1 8 Try.underlying22 hi1 ky0 ky1 ky2 rfl (by decide) _ p _ rfl (hown2.alloc (.cells #[.int .i64 y] 3)) ⟨w2.heap.size, 0, none⟩ 1 1 [.int .i64 y] rfl rfl (cells_one w2 y) one_one (by omega) (by unfold maxLen; omega) (by omega) hH3.size _ rfl ?_
                  intro g4 c4 w6 hown4 hgrow4 hwhere4 hlt4
                  have hB6 : Below wr.heap.size wr w6 := hH3.grown hgrow4 hH3.size (fun k hk => ((hown2.alloc (.cells #[.int .i64 y] 3)).lt k hk).1)
                  have hs6 : SeqC w6 (.slice (some ⟨g4, 0, none⟩) (p + 1) c4) (X ++ [y]) := own_seqC (by rw [intCells_app]; exact hown4)
                  refine hK.out _ _ ?_ (fun hHeld => ?_)
                  · (try dsimp only); exact HKS.out _ hB6
                  clear hK K
                  try simp only [Act.put, List.setIfInBounds_toArray, List.set_cons_zero, List.set_cons_succ]
                  refine wpAnyH_ready (rs := [10]) (by kernel_rfl) (by simp) ?_
                  refine (AllReadyH.cons (o := ({ dst := some 84, op := Op.call { callee := Callee.value (Operand.func 13), args := #[Operand.tmp 74, Operand.tmp 83], argTypes := #[25, 22] }, type := 4, pos := "law.go:140", after := #[{ on := 0, ground := Ground.data }, { on := 9, ground := Ground.data }, { on := 9, ground := Ground.chain }], guard := none } : Oper)) rfl (fun K hK => ?_) AllReadyH.nil)
                  go_simp
                  refine (HLKN.out _ _ hB6 hs6).mono ?_; rintro e' w7 ⟨rfl, hB7⟩
                  refine hK.out _ _ ?_ (fun hHeld => ?_)
                  · (try dsimp only); exact HKS.out _ hB7
                  clear hK K
                  try simp only [Act.put, List.setIfInBounds_toArray, List.set_cons_zero, List.set_cons_succ]
                  refine wpAnyH_take (i := 11) (oi := ({ dst := some 85, op := Op.unOp UnOp.not 4 (Operand.tmp 84), type := 4, pos := "law.go:140", after := #[{ on := 10, ground := Ground.data }], guard := none } : Oper)) (v := ?vpa7) rfl (by kernel_rfl) (by kernel_rfl) (by kernel_rfl) (fun _ _ _ h => h) (Or.inl ⟨by rfl, ?hypa7⟩) (by assumption) ?restpa7
                  case hypa7 => intro w hSw; (try dsimp only at hSw); go_simp; all_goals (with_reducible rfl)
                  try simp only [Act.put, List.setIfInBounds_toArray, List.set_cons_zero, List.set_cons_succ]
                  refine wpAnyH_take (i := 12) (oi := ({ dst := some 86, op := Op.move (Operand.tmp 85), type := 4, pos := "law.go:140", after := #[{ on := 11, ground := Ground.data }, { on := 10, ground := Ground.chain }], guard := none } : Oper)) (v := ?vpa8) rfl (by kernel_rfl) (by kernel_rfl) (by kernel_rfl) (fun _ _ _ h => h) (Or.inl ⟨by rfl, ?hypa8⟩) (by assumption) ?restpa8
                  case hypa8 => intro w hSw; (try dsimp only at hSw); go_simp; all_goals (with_reducible rfl)
                  try simp only [Act.put, List.setIfInBounds_toArray, List.set_cons_zero, List.set_cons_succ]
                  refine wpAnyH_take (i := 13) (oi := ({ dst := some 87, op := Op.move (Operand.tmp 2), type := 22, pos := "law.go:140", after := #[{ on := 12, ground := Ground.guard }], guard := some (12, false) } : Oper)) (v := ?vpa9) rfl (by kernel_rfl) (by kernel_rfl) (by kernel_rfl) (fun _ _ _ h => h) (Or.inl ⟨by rfl, ?hypa9⟩) (by assumption) ?restpa9
                  case hypa9 => intro w hSw; (try dsimp only at hSw); go_simp; all_goals (with_reducible rfl)
                  try simp only [Act.put, List.setIfInBounds_toArray, List.set_cons_zero, List.set_cons_succ]
                  refine wpAnyH_take (i := 14) (oi := ({ dst := some 88, op := Op.move (Operand.tmp 12), type := 22, pos := "law.go:140", after := #[{ on := 12, ground := Ground.guard }], guard := some (12, false) } : Oper)) (v := ?vpa10) rfl (by kernel_rfl) (by kernel_rfl) (by kernel_rfl) (fun _ _ _ h => h) (Or.inl ⟨by rfl, ?hypa10⟩) (by assumption) ?restpa10
                  case hypa10 => intro w hSw; (try dsimp only at hSw); go_simp; all_goals (with_reducible rfl)
                  try simp only [Act.put, List.setIfInBounds_toArray, List.set_cons_zero, List.set_cons_succ]
                  refine wpAnyH_take (i := 15) (oi := ({ dst := some 89, op := Op.move (Operand.tmp 14), type := 3, pos := "law.go:140", after := #[{ on := 12, ground := Ground.guard }], guard := some (12, false) } : Oper)) (v := ?vpa11) rfl (by kernel_rfl) (by kernel_rfl) (by kernel_rfl) (fun _ _ _ h => h) (Or.inl ⟨by rfl, ?hypa11⟩) (by assumption) ?restpa11
                  case hypa11 => intro w hSw; (try dsimp only at hSw); go_simp; all_goals (with_reducible rfl)
                  try simp only [Act.put, List.setIfInBounds_toArray, List.set_cons_zero, List.set_cons_succ]
                  refine wpAnyH_take (i := 16) (oi := ({ dst := some 90, op := Op.indexAddr 22 (Operand.tmp 88) (Operand.tmp 89), type := 0, pos := "law.go:140", after := #[{ on := 14, ground := Ground.data }, { on := 15, ground := Ground.data }, { on := 12, ground := Ground.guard }], guard := some (12, false) } : Oper)) (v := ?vpa12) rfl (by kernel_rfl) (by kernel_rfl) (by kernel_rfl) (fun _ _ _ h => h) (Or.inl ⟨by rfl, ?hypa12⟩) (by assumption) ?restpa12
                  case hypa12 => intro w hSw; (try dsimp only at hSw); go_simp; all_goals (with_reducible rfl)
                  try simp only [Act.put, List.setIfInBounds_toArray, List.set_cons_zero, List.set_cons_succ]
                  refine wpAnyH_take (i := 17) (oi := ({ dst := some 91, op := Op.load 3 (Operand.tmp 90), type := 3, pos := "law.go:140", after := #[{ on := 16, ground := Ground.data }, { on := 12, ground := Ground.guard }], guard := some (12, false) } : Oper)) (v := ?vpa13) rfl (by kernel_rfl) (by kernel_rfl) (by kernel_rfl) (fun _ _ _ h => h) (Or.inl ⟨by rfl, ?hypa13⟩) (by assumption) ?restpa13
                  case hypa13 => intro w hSw; (try dsimp only at hSw); go_simp; all_goals (with_reducible rfl)
                  try simp only [Act.put, List.setIfInBounds_toArray, List.set_cons_zero, List.set_cons_succ]
                  refine wpAnyH_ready (rs := [18]) (by kernel_rfl) (by simp) ?_
                  refine (AllReadyH.cons (o := ({ dst := some 92, op := Op.call { callee := Callee.value (Operand.func 24), args := #[Operand.tmp 87, Operand.tmp 91], argTypes := #[22, 3] }, type := 4, pos := "law.go:140", after := #[{ on := 13, ground := Ground.data }, { on := 17, ground := Ground.data }, { on := 12, ground := Ground.chain }, { on := 12, ground := Ground.guard }], guard := some (12, false) } : Oper)) rfl (fun K hK => ?_) AllReadyH.nil)
                  go_simp
                  refine (HHAS.out _ hB7).mono ?_; rintro e' w8' ⟨rfl, hw⟩; obtain rfl := hw.symm
                  refine hK.out _ _ ?_ (fun hHeld => ?_)
                  · (try dsimp only); exact HKS.out _ hB7
                  clear hK K
                  try simp only [Act.put, List.setIfInBounds_toArray, List.set_cons_zero, List.set_cons_succ]
                  refine wpAnyH_take (i := 19) (oi := ({ dst := some 93, op := Op.pick (Operand.tmp 86) (Operand.const (Value.bool true)) (Operand.tmp 92), type := 4, pos := "law.go:140", after := #[{ on := 12, ground := Ground.data }, { on := 18, ground := Ground.data }], guard := none } : Oper)) (v := ?vpa14) rfl (by kernel_rfl) (by kernel_rfl) (by kernel_rfl) (fun _ _ _ h => h) (Or.inl ⟨by rfl, ?hypa14⟩) (by assumption) ?restpa14
                  case hypa14 => intro w hSw; (try dsimp only at hSw); go_simp; all_goals (with_reducible rfl)
                  try simp only [Act.put, List.setIfInBounds_toArray, List.set_cons_zero, List.set_cons_succ]
                  refine wpAnyH_take (i := 20) (oi := ({ dst := some 94, op := Op.move (Operand.tmp 93), type := 4, pos := "law.go:140", after := #[{ on := 19, ground := Ground.data }, { on := 18, ground := Ground.chain }], guard := none } : Oper)) (v := ?vpa15) rfl (by kernel_rfl) (by kernel_rfl) (by kernel_rfl) (fun _ _ _ h => h) (Or.inl ⟨by rfl, ?hypa15⟩) (by assumption) ?restpa15
                  case hypa15 => intro w hSw; (try dsimp only at hSw); go_simp; all_goals (with_reducible rfl)
                  try simp only [Act.put, List.setIfInBounds_toArray, List.set_cons_zero, List.set_cons_succ]
                  refine wpAnyH_take (i := 21) (oi := ({ dst := some 95, op := Op.move (Operand.tmp 14), type := 3, pos := "law.go:140", after := #[{ on := 20, ground := Ground.guard }], guard := some (20, false) } : Oper)) (v := ?vpa16) rfl (by kernel_rfl) (by kernel_rfl) (by kernel_rfl) (fun _ _ _ h => h) (Or.inl ⟨by rfl, ?hypa16⟩) (by assumption) ?restpa16
                  case hypa16 => intro w hSw; (try dsimp only at hSw); go_simp; all_goals (with_reducible rfl)
                  try simp only [Act.put, List.setIfInBounds_toArray, List.set_cons_zero, List.set_cons_succ]
                  refine wpAnyH_take (i := 22) (oi := ({ dst := some 96, op := Op.binOp BinOp.gtr 3 (Operand.tmp 95) (Operand.const (Value.int IntKind.i64 0)) 3, type := 4, pos := "law.go:140", after := #[{ on := 21, ground := Ground.data }, { on := 20, ground := Ground.guard }], guard := some (20, false) } : Oper)) (v := ?vpa17) rfl (by kernel_rfl) (by kernel_rfl) (by kernel_rfl) (fun _ _ _ h => h) (Or.inl ⟨by rfl, ?hypa17⟩) (by assumption) ?restpa17
                  case hypa17 => intro w hSw; (try dsimp only at hSw); go_simp; all_goals (with_reducible rfl)
                  try simp only [Act.put, List.setIfInBounds_toArray, List.set_cons_zero, List.set_cons_succ]
                  refine wpAnyH_take (i := 23) (oi := ({ dst := some 97, op := Op.move (Operand.tmp 96), type := 4, pos := "law.go:140", after := #[{ on := 22, ground := Ground.data }, { on := 20, ground := Ground.chain }, { on := 20, ground := Ground.guard }], guard := some (20, false) } : Oper)) (v := ?vpa18) rfl (by kernel_rfl) (by kernel_rfl) (by kernel_rfl) (fun _ _ _ h => h) (Or.inl ⟨by rfl, ?hypa18⟩) (by assumption) ?restpa18
                  case hypa18 => intro w hSw; (try dsimp only at hSw); go_simp; all_goals (with_reducible rfl)
                  try simp only [Act.put, List.setIfInBounds_toArray, List.set_cons_zero, List.set_cons_succ]
                  refine wpAnyH_take (i := 24) (oi := ({ dst := some 98, op := Op.move (Operand.tmp 12), type := 22, pos := "law.go:140", after := #[{ on := 23, ground := Ground.guard }], guard := some (23, true) } : Oper)) (v := undef) rfl (by kernel_rfl) (by kernel_rfl) (by kernel_rfl) (fun _ _ _ h => h) (Or.inr ⟨by rfl, rfl⟩) (by assumption) ?_
                  try simp only [Act.put, List.setIfInBounds_toArray, List.set_cons_zero, List.set_cons_succ]
                  refine wpAnyH_take (i := 25) (oi := ({ dst := some 99, op := Op.move (Operand.tmp 14), type := 3, pos := "law.go:140", after := #[{ on := 23, ground := Ground.guard }], guard := some (23, true) } : Oper)) (v := undef) rfl (by kernel_rfl) (by kernel_rfl) (by kernel_rfl) (fun _ _ _ h => h) (Or.inr ⟨by rfl, rfl⟩) (by assumption) ?_
                  try simp only [Act.put, List.setIfInBounds_toArray, List.set_cons_zero, List.set_cons_succ]
                  refine wpAnyH_take (i := 26) (oi := ({ dst := some 100, op := Op.binOp BinOp.sub 3 (Operand.tmp 99) (Operand.const (Value.int IntKind.i64 1)) 3, type := 3, pos := "law.go:140", after := #[{ on := 25, ground := Ground.data }, { on := 23, ground := Ground.guard }], guard := some (23, true) } : Oper)) (v := undef) rfl (by kernel_rfl) (by kernel_rfl) (by kernel_rfl) (fun _ _ _ h => h) (Or.inr ⟨by rfl, rfl⟩) (by assumption) ?_
                  try simp only [Act.put, List.setIfInBounds_toArray, List.set_cons_zero, List.set_cons_succ]
                  refine wpAnyH_take (i := 27) (oi := ({ dst := some 101, op := Op.indexAddr 22 (Operand.tmp 98) (Operand.tmp 100), type := 0, pos := "law.go:140", after := #[{ on := 24, ground := Ground.data }, { on := 26, ground := Ground.data }, { on := 23, ground := Ground.guard }], guard := some (23, true) } : Oper)) (v := undef) rfl (by kernel_rfl) (by kernel_rfl) (by kernel_rfl) (fun _ _ _ h => h) (Or.inr ⟨by rfl, rfl⟩) (by assumption) ?_
                  try simp only [Act.put, List.setIfInBounds_toArray, List.set_cons_zero, List.set_cons_succ]
                  refine wpAnyH_take (i := 28) (oi := ({ dst := some 102, op := Op.load 3 (Operand.tmp 101), type := 3, pos := "law.go:140", after := #[{ on := 27, ground := Ground.data }, { on := 23, ground := Ground.guard }], guard := some (23, true) } : Oper)) (v := undef) rfl (by kernel_rfl) (by kernel_rfl) (by kernel_rfl) (fun _ _ _ h => h) (Or.inr ⟨by rfl, rfl⟩) (by assumption) ?_
                  try simp only [Act.put, List.setIfInBounds_toArray, List.set_cons_zero, List.set_cons_succ]
                  refine wpAnyH_take (i := 29) (oi := ({ dst := some 103, op := Op.move (Operand.tmp 12), type := 22, pos := "law.go:140", after := #[{ on := 23, ground := Ground.guard }], guard := some (23, true) } : Oper)) (v := undef) rfl (by kernel_rfl) (by kernel_rfl) (by kernel_rfl) (fun _ _ _ h => h) (Or.inr ⟨by rfl, rfl⟩) (by assumption) ?_
                  try simp only [Act.put, List.setIfInBounds_toArray, List.set_cons_zero, List.set_cons_succ]
                  refine wpAnyH_take (i := 30) (oi := ({ dst := some 104, op := Op.move (Operand.tmp 14), type := 3, pos := "law.go:140", after := #[{ on := 23, ground := Ground.guard }], guard := some (23, true) } : Oper)) (v := undef) rfl (by kernel_rfl) (by kernel_rfl) (by kernel_rfl) (fun _ _ _ h => h) (Or.inr ⟨by rfl, rfl⟩) (by assumption) ?_
                  try simp only [Act.put, List.setIfInBounds_toArray, List.set_cons_zero, List.set_cons_succ]
                  refine wpAnyH_take (i := 31) (oi := ({ dst := some 105, op := Op.indexAddr 22 (Operand.tmp 103) (Operand.tmp 104), type := 0, pos := "law.go:140", after := #[{ on := 29, ground := Ground.data }, { on := 30, ground := Ground.data }, { on := 23, ground := Ground.guard }], guard := some (23, true) } : Oper)) (v := undef) rfl (by kernel_rfl) (by kernel_rfl) (by kernel_rfl) (fun _ _ _ h => h) (Or.inr ⟨by rfl, rfl⟩) (by assumption) ?_
                  try simp only [Act.put, List.setIfInBounds_toArray, List.set_cons_zero, List.set_cons_succ]
                  refine wpAnyH_take (i := 32) (oi := ({ dst := some 106, op := Op.load 3 (Operand.tmp 105), type := 3, pos := "law.go:140", after := #[{ on := 31, ground := Ground.data }, { on := 23, ground := Ground.guard }], guard := some (23, true) } : Oper)) (v := undef) rfl (by kernel_rfl) (by kernel_rfl) (by kernel_rfl) (fun _ _ _ h => h) (Or.inr ⟨by rfl, rfl⟩) (by assumption) ?_
                  try simp only [Act.put, List.setIfInBounds_toArray, List.set_cons_zero, List.set_cons_succ]
                  refine wpAnyH_take (i := 33) (oi := ({ dst := some 107, op := Op.binOp BinOp.geq 3 (Operand.tmp 102) (Operand.tmp 106) 3, type := 4, pos := "law.go:140", after := #[{ on := 28, ground := Ground.data }, { on := 32, ground := Ground.data }, { on := 23, ground := Ground.guard }], guard := some (23, true) } : Oper)) (v := undef) rfl (by kernel_rfl) (by kernel_rfl) (by kernel_rfl) (fun _ _ _ h => h) (Or.inr ⟨by rfl, rfl⟩) (by assumption) ?_
                  try simp only [Act.put, List.setIfInBounds_toArray, List.set_cons_zero, List.set_cons_succ]
                  refine wpAnyH_take (i := 34) (oi := ({ dst := some 108, op := Op.pick (Operand.tmp 97) (Operand.tmp 107) (Operand.const (Value.bool false)), type := 4, pos := "law.go:140", after := #[{ on := 23, ground := Ground.data }, { on := 33, ground := Ground.data }, { on := 20, ground := Ground.guard }], guard := some (20, false) } : Oper)) (v := ?vpa29) rfl (by kernel_rfl) (by kernel_rfl) (by kernel_rfl) (fun _ _ _ h => h) (Or.inl ⟨by rfl, ?hypa29⟩) (by assumption) ?restpa29
                  case hypa29 => intro w hSw; (try dsimp only at hSw); go_simp; all_goals (with_reducible rfl)
                  try simp only [Act.put, List.setIfInBounds_toArray, List.set_cons_zero, List.set_cons_succ]
                  refine wpAnyH_take (i := 35) (oi := ({ dst := some 109, op := Op.pick (Operand.tmp 94) (Operand.const (Value.bool true)) (Operand.tmp 108), type := 4, pos := "law.go:140", after := #[{ on := 20, ground := Ground.data }, { on := 34, ground := Ground.data }], guard := none } : Oper)) (v := ?vpa30) rfl (by kernel_rfl) (by kernel_rfl) (by kernel_rfl) (fun _ _ _ h => h) (Or.inl ⟨by rfl, ?hypa30⟩) (by assumption) ?restpa30
                  case hypa30 => intro w hSw; (try dsimp only at hSw); go_simp; all_goals (with_reducible rfl)
                  try simp only [Act.put, List.setIfInBounds_toArray, List.set_cons_zero, List.set_cons_succ]
                  refine wpAnyH_done (by kernel_rfl) ?_ _
                  go_wp2_with fail
                  go_meet
                  exact ⟨rfl, hB7⟩
                · go_simp
                  refine hK.out _ _ ?_ (fun hHeld => ?_)
                  · (try dsimp only); exact HKS.out _ (hHeld.1.alloc hHeld.1.size _)
                  clear hK K
                  try simp only [Act.put, List.setIfInBounds_toArray, List.set_cons_zero, List.set_cons_succ]
                  refine wpAnyH_ready (rs := [3]) (by kernel_rfl) (by simp) ?_
                  refine (AllReadyH.cons (o := ({ dst := some 77, op := Op.call { callee := Callee.builtin Builtin.append, args := #[Operand.tmp 75, Operand.tmp 76], argTypes := #[22, 22] }, type := 22, pos := "law.go:140", after := #[{ on := 1, ground := Ground.data }, { on := 2, ground := Ground.data }], guard := none } : Oper)) rfl (fun K hK => ?_) AllReadyH.nil)
                  have hH := hHeld.1
                  refine step_append_lies _ rfl _ _ 22 rfl wr.heap.size 3 j1 (.int .i64 0) 1 8 Try.underlying22 hi1 ky0 ky1 ky2 rfl (by decide) _ 0 _ rfl ((own_none wr.drew wr.heap.size (Nat.le_refl _)).alloc (.cells #[.int .i64 y] 3)) ⟨bx, ox, none⟩ p cx (intCells X) rfl HLX.out (HXC.out _ hH) intCells_one (by omega) (by unfold maxLen; omega) (by omega) hH.size _ rfl ?_
                  intro g2 c2 w2 hown2 hgrow2 hwhere2 hlt2
                  simp only [Nat.zero_add, List.nil_append] at hown2
                  try simp only [Nat.zero_add]
                  have hB2 : Below wr.heap.size wr w2 := hH.grown hgrow2 hH.size (fun k hk => (((own_none wr.drew wr.heap.size (Nat.le_refl _)).alloc (.cells #[.int .i64 y] 3)).lt k hk).1)
                  have hlit2 := hgrow2.cell LITA.out NEA.out
                  refine hK.out _ _ ?_ (fun hHeld => ?_)
                  · (try dsimp only); exact HKS.out _ hB2
                  clear hK K
                  try simp only [Act.put, List.setIfInBounds_toArray, List.set_cons_zero, List.set_cons_succ]
                  refine wpAnyH_ready (rs := [9]) (by kernel_rfl) (by simp) ?_
                  refine (AllReadyH.cons (o := ({ dst := some 83, op := Op.call { callee := Callee.builtin Builtin.append, args := #[Operand.tmp 77, Operand.tmp 82], argTypes := #[22, 22] }, type := 22, pos := "law.go:140", after := #[{ on := 3, ground := Ground.data }, { on := 8, ground := Ground.data }, { on := 3, ground := Ground.chain }], guard := none } : Oper)) rfl (fun K hK => ?_) AllReadyH.nil)
                  have hH3 := hHeld.1
                  refine step_append_lies _ rfl _ _ 22 rfl wr.heap.size 3 j1 (.int .i64 0) 1 8 Try.underlying22 hi1 ky0 ky1 ky2 rfl (by decide) _ p _ rfl hown2 ⟨wr.heap.size + 1, 0, none⟩ 1 1 [.int .i64 y] rfl rfl (one_cell hlit2) one_one (by omega) (by unfold maxLen; omega) (by omega) hH3.size _ rfl ?_
                  intro g4 c4 w6 hown4 hgrow4 hwhere4 hlt4
                  have hB6 : Below wr.heap.size wr w6 := hH3.grown hgrow4 hH3.size (fun k hk => (hown2.lt k hk).1)
                  have hs6 : SeqC w6 (.slice (some ⟨g4, 0, none⟩) (p + 1) c4) (X ++ [y]) := own_seqC (by rw [intCells_app]; exact hown4)
                  refine hK.out _ _ ?_ (fun hHeld => ?_)
                  · (try dsimp only); exact HKS.out _ hB6
                  clear hK K
                  try simp only [Act.put, List.setIfInBounds_toArray, List.set_cons_zero, List.set_cons_succ]
                  refine wpAnyH_ready (rs := [10]) (by kernel_rfl) (by simp) ?_
                  refine (AllReadyH.cons (o := ({ dst := some 84, op := Op.call { callee := Callee.value (Operand.func 13), args := #[Operand.tmp 74, Operand.tmp 83], argTypes := #[25, 22] }, type := 4, pos := "law.go:140", after := #[{ on := 0, ground := Ground.data }, { on := 9, ground := Ground.data }, { on := 9, ground := Ground.chain }], guard := none } : Oper)) rfl (fun K hK => ?_) AllReadyH.nil)
                  go_simp
                  refine (HLKN.out _ _ hB6 hs6).mono ?_; rintro e' w7 ⟨rfl, hB7⟩
                  refine hK.out _ _ ?_ (fun hHeld => ?_)
                  · (try dsimp only); exact HKS.out _ hB7
                  clear hK K
                  try simp only [Act.put, List.setIfInBounds_toArray, List.set_cons_zero, List.set_cons_succ]
                  refine wpAnyH_take (i := 11) (oi := ({ dst := some 85, op := Op.unOp UnOp.not 4 (Operand.tmp 84), type := 4, pos := "law.go:140", after := #[{ on := 10, ground := Ground.data }], guard := none } : Oper)) (v := ?vpa31) rfl (by kernel_rfl) (by kernel_rfl) (by kernel_rfl) (fun _ _ _ h => h) (Or.inl ⟨by rfl, ?hypa31⟩) (by assumption) ?restpa31
                  case hypa31 => intro w hSw; (try dsimp only at hSw); go_simp; all_goals (with_reducible rfl)
                  try simp only [Act.put, List.setIfInBounds_toArray, List.set_cons_zero, List.set_cons_succ]
                  refine wpAnyH_take (i := 12) (oi := ({ dst := some 86, op := Op.move (Operand.tmp 85), type := 4, pos := "law.go:140", after := #[{ on := 11, ground := Ground.data }, { on := 10, ground := Ground.chain }], guard := none } : Oper)) (v := ?vpa32) rfl (by kernel_rfl) (by kernel_rfl) (by kernel_rfl) (fun _ _ _ h => h) (Or.inl ⟨by rfl, ?hypa32⟩) (by assumption) ?restpa32
                  case hypa32 => intro w hSw; (try dsimp only at hSw); go_simp; all_goals (with_reducible rfl)
                  try simp only [Act.put, List.setIfInBounds_toArray, List.set_cons_zero, List.set_cons_succ]
                  refine wpAnyH_take (i := 13) (oi := ({ dst := some 87, op := Op.move (Operand.tmp 2), type := 22, pos := "law.go:140", after := #[{ on := 12, ground := Ground.guard }], guard := some (12, false) } : Oper)) (v := ?vpa33) rfl (by kernel_rfl) (by kernel_rfl) (by kernel_rfl) (fun _ _ _ h => h) (Or.inl ⟨by rfl, ?hypa33⟩) (by assumption) ?restpa33
                  case hypa33 => intro w hSw; (try dsimp only at hSw); go_simp; all_goals (with_reducible rfl)
                  try simp only [Act.put, List.setIfInBounds_toArray, List.set_cons_zero, List.set_cons_succ]
                  refine wpAnyH_take (i := 14) (oi := ({ dst := some 88, op := Op.move (Operand.tmp 12), type := 22, pos := "law.go:140", after := #[{ on := 12, ground := Ground.guard }], guard := some (12, false) } : Oper)) (v := ?vpa34) rfl (by kernel_rfl) (by kernel_rfl) (by kernel_rfl) (fun _ _ _ h => h) (Or.inl ⟨by rfl, ?hypa34⟩) (by assumption) ?restpa34
                  case hypa34 => intro w hSw; (try dsimp only at hSw); go_simp; all_goals (with_reducible rfl)
                  try simp only [Act.put, List.setIfInBounds_toArray, List.set_cons_zero, List.set_cons_succ]
                  refine wpAnyH_take (i := 15) (oi := ({ dst := some 89, op := Op.move (Operand.tmp 14), type := 3, pos := "law.go:140", after := #[{ on := 12, ground := Ground.guard }], guard := some (12, false) } : Oper)) (v := ?vpa35) rfl (by kernel_rfl) (by kernel_rfl) (by kernel_rfl) (fun _ _ _ h => h) (Or.inl ⟨by rfl, ?hypa35⟩) (by assumption) ?restpa35
                  case hypa35 => intro w hSw; (try dsimp only at hSw); go_simp; all_goals (with_reducible rfl)
                  try simp only [Act.put, List.setIfInBounds_toArray, List.set_cons_zero, List.set_cons_succ]
                  refine wpAnyH_take (i := 16) (oi := ({ dst := some 90, op := Op.indexAddr 22 (Operand.tmp 88) (Operand.tmp 89), type := 0, pos := "law.go:140", after := #[{ on := 14, ground := Ground.data }, { on := 15, ground := Ground.data }, { on := 12, ground := Ground.guard }], guard := some (12, false) } : Oper)) (v := ?vpa36) rfl (by kernel_rfl) (by kernel_rfl) (by kernel_rfl) (fun _ _ _ h => h) (Or.inl ⟨by rfl, ?hypa36⟩) (by assumption) ?restpa36
                  case hypa36 => intro w hSw; (try dsimp only at hSw); go_simp; all_goals (with_reducible rfl)
                  try simp only [Act.put, List.setIfInBounds_toArray, List.set_cons_zero, List.set_cons_succ]
                  refine wpAnyH_take (i := 17) (oi := ({ dst := some 91, op := Op.load 3 (Operand.tmp 90), type := 3, pos := "law.go:140", after := #[{ on := 16, ground := Ground.data }, { on := 12, ground := Ground.guard }], guard := some (12, false) } : Oper)) (v := ?vpa37) rfl (by kernel_rfl) (by kernel_rfl) (by kernel_rfl) (fun _ _ _ h => h) (Or.inl ⟨by rfl, ?hypa37⟩) (by assumption) ?restpa37
                  case hypa37 => intro w hSw; (try dsimp only at hSw); go_simp; all_goals (with_reducible rfl)
                  try simp only [Act.put, List.setIfInBounds_toArray, List.set_cons_zero, List.set_cons_succ]
                  refine wpAnyH_ready (rs := [18]) (by kernel_rfl) (by simp) ?_
                  refine (AllReadyH.cons (o := ({ dst := some 92, op := Op.call { callee := Callee.value (Operand.func 24), args := #[Operand.tmp 87, Operand.tmp 91], argTypes := #[22, 3] }, type := 4, pos := "law.go:140", after := #[{ on := 13, ground := Ground.data }, { on := 17, ground := Ground.data }, { on := 12, ground := Ground.chain }, { on := 12, ground := Ground.guard }], guard := some (12, false) } : Oper)) rfl (fun K hK => ?_) AllReadyH.nil)
                  go_simp
                  refine (HHAS.out _ hB7).mono ?_; rintro e' w8' ⟨rfl, hw⟩; obtain rfl := hw.symm
                  refine hK.out _ _ ?_ (fun hHeld => ?_)
                  · (try dsimp only); exact HKS.out _ hB7
                  clear hK K
                  try simp only [Act.put, List.setIfInBounds_toArray, List.set_cons_zero, List.set_cons_succ]
                  refine wpAnyH_take (i := 19) (oi := ({ dst := some 93, op := Op.pick (Operand.tmp 86) (Operand.const (Value.bool true)) (Operand.tmp 92), type := 4, pos := "law.go:140", after := #[{ on := 12, ground := Ground.data }, { on := 18, ground := Ground.data }], guard := none } : Oper)) (v := ?vpa38) rfl (by kernel_rfl) (by kernel_rfl) (by kernel_rfl) (fun _ _ _ h => h) (Or.inl ⟨by rfl, ?hypa38⟩) (by assumption) ?restpa38
                  case hypa38 => intro w hSw; (try dsimp only at hSw); go_simp; all_goals (with_reducible rfl)
                  try simp only [Act.put, List.setIfInBounds_toArray, List.set_cons_zero, List.set_cons_succ]
                  refine wpAnyH_take (i := 20) (oi := ({ dst := some 94, op := Op.move (Operand.tmp 93), type := 4, pos := "law.go:140", after := #[{ on := 19, ground := Ground.data }, { on := 18, ground := Ground.chain }], guard := none } : Oper)) (v := ?vpa39) rfl (by kernel_rfl) (by kernel_rfl) (by kernel_rfl) (fun _ _ _ h => h) (Or.inl ⟨by rfl, ?hypa39⟩) (by assumption) ?restpa39
                  case hypa39 => intro w hSw; (try dsimp only at hSw); go_simp; all_goals (with_reducible rfl)
                  try simp only [Act.put, List.setIfInBounds_toArray, List.set_cons_zero, List.set_cons_succ]
                  refine wpAnyH_take (i := 21) (oi := ({ dst := some 95, op := Op.move (Operand.tmp 14), type := 3, pos := "law.go:140", after := #[{ on := 20, ground := Ground.guard }], guard := some (20, false) } : Oper)) (v := ?vpa40) rfl (by kernel_rfl) (by kernel_rfl) (by kernel_rfl) (fun _ _ _ h => h) (Or.inl ⟨by rfl, ?hypa40⟩) (by assumption) ?restpa40
                  case hypa40 => intro w hSw; (try dsimp only at hSw); go_simp; all_goals (with_reducible rfl)
                  try simp only [Act.put, List.setIfInBounds_toArray, List.set_cons_zero, List.set_cons_succ]
                  refine wpAnyH_take (i := 22) (oi := ({ dst := some 96, op := Op.binOp BinOp.gtr 3 (Operand.tmp 95) (Operand.const (Value.int IntKind.i64 0)) 3, type := 4, pos := "law.go:140", after := #[{ on := 21, ground := Ground.data }, { on := 20, ground := Ground.guard }], guard := some (20, false) } : Oper)) (v := ?vpa41) rfl (by kernel_rfl) (by kernel_rfl) (by kernel_rfl) (fun _ _ _ h => h) (Or.inl ⟨by rfl, ?hypa41⟩) (by assumption) ?restpa41
                  case hypa41 => intro w hSw; (try dsimp only at hSw); go_simp; all_goals (with_reducible rfl)
                  try simp only [Act.put, List.setIfInBounds_toArray, List.set_cons_zero, List.set_cons_succ]
                  refine wpAnyH_take (i := 23) (oi := ({ dst := some 97, op := Op.move (Operand.tmp 96), type := 4, pos := "law.go:140", after := #[{ on := 22, ground := Ground.data }, { on := 20, ground := Ground.chain }, { on := 20, ground := Ground.guard }], guard := some (20, false) } : Oper)) (v := ?vpa42) rfl (by kernel_rfl) (by kernel_rfl) (by kernel_rfl) (fun _ _ _ h => h) (Or.inl ⟨by rfl, ?hypa42⟩) (by assumption) ?restpa42
                  case hypa42 => intro w hSw; (try dsimp only at hSw); go_simp; all_goals (with_reducible rfl)
                  try simp only [Act.put, List.setIfInBounds_toArray, List.set_cons_zero, List.set_cons_succ]
                  refine wpAnyH_take (i := 24) (oi := ({ dst := some 98, op := Op.move (Operand.tmp 12), type := 22, pos := "law.go:140", after := #[{ on := 23, ground := Ground.guard }], guard := some (23, true) } : Oper)) (v := undef) rfl (by kernel_rfl) (by kernel_rfl) (by kernel_rfl) (fun _ _ _ h => h) (Or.inr ⟨by rfl, rfl⟩) (by assumption) ?_
                  try simp only [Act.put, List.setIfInBounds_toArray, List.set_cons_zero, List.set_cons_succ]
                  refine wpAnyH_take (i := 25) (oi := ({ dst := some 99, op := Op.move (Operand.tmp 14), type := 3, pos := "law.go:140", after := #[{ on := 23, ground := Ground.guard }], guard := some (23, true) } : Oper)) (v := undef) rfl (by kernel_rfl) (by kernel_rfl) (by kernel_rfl) (fun _ _ _ h => h) (Or.inr ⟨by rfl, rfl⟩) (by assumption) ?_
                  try simp only [Act.put, List.setIfInBounds_toArray, List.set_cons_zero, List.set_cons_succ]
                  refine wpAnyH_take (i := 26) (oi := ({ dst := some 100, op := Op.binOp BinOp.sub 3 (Operand.tmp 99) (Operand.const (Value.int IntKind.i64 1)) 3, type := 3, pos := "law.go:140", after := #[{ on := 25, ground := Ground.data }, { on := 23, ground := Ground.guard }], guard := some (23, true) } : Oper)) (v := undef) rfl (by kernel_rfl) (by kernel_rfl) (by kernel_rfl) (fun _ _ _ h => h) (Or.inr ⟨by rfl, rfl⟩) (by assumption) ?_
                  try simp only [Act.put, List.setIfInBounds_toArray, List.set_cons_zero, List.set_cons_succ]
                  refine wpAnyH_take (i := 27) (oi := ({ dst := some 101, op := Op.indexAddr 22 (Operand.tmp 98) (Operand.tmp 100), type := 0, pos := "law.go:140", after := #[{ on := 24, ground := Ground.data }, { on := 26, ground := Ground.data }, { on := 23, ground := Ground.guard }], guard := some (23, true) } : Oper)) (v := undef) rfl (by kernel_rfl) (by kernel_rfl) (by kernel_rfl) (fun _ _ _ h => h) (Or.inr ⟨by rfl, rfl⟩) (by assumption) ?_
                  try simp only [Act.put, List.setIfInBounds_toArray, List.set_cons_zero, List.set_cons_succ]
                  refine wpAnyH_take (i := 28) (oi := ({ dst := some 102, op := Op.load 3 (Operand.tmp 101), type := 3, pos := "law.go:140", after := #[{ on := 27, ground := Ground.data }, { on := 23, ground := Ground.guard }], guard := some (23, true) } : Oper)) (v := undef) rfl (by kernel_rfl) (by kernel_rfl) (by kernel_rfl) (fun _ _ _ h => h) (Or.inr ⟨by rfl, rfl⟩) (by assumption) ?_
                  try simp only [Act.put, List.setIfInBounds_toArray, List.set_cons_zero, List.set_cons_succ]
                  refine wpAnyH_take (i := 29) (oi := ({ dst := some 103, op := Op.move (Operand.tmp 12), type := 22, pos := "law.go:140", after := #[{ on := 23, ground := Ground.guard }], guard := some (23, true) } : Oper)) (v := undef) rfl (by kernel_rfl) (by kernel_rfl) (by kernel_rfl) (fun _ _ _ h => h) (Or.inr ⟨by rfl, rfl⟩) (by assumption) ?_
                  try simp only [Act.put, List.setIfInBounds_toArray, List.set_cons_zero, List.set_cons_succ]
                  refine wpAnyH_take (i := 30) (oi := ({ dst := some 104, op := Op.move (Operand.tmp 14), type := 3, pos := "law.go:140", after := #[{ on := 23, ground := Ground.guard }], guard := some (23, true) } : Oper)) (v := undef) rfl (by kernel_rfl) (by kernel_rfl) (by kernel_rfl) (fun _ _ _ h => h) (Or.inr ⟨by rfl, rfl⟩) (by assumption) ?_
                  try simp only [Act.put, List.setIfInBounds_toArray, List.set_cons_zero, List.set_cons_succ]
                  refine wpAnyH_take (i := 31) (oi := ({ dst := some 105, op := Op.indexAddr 22 (Operand.tmp 103) (Operand.tmp 104), type := 0, pos := "law.go:140", after := #[{ on := 29, ground := Ground.data }, { on := 30, ground := Ground.data }, { on := 23, ground := Ground.guard }], guard := some (23, true) } : Oper)) (v := undef) rfl (by kernel_rfl) (by kernel_rfl) (by kernel_rfl) (fun _ _ _ h => h) (Or.inr ⟨by rfl, rfl⟩) (by assumption) ?_
                  try simp only [Act.put, List.setIfInBounds_toArray, List.set_cons_zero, List.set_cons_succ]
                  refine wpAnyH_take (i := 32) (oi := ({ dst := some 106, op := Op.load 3 (Operand.tmp 105), type := 3, pos := "law.go:140", after := #[{ on := 31, ground := Ground.data }, { on := 23, ground := Ground.guard }], guard := some (23, true) } : Oper)) (v := undef) rfl (by kernel_rfl) (by kernel_rfl) (by kernel_rfl) (fun _ _ _ h => h) (Or.inr ⟨by rfl, rfl⟩) (by assumption) ?_
                  try simp only [Act.put, List.setIfInBounds_toArray, List.set_cons_zero, List.set_cons_succ]
                  refine wpAnyH_take (i := 33) (oi := ({ dst := some 107, op := Op.binOp BinOp.geq 3 (Operand.tmp 102) (Operand.tmp 106) 3, type := 4, pos := "law.go:140", after := #[{ on := 28, ground := Ground.data }, { on := 32, ground := Ground.data }, { on := 23, ground := Ground.guard }], guard := some (23, true) } : Oper)) (v := undef) rfl (by kernel_rfl) (by kernel_rfl) (by kernel_rfl) (fun _ _ _ h => h) (Or.inr ⟨by rfl, rfl⟩) (by assumption) ?_
                  try simp only [Act.put, List.setIfInBounds_toArray, List.set_cons_zero, List.set_cons_succ]
                  refine wpAnyH_take (i := 34) (oi := ({ dst := some 108, op := Op.pick (Operand.tmp 97) (Operand.tmp 107) (Operand.const (Value.bool false)), type := 4, pos := "law.go:140", after := #[{ on := 23, ground := Ground.data }, { on := 33, ground := Ground.data }, { on := 20, ground := Ground.guard }], guard := some (20, false) } : Oper)) (v := ?vpa53) rfl (by kernel_rfl) (by kernel_rfl) (by kernel_rfl) (fun _ _ _ h => h) (Or.inl ⟨by rfl, ?hypa53⟩) (by assumption) ?restpa53
                  case hypa53 => intro w hSw; (try dsimp only at hSw); go_simp; all_goals (with_reducible rfl)
                  try simp only [Act.put, List.setIfInBounds_toArray, List.set_cons_zero, List.set_cons_succ]
                  refine wpAnyH_take (i := 35) (oi := ({ dst := some 109, op := Op.pick (Operand.tmp 94) (Operand.const (Value.bool true)) (Operand.tmp 108), type := 4, pos := "law.go:140", after := #[{ on := 20, ground := Ground.data }, { on := 34, ground := Ground.data }], guard := none } : Oper)) (v := ?vpa54) rfl (by kernel_rfl) (by kernel_rfl) (by kernel_rfl) (fun _ _ _ h => h) (Or.inl ⟨by rfl, ?hypa54⟩) (by assumption) ?restpa54
                  case hypa54 => intro w hSw; (try dsimp only at hSw); go_simp; all_goals (with_reducible rfl)
                  try simp only [Act.put, List.setIfInBounds_toArray, List.set_cons_zero, List.set_cons_succ]
                  refine wpAnyH_done (by kernel_rfl) ?_ _
                  go_wp2_with fail
                  go_meet
                  exact ⟨rfl, hB7⟩
              · go_simp
                refine hK.out _ _ ?_ (fun hHeld => ?_)
                · (try dsimp only); exact HKS.out _ (hHeld.1.alloc hHeld.1.size _)
                clear hK K
                try simp only [Act.put, List.setIfInBounds_toArray, List.set_cons_zero, List.set_cons_succ]
                refine wpAnyH_ready (rs := [1]) (by kernel_rfl) (by simp) ?_
                refine (AllReadyH.cons (o := ({ dst := some 75, op := Op.buildSlice 22 0 #[], type := 22, pos := "law.go:140", after := #[], guard := none } : Oper)) rfl (fun K hK => ?_) AllReadyH.nil)
                go_simp
                refine hK.out _ _ ?_ (fun hHeld => ?_)
                · (try dsimp only); exact HKS.out _ (hHeld.1.alloc hHeld.1.size _)
                clear hK K
                try simp only [Act.put, List.setIfInBounds_toArray, List.set_cons_zero, List.set_cons_succ]
                refine wpAnyH_ready (rs := [3]) (by kernel_rfl) (by simp) ?_
                refine (AllReadyH.cons (o := ({ dst := some 77, op := Op.call { callee := Callee.builtin Builtin.append, args := #[Operand.tmp 75, Operand.tmp 76], argTypes := #[22, 22] }, type := 22, pos := "law.go:140", after := #[{ on := 1, ground := Ground.data }, { on := 2, ground := Ground.data }], guard := none } : Oper)) rfl (fun K hK => ?_) AllReadyH.nil)
                have hH := hHeld.1
                refine step_append_lies _ rfl _ _ 22 rfl wr.heap.size 3 j1 (.int .i64 0) 1 8 Try.underlying22 hi1 ky0 ky1 ky2 rfl (by decide) _ 0 _ rfl OWN3.out ⟨bx, ox, none⟩ p cx (intCells X) rfl HLX.out (HXC.out _ hH) intCells_one (by omega) (by unfold maxLen; omega) (by omega) hH.size _ rfl ?_
                intro g2 c2 w2 hown2 hgrow2 hwhere2 hlt2
                simp only [Nat.zero_add, List.nil_append] at hown2
                try simp only [Nat.zero_add]
                have hB2 : Below wr.heap.size wr w2 := hH.grown hgrow2 hH.size (fun k hk => (OWN3.out.lt k hk).1)
                have hlit2 := hgrow2.cell LITB.out NEB.out
                refine hK.out _ _ ?_ (fun hHeld => ?_)
                · (try dsimp only); exact HKS.out _ hB2
                clear hK K
                try simp only [Act.put, List.setIfInBounds_toArray, List.set_cons_zero, List.set_cons_succ]
                refine wpAnyH_ready (rs := [9]) (by kernel_rfl) (by simp) ?_
                refine (AllReadyH.cons (o := ({ dst := some 83, op := Op.call { callee := Callee.builtin Builtin.append, args := #[Operand.tmp 77, Operand.tmp 82], argTypes := #[22, 22] }, type := 22, pos := "law.go:140", after := #[{ on := 3, ground := Ground.data }, { on := 8, ground := Ground.data }, { on := 3, ground := Ground.chain }], guard := none } : Oper)) rfl (fun K hK => ?_) AllReadyH.nil)
                have hH3 := hHeld.1
                refine step_append_lies _ rfl _ _ 22 rfl wr.heap.size 3 j1 (.int .i64 0) 1 8 Try.underlying22 hi1 ky0 ky1 ky2 rfl (by decide) _ p _ rfl hown2 ⟨wr.heap.size, 0, none⟩ 1 1 [.int .i64 y] rfl rfl (one_cell hlit2) one_one (by omega) (by unfold maxLen; omega) (by omega) hH3.size _ rfl ?_
                intro g4 c4 w6 hown4 hgrow4 hwhere4 hlt4
                have hB6 : Below wr.heap.size wr w6 := hH3.grown hgrow4 hH3.size (fun k hk => (hown2.lt k hk).1)
                have hs6 : SeqC w6 (.slice (some ⟨g4, 0, none⟩) (p + 1) c4) (X ++ [y]) := own_seqC (by rw [intCells_app]; exact hown4)
                refine hK.out _ _ ?_ (fun hHeld => ?_)
                · (try dsimp only); exact HKS.out _ hB6
                clear hK K
                try simp only [Act.put, List.setIfInBounds_toArray, List.set_cons_zero, List.set_cons_succ]
                refine wpAnyH_ready (rs := [10]) (by kernel_rfl) (by simp) ?_
                refine (AllReadyH.cons (o := ({ dst := some 84, op := Op.call { callee := Callee.value (Operand.func 13), args := #[Operand.tmp 74, Operand.tmp 83], argTypes := #[25, 22] }, type := 4, pos := "law.go:140", after := #[{ on := 0, ground := Ground.data }, { on := 9, ground := Ground.data }, { on := 9, ground := Ground.chain }], guard := none } : Oper)) rfl (fun K hK => ?_) AllReadyH.nil)
                go_simp
                refine (HLKN.out _ _ hB6 hs6).mono ?_; rintro e' w7 ⟨rfl, hB7⟩
                refine hK.out _ _ ?_ (fun hHeld => ?_)
                · (try dsimp only); exact HKS.out _ hB7
                clear hK K
                try simp only [Act.put, List.setIfInBounds_toArray, List.set_cons_zero, List.set_cons_succ]
                refine wpAnyH_take (i := 11) (oi := ({ dst := some 85, op := Op.unOp UnOp.not 4 (Operand.tmp 84), type := 4, pos := "law.go:140", after := #[{ on := 10, ground := Ground.data }], guard := none } : Oper)) (v := ?vpa55) rfl (by kernel_rfl) (by kernel_rfl) (by kernel_rfl) (fun _ _ _ h => h) (Or.inl ⟨by rfl, ?hypa55⟩) (by assumption) ?restpa55
                case hypa55 => intro w hSw; (try dsimp only at hSw); go_simp; all_goals (with_reducible rfl)
                try simp only [Act.put, List.setIfInBounds_toArray, List.set_cons_zero, List.set_cons_succ]
                refine wpAnyH_take (i := 12) (oi := ({ dst := some 86, op := Op.move (Operand.tmp 85), type := 4, pos := "law.go:140", after := #[{ on := 11, ground := Ground.data }, { on := 10, ground := Ground.chain }], guard := none } : Oper)) (v := ?vpa56) rfl (by kernel_rfl) (by kernel_rfl) (by kernel_rfl) (fun _ _ _ h => h) (Or.inl ⟨by rfl, ?hypa56⟩) (by assumption) ?restpa56
                case hypa56 => intro w hSw; (try dsimp only at hSw); go_simp; all_goals (with_reducible rfl)
                try simp only [Act.put, List.setIfInBounds_toArray, List.set_cons_zero, List.set_cons_succ]
                refine wpAnyH_take (i := 13) (oi := ({ dst := some 87, op := Op.move (Operand.tmp 2), type := 22, pos := "law.go:140", after := #[{ on := 12, ground := Ground.guard }], guard := some (12, false) } : Oper)) (v := ?vpa57) rfl (by kernel_rfl) (by kernel_rfl) (by kernel_rfl) (fun _ _ _ h => h) (Or.inl ⟨by rfl, ?hypa57⟩) (by assumption) ?restpa57
                case hypa57 => intro w hSw; (try dsimp only at hSw); go_simp; all_goals (with_reducible rfl)
                try simp only [Act.put, List.setIfInBounds_toArray, List.set_cons_zero, List.set_cons_succ]
                refine wpAnyH_take (i := 14) (oi := ({ dst := some 88, op := Op.move (Operand.tmp 12), type := 22, pos := "law.go:140", after := #[{ on := 12, ground := Ground.guard }], guard := some (12, false) } : Oper)) (v := ?vpa58) rfl (by kernel_rfl) (by kernel_rfl) (by kernel_rfl) (fun _ _ _ h => h) (Or.inl ⟨by rfl, ?hypa58⟩) (by assumption) ?restpa58
                case hypa58 => intro w hSw; (try dsimp only at hSw); go_simp; all_goals (with_reducible rfl)
                try simp only [Act.put, List.setIfInBounds_toArray, List.set_cons_zero, List.set_cons_succ]
                refine wpAnyH_take (i := 15) (oi := ({ dst := some 89, op := Op.move (Operand.tmp 14), type := 3, pos := "law.go:140", after := #[{ on := 12, ground := Ground.guard }], guard := some (12, false) } : Oper)) (v := ?vpa59) rfl (by kernel_rfl) (by kernel_rfl) (by kernel_rfl) (fun _ _ _ h => h) (Or.inl ⟨by rfl, ?hypa59⟩) (by assumption) ?restpa59
                case hypa59 => intro w hSw; (try dsimp only at hSw); go_simp; all_goals (with_reducible rfl)
                try simp only [Act.put, List.setIfInBounds_toArray, List.set_cons_zero, List.set_cons_succ]
                refine wpAnyH_take (i := 16) (oi := ({ dst := some 90, op := Op.indexAddr 22 (Operand.tmp 88) (Operand.tmp 89), type := 0, pos := "law.go:140", after := #[{ on := 14, ground := Ground.data }, { on := 15, ground := Ground.data }, { on := 12, ground := Ground.guard }], guard := some (12, false) } : Oper)) (v := ?vpa60) rfl (by kernel_rfl) (by kernel_rfl) (by kernel_rfl) (fun _ _ _ h => h) (Or.inl ⟨by rfl, ?hypa60⟩) (by assumption) ?restpa60
                case hypa60 => intro w hSw; (try dsimp only at hSw); go_simp; all_goals (with_reducible rfl)
                try simp only [Act.put, List.setIfInBounds_toArray, List.set_cons_zero, List.set_cons_succ]
                refine wpAnyH_take (i := 17) (oi := ({ dst := some 91, op := Op.load 3 (Operand.tmp 90), type := 3, pos := "law.go:140", after := #[{ on := 16, ground := Ground.data }, { on := 12, ground := Ground.guard }], guard := some (12, false) } : Oper)) (v := ?vpa61) rfl (by kernel_rfl) (by kernel_rfl) (by kernel_rfl) (fun _ _ _ h => h) (Or.inl ⟨by rfl, ?hypa61⟩) (by assumption) ?restpa61
                case hypa61 => intro w hSw; (try dsimp only at hSw); go_simp; all_goals (with_reducible rfl)
                try simp only [Act.put, List.setIfInBounds_toArray, List.set_cons_zero, List.set_cons_succ]
                refine wpAnyH_ready (rs := [18]) (by kernel_rfl) (by simp) ?_
                refine (AllReadyH.cons (o := ({ dst := some 92, op := Op.call { callee := Callee.value (Operand.func 24), args := #[Operand.tmp 87, Operand.tmp 91], argTypes := #[22, 3] }, type := 4, pos := "law.go:140", after := #[{ on := 13, ground := Ground.data }, { on := 17, ground := Ground.data }, { on := 12, ground := Ground.chain }, { on := 12, ground := Ground.guard }], guard := some (12, false) } : Oper)) rfl (fun K hK => ?_) AllReadyH.nil)
                go_simp
                refine (HHAS.out _ hB7).mono ?_; rintro e' w8' ⟨rfl, hw⟩; obtain rfl := hw.symm
                refine hK.out _ _ ?_ (fun hHeld => ?_)
                · (try dsimp only); exact HKS.out _ hB7
                clear hK K
                try simp only [Act.put, List.setIfInBounds_toArray, List.set_cons_zero, List.set_cons_succ]
                refine wpAnyH_take (i := 19) (oi := ({ dst := some 93, op := Op.pick (Operand.tmp 86) (Operand.const (Value.bool true)) (Operand.tmp 92), type := 4, pos := "law.go:140", after := #[{ on := 12, ground := Ground.data }, { on := 18, ground := Ground.data }], guard := none } : Oper)) (v := ?vpa62) rfl (by kernel_rfl) (by kernel_rfl) (by kernel_rfl) (fun _ _ _ h => h) (Or.inl ⟨by rfl, ?hypa62⟩) (by assumption) ?restpa62
                case hypa62 => intro w hSw; (try dsimp only at hSw); go_simp; all_goals (with_reducible rfl)
                try simp only [Act.put, List.setIfInBounds_toArray, List.set_cons_zero, List.set_cons_succ]
                refine wpAnyH_take (i := 20) (oi := ({ dst := some 94, op := Op.move (Operand.tmp 93), type := 4, pos := "law.go:140", after := #[{ on := 19, ground := Ground.data }, { on := 18, ground := Ground.chain }], guard := none } : Oper)) (v := ?vpa63) rfl (by kernel_rfl) (by kernel_rfl) (by kernel_rfl) (fun _ _ _ h => h) (Or.inl ⟨by rfl, ?hypa63⟩) (by assumption) ?restpa63
                case hypa63 => intro w hSw; (try dsimp only at hSw); go_simp; all_goals (with_reducible rfl)
                try simp only [Act.put, List.setIfInBounds_toArray, List.set_cons_zero, List.set_cons_succ]
                refine wpAnyH_take (i := 21) (oi := ({ dst := some 95, op := Op.move (Operand.tmp 14), type := 3, pos := "law.go:140", after := #[{ on := 20, ground := Ground.guard }], guard := some (20, false) } : Oper)) (v := ?vpa64) rfl (by kernel_rfl) (by kernel_rfl) (by kernel_rfl) (fun _ _ _ h => h) (Or.inl ⟨by rfl, ?hypa64⟩) (by assumption) ?restpa64
                case hypa64 => intro w hSw; (try dsimp only at hSw); go_simp; all_goals (with_reducible rfl)
                try simp only [Act.put, List.setIfInBounds_toArray, List.set_cons_zero, List.set_cons_succ]
                refine wpAnyH_take (i := 22) (oi := ({ dst := some 96, op := Op.binOp BinOp.gtr 3 (Operand.tmp 95) (Operand.const (Value.int IntKind.i64 0)) 3, type := 4, pos := "law.go:140", after := #[{ on := 21, ground := Ground.data }, { on := 20, ground := Ground.guard }], guard := some (20, false) } : Oper)) (v := ?vpa65) rfl (by kernel_rfl) (by kernel_rfl) (by kernel_rfl) (fun _ _ _ h => h) (Or.inl ⟨by rfl, ?hypa65⟩) (by assumption) ?restpa65
                case hypa65 => intro w hSw; (try dsimp only at hSw); go_simp; all_goals (with_reducible rfl)
                try simp only [Act.put, List.setIfInBounds_toArray, List.set_cons_zero, List.set_cons_succ]
                refine wpAnyH_take (i := 23) (oi := ({ dst := some 97, op := Op.move (Operand.tmp 96), type := 4, pos := "law.go:140", after := #[{ on := 22, ground := Ground.data }, { on := 20, ground := Ground.chain }, { on := 20, ground := Ground.guard }], guard := some (20, false) } : Oper)) (v := ?vpa66) rfl (by kernel_rfl) (by kernel_rfl) (by kernel_rfl) (fun _ _ _ h => h) (Or.inl ⟨by rfl, ?hypa66⟩) (by assumption) ?restpa66
                case hypa66 => intro w hSw; (try dsimp only at hSw); go_simp; all_goals (with_reducible rfl)
                try simp only [Act.put, List.setIfInBounds_toArray, List.set_cons_zero, List.set_cons_succ]
                refine wpAnyH_take (i := 24) (oi := ({ dst := some 98, op := Op.move (Operand.tmp 12), type := 22, pos := "law.go:140", after := #[{ on := 23, ground := Ground.guard }], guard := some (23, true) } : Oper)) (v := undef) rfl (by kernel_rfl) (by kernel_rfl) (by kernel_rfl) (fun _ _ _ h => h) (Or.inr ⟨by rfl, rfl⟩) (by assumption) ?_
                try simp only [Act.put, List.setIfInBounds_toArray, List.set_cons_zero, List.set_cons_succ]
                refine wpAnyH_take (i := 25) (oi := ({ dst := some 99, op := Op.move (Operand.tmp 14), type := 3, pos := "law.go:140", after := #[{ on := 23, ground := Ground.guard }], guard := some (23, true) } : Oper)) (v := undef) rfl (by kernel_rfl) (by kernel_rfl) (by kernel_rfl) (fun _ _ _ h => h) (Or.inr ⟨by rfl, rfl⟩) (by assumption) ?_
                try simp only [Act.put, List.setIfInBounds_toArray, List.set_cons_zero, List.set_cons_succ]
                refine wpAnyH_take (i := 26) (oi := ({ dst := some 100, op := Op.binOp BinOp.sub 3 (Operand.tmp 99) (Operand.const (Value.int IntKind.i64 1)) 3, type := 3, pos := "law.go:140", after := #[{ on := 25, ground := Ground.data }, { on := 23, ground := Ground.guard }], guard := some (23, true) } : Oper)) (v := undef) rfl (by kernel_rfl) (by kernel_rfl) (by kernel_rfl) (fun _ _ _ h => h) (Or.inr ⟨by rfl, rfl⟩) (by assumption) ?_
                try simp only [Act.put, List.setIfInBounds_toArray, List.set_cons_zero, List.set_cons_succ]
                refine wpAnyH_take (i := 27) (oi := ({ dst := some 101, op := Op.indexAddr 22 (Operand.tmp 98) (Operand.tmp 100), type := 0, pos := "law.go:140", after := #[{ on := 24, ground := Ground.data }, { on := 26, ground := Ground.data }, { on := 23, ground := Ground.guard }], guard := some (23, true) } : Oper)) (v := undef) rfl (by kernel_rfl) (by kernel_rfl) (by kernel_rfl) (fun _ _ _ h => h) (Or.inr ⟨by rfl, rfl⟩) (by assumption) ?_
                try simp only [Act.put, List.setIfInBounds_toArray, List.set_cons_zero, List.set_cons_succ]
                refine wpAnyH_take (i := 28) (oi := ({ dst := some 102, op := Op.load 3 (Operand.tmp 101), type := 3, pos := "law.go:140", after := #[{ on := 27, ground := Ground.data }, { on := 23, ground := Ground.guard }], guard := some (23, true) } : Oper)) (v := undef) rfl (by kernel_rfl) (by kernel_rfl) (by kernel_rfl) (fun _ _ _ h => h) (Or.inr ⟨by rfl, rfl⟩) (by assumption) ?_
                try simp only [Act.put, List.setIfInBounds_toArray, List.set_cons_zero, List.set_cons_succ]
                refine wpAnyH_take (i := 29) (oi := ({ dst := some 103, op := Op.move (Operand.tmp 12), type := 22, pos := "law.go:140", after := #[{ on := 23, ground := Ground.guard }], guard := some (23, true) } : Oper)) (v := undef) rfl (by kernel_rfl) (by kernel_rfl) (by kernel_rfl) (fun _ _ _ h => h) (Or.inr ⟨by rfl, rfl⟩) (by assumption) ?_
                try simp only [Act.put, List.setIfInBounds_toArray, List.set_cons_zero, List.set_cons_succ]
                refine wpAnyH_take (i := 30) (oi := ({ dst := some 104, op := Op.move (Operand.tmp 14), type := 3, pos := "law.go:140", after := #[{ on := 23, ground := Ground.guard }], guard := some (23, true) } : Oper)) (v := undef) rfl (by kernel_rfl) (by kernel_rfl) (by kernel_rfl) (fun _ _ _ h => h) (Or.inr ⟨by rfl, rfl⟩) (by assumption) ?_
                try simp only [Act.put, List.setIfInBounds_toArray, List.set_cons_zero, List.set_cons_succ]
                refine wpAnyH_take (i := 31) (oi := ({ dst := some 105, op := Op.indexAddr 22 (Operand.tmp 103) (Operand.tmp 104), type := 0, pos := "law.go:140", after := #[{ on := 29, ground := Ground.data }, { on := 30, ground := Ground.data }, { on := 23, ground := Ground.guard }], guard := some (23, true) } : Oper)) (v := undef) rfl (by kernel_rfl) (by kernel_rfl) (by kernel_rfl) (fun _ _ _ h => h) (Or.inr ⟨by rfl, rfl⟩) (by assumption) ?_
                try simp only [Act.put, List.setIfInBounds_toArray, List.set_cons_zero, List.set_cons_succ]
                refine wpAnyH_take (i := 32) (oi := ({ dst := some 106, op := Op.load 3 (Operand.tmp 105), type := 3, pos := "law.go:140", after := #[{ on := 31, ground := Ground.data }, { on := 23, ground := Ground.guard }], guard := some (23, true) } : Oper)) (v := undef) rfl (by kernel_rfl) (by kernel_rfl) (by kernel_rfl) (fun _ _ _ h => h) (Or.inr ⟨by rfl, rfl⟩) (by assumption) ?_
                try simp only [Act.put, List.setIfInBounds_toArray, List.set_cons_zero, List.set_cons_succ]
                refine wpAnyH_take (i := 33) (oi := ({ dst := some 107, op := Op.binOp BinOp.geq 3 (Operand.tmp 102) (Operand.tmp 106) 3, type := 4, pos := "law.go:140", after := #[{ on := 28, ground := Ground.data }, { on := 32, ground := Ground.data }, { on := 23, ground := Ground.guard }], guard := some (23, true) } : Oper)) (v := undef) rfl (by kernel_rfl) (by kernel_rfl) (by kernel_rfl) (fun _ _ _ h => h) (Or.inr ⟨by rfl, rfl⟩) (by assumption) ?_
                try simp only [Act.put, List.setIfInBounds_toArray, List.set_cons_zero, List.set_cons_succ]
                refine wpAnyH_take (i := 34) (oi := ({ dst := some 108, op := Op.pick (Operand.tmp 97) (Operand.tmp 107) (Operand.const (Value.bool false)), type := 4, pos := "law.go:140", after := #[{ on := 23, ground := Ground.data }, { on := 33, ground := Ground.data }, { on := 20, ground := Ground.guard }], guard := some (20, false) } : Oper)) (v := ?vpa77) rfl (by kernel_rfl) (by kernel_rfl) (by kernel_rfl) (fun _ _ _ h => h) (Or.inl ⟨by rfl, ?hypa77⟩) (by assumption) ?restpa77
                case hypa77 => intro w hSw; (try dsimp only at hSw); go_simp; all_goals (with_reducible rfl)
                try simp only [Act.put, List.setIfInBounds_toArray, List.set_cons_zero, List.set_cons_succ]
                refine wpAnyH_take (i := 35) (oi := ({ dst := some 109, op := Op.pick (Operand.tmp 94) (Operand.const (Value.bool true)) (Operand.tmp 108), type := 4, pos := "law.go:140", after := #[{ on := 20, ground := Ground.data }, { on := 34, ground := Ground.data }], guard := none } : Oper)) (v := ?vpa78) rfl (by kernel_rfl) (by kernel_rfl) (by kernel_rfl) (fun _ _ _ h => h) (Or.inl ⟨by rfl, ?hypa78⟩) (by assumption) ?restpa78
                case hypa78 => intro w hSw; (try dsimp only at hSw); go_simp; all_goals (with_reducible rfl)
                try simp only [Act.put, List.setIfInBounds_toArray, List.set_cons_zero, List.set_cons_succ]
                refine wpAnyH_done (by kernel_rfl) ?_ _
                go_wp2_with fail
                go_meet
                exact ⟨rfl, hB7⟩
            case rest =>
              obtain ⟨rfl, hbx⟩ := hcut
              have HBX := Lib.hid (HBi.out.trans (hbx.mono HBi.out.size))
              clear hbx
              go_wp2_with fail
              go_roundg (q - (i + 1))
              case rel => exact ⟨i + 1, HIT.out, rfl, by go_num, HBX.out⟩
              case measure => have := HIT.out; omega
          · have t6 : decide ((0 : Int) < i) = true := decide_eq_true (by omega)
            have t6' : decide (0 < i) = true := decide_eq_true h0
            obtain ⟨bn', on', hAn', hyc'⟩ := seqPos (HN8.out.below hB (Nat.le_refl _)) (i := i - 1) (by omega)
            injection hAn' with hAn'
            injection hAn' with e1 e2
            subst e1 e2
            obtain ⟨y', hy'⟩ : ∃ y, N.getD (i - 1) 0 = y := ⟨_, rfl⟩
            have hris : y' < y := by
              rw [← hy, ← hy', show N.getD i 0 = N[i] by simp [List.getD, hiN], show N.getD (i - 1) 0 = N[i - 1]'(by omega) by simp [List.getD, show i - 1 < N.length by omega]]
              exact List.pairwise_iff_getElem.1 HNR.out (i - 1) i (by omega) hiN (by omega)
            rw [hy'] at hyc'
            have hlt' := cellLt hyc'
            have t7 : decide (y ≤ y') = false := decide_eq_false (by omega)
            have j4 : (0 : Int) ≤ (i : Int) - 1 := by omega
            have j5 : (i : Int) - 1 < q := by omega
            have j6 : IntKind.i64.wrap ((i : Int) - 1) = (i : Int) - 1 := by rw [IntKind.wrap_i64]; omega
            have j8 : (1 : Int) ≤ i := by omega
            have j7 : ((i : Int) - 1).toNat = i - 1 := by omega
            have HKS := Lib.hid (fun (W : World) (hb : Below wr.heap.size wr W) => (show Below wr.heap.size wr W ∧ W.cell? ⟨bn, on + i, none⟩ = some (.int .i64 y) ∧ W.cell? ⟨bn, on + (i - 1), none⟩ = some (.int .i64 y') from ⟨hb, (hb.cell (p := ⟨bn, on + i, none⟩) hlt).trans hyc, (hb.cell (p := ⟨bn, on + (i - 1), none⟩) hlt').trans hyc'⟩))
            clear hit hiN hbw hmem hy n1 n2 hxw hls hlz o3 lA hlt hB hy' hris hlt'
            go_upto_region 15 with fail
            go_cut [109] (fun x wx => x = .bool false ∧ Below wr.heap.size wr wx)
            case first =>
              refine wp_region_held_drew (S := fun w' => Below wr.heap.size wr w' ∧ w'.cell? ⟨bn, on + i, none⟩ = some (.int .i64 y) ∧ w'.cell? ⟨bn, on + (i - 1), none⟩ = some (.int .i64 y')) (by kernel_rfl) ?_ (fun hHeld => ?_)
              · (try dsimp only); exact HKS.out _ (below_drewN' (Below.refl _ _) 1)
              refine wpAnyH_take (i := 0) (oi := ({ dst := some 74, op := Op.move (Operand.tmp 7), type := 25, pos := "law.go:140", after := #[], guard := none } : Oper)) (v := ?vpb1) rfl (by kernel_rfl) (by kernel_rfl) (by kernel_rfl) (fun _ _ _ h => h) (Or.inl ⟨by rfl, ?hypb1⟩) (by assumption) ?restpb1
              case hypb1 => intro w hSw; (try dsimp only at hSw); go_simp; all_goals (with_reducible rfl)
              try simp only [Act.put, List.setIfInBounds_toArray, List.set_cons_zero, List.set_cons_succ]
              refine wpAnyH_take (i := 2) (oi := ({ dst := some 76, op := Op.move (Operand.tmp 2), type := 22, pos := "law.go:140", after := #[], guard := none } : Oper)) (v := ?vpb2) rfl (by kernel_rfl) (by kernel_rfl) (by kernel_rfl) (fun _ _ _ h => h) (Or.inl ⟨by rfl, ?hypb2⟩) (by assumption) ?restpb2
              case hypb2 => intro w hSw; (try dsimp only at hSw); go_simp; all_goals (with_reducible rfl)
              try simp only [Act.put, List.setIfInBounds_toArray, List.set_cons_zero, List.set_cons_succ]
              refine wpAnyH_take (i := 4) (oi := ({ dst := some 78, op := Op.move (Operand.tmp 12), type := 22, pos := "law.go:140", after := #[], guard := none } : Oper)) (v := ?vpb3) rfl (by kernel_rfl) (by kernel_rfl) (by kernel_rfl) (fun _ _ _ h => h) (Or.inl ⟨by rfl, ?hypb3⟩) (by assumption) ?restpb3
              case hypb3 => intro w hSw; (try dsimp only at hSw); go_simp; all_goals (with_reducible rfl)
              try simp only [Act.put, List.setIfInBounds_toArray, List.set_cons_zero, List.set_cons_succ]
              refine wpAnyH_take (i := 5) (oi := ({ dst := some 79, op := Op.move (Operand.tmp 14), type := 3, pos := "law.go:140", after := #[], guard := none } : Oper)) (v := ?vpb4) rfl (by kernel_rfl) (by kernel_rfl) (by kernel_rfl) (fun _ _ _ h => h) (Or.inl ⟨by rfl, ?hypb4⟩) (by assumption) ?restpb4
              case hypb4 => intro w hSw; (try dsimp only at hSw); go_simp; all_goals (with_reducible rfl)
              try simp only [Act.put, List.setIfInBounds_toArray, List.set_cons_zero, List.set_cons_succ]
              refine wpAnyH_take (i := 6) (oi := ({ dst := some 80, op := Op.indexAddr 22 (Operand.tmp 78) (Operand.tmp 79), type := 0, pos := "law.go:140", after := #[{ on := 4, ground := Ground.data }, { on := 5, ground := Ground.data }], guard := none } : Oper)) (v := ?vpb5) rfl (by kernel_rfl) (by kernel_rfl) (by kernel_rfl) (fun _ _ _ h => h) (Or.inl ⟨by rfl, ?hypb5⟩) (by assumption) ?restpb5
              case hypb5 => intro w hSw; (try dsimp only at hSw); go_simp; all_goals (with_reducible rfl)
              try simp only [Act.put, List.setIfInBounds_toArray, List.set_cons_zero, List.set_cons_succ]
              refine wpAnyH_take (i := 7) (oi := ({ dst := some 81, op := Op.load 3 (Operand.tmp 80), type := 3, pos := "law.go:140", after := #[{ on := 6, ground := Ground.data }], guard := none } : Oper)) (v := ?vpb6) rfl (by kernel_rfl) (by kernel_rfl) (by kernel_rfl) (fun _ _ _ h => h) (Or.inl ⟨by rfl, ?hypb6⟩) (by assumption) ?restpb6
              case hypb6 => intro w hSw; (try dsimp only at hSw); go_simp; all_goals (with_reducible rfl)
              try simp only [Act.put, List.setIfInBounds_toArray, List.set_cons_zero, List.set_cons_succ]
              refine wpAnyH_ready (rs := [1, 8]) (by kernel_rfl) (by simp) ?_
              refine (AllReadyH.cons (o := ({ dst := some 75, op := Op.buildSlice 22 0 #[], type := 22, pos := "law.go:140", after := #[], guard := none } : Oper)) rfl (fun K hK => ?_) (AllReadyH.cons (o := ({ dst := some 82, op := Op.buildSlice 22 1 #[(0, Operand.tmp 81)], type := 22, pos := "law.go:140", after := #[{ on := 7, ground := Ground.data }], guard := none } : Oper)) rfl (fun K hK => ?_) AllReadyH.nil))
              · go_simp
                refine hK.out _ _ ?_ (fun hHeld => ?_)
                · (try dsimp only); exact HKS.out _ (hHeld.1.alloc hHeld.1.size _)
                clear hK K
                try simp only [Act.put, List.setIfInBounds_toArray, List.set_cons_zero, List.set_cons_succ]
                refine wpAnyH_ready (rs := [3, 8]) (by kernel_rfl) (by simp) ?_
                refine (AllReadyH.cons (o := ({ dst := some 77, op := Op.call { callee := Callee.builtin Builtin.append, args := #[Operand.tmp 75, Operand.tmp 76], argTypes := #[22, 22] }, type := 22, pos := "law.go:140", after := #[{ on := 1, ground := Ground.data }, { on := 2, ground := Ground.data }], guard := none } : Oper)) rfl (fun K hK => ?_) (AllReadyH.cons (o := ({ dst := some 82, op := Op.buildSlice 22 1 #[(0, Operand.tmp 81)], type := 22, pos := "law.go:140", after := #[{ on := 7, ground := Ground.data }], guard := none } : Oper)) rfl (fun K hK => ?_) AllReadyH.nil))
                · have hH := hHeld.1
                  refine step_append_lies _ rfl _ _ 22 rfl wr.heap.size 3 j1 (.int .i64 0) 1 8 Try.underlying22 hi1 ky0 ky1 ky2 rfl (by decide) _ 0 _ rfl (own_none wr.drew wr.heap.size (Nat.le_refl _)) ⟨bx, ox, none⟩ p cx (intCells X) rfl HLX.out (HXC.out _ hH) intCells_one (by omega) (by unfold maxLen; omega) (by omega) hH.size _ rfl ?_
                  intro g2 c2 w2 hown2 hgrow2 hwhere2 hlt2
                  simp only [Nat.zero_add, List.nil_append] at hown2
                  try simp only [Nat.zero_add]
                  have hB2 : Below wr.heap.size wr w2 := hH.grown hgrow2 hH.size (fun k hk => ((own_none wr.drew wr.heap.size (Nat.le_refl _)).lt k hk).1)
                  refine hK.out _ _ ?_ (fun hHeld => ?_)
                  · (try dsimp only); exact HKS.out _ hB2
                  clear hK K
                  try simp only [Act.put, List.setIfInBounds_toArray, List.set_cons_zero, List.set_cons_succ]
                  refine wpAnyH_ready (rs := [8]) (by kernel_rfl) (by simp) ?_
                  refine (AllReadyH.cons (o := ({ dst := some 82, op := Op.buildSlice 22 1 #[(0, Operand.tmp 81)], type := 22, pos := "law.go:140", after := #[{ on := 7, ground := Ground.data }], guard := none } : Oper)) rfl (fun K hK => ?_) AllReadyH.nil)
                  go_simp
                  refine hK.out _ _ ?_ (fun hHeld => ?_)
                  · (try dsimp only); exact HKS.out _ (hHeld.1.alloc hHeld.1.size _)
                  clear hK K
                  try simp only [Act.put, List.setIfInBounds_toArray, List.set_cons_zero, List.set_cons_succ]
                  refine wpAnyH_ready (rs := [9]) (by kernel_rfl) (by simp) ?_
                  refine (AllReadyH.cons (o := ({ dst := some 83, op := Op.call { callee := Callee.builtin Builtin.append, args := #[Operand.tmp 77, Operand.tmp 82], argTypes := #[22, 22] }, type := 22, pos := "law.go:140", after := #[{ on := 3, ground := Ground.data }, { on := 8, ground := Ground.data }, { on := 3, ground := Ground.chain }], guard := none } : Oper)) rfl (fun K hK => ?_) AllReadyH.nil)
                  have hH3 := hHeld.1
                  refine step_append_lies _ rfl _ _ 22 rfl wr.heap.size 3 j1 (.int .i64 0) 1 8 Try.underlying22 hi1 ky0 ky1 ky2 rfl (by decide) _ p _ rfl (hown2.alloc (.cells #[.int .i64 y] 3)) ⟨w2.heap.size, 0, none⟩ 1 1 [.int .i64 y] rfl rfl (cells_one w2 y) one_one (by omega) (by unfold maxLen; omega) (by omega) hH3.size _ rfl ?_
                  intro g4 c4 w6 hown4 hgrow4 hwhere4 hlt4
                  have hB6 : Below wr.heap.size wr w6 := hH3.grown hgrow4 hH3.size (fun k hk => ((hown2.alloc (.cells #[.int .i64 y] 3)).lt k hk).1)
                  have hs6 : SeqC w6 (.slice (some ⟨g4, 0, none⟩) (p + 1) c4) (X ++ [y]) := own_seqC (by rw [intCells_app]; exact hown4)
                  refine hK.out _ _ ?_ (fun hHeld => ?_)
                  · (try dsimp only); exact HKS.out _ hB6
                  clear hK K
                  try simp only [Act.put, List.setIfInBounds_toArray, List.set_cons_zero, List.set_cons_succ]
                  refine wpAnyH_ready (rs := [10]) (by kernel_rfl) (by simp) ?_
                  refine (AllReadyH.cons (o := ({ dst := some 84, op := Op.call { callee := Callee.value (Operand.func 13), args := #[Operand.tmp 74, Operand.tmp 83], argTypes := #[25, 22] }, type := 4, pos := "law.go:140", after := #[{ on := 0, ground := Ground.data }, { on := 9, ground := Ground.data }, { on := 9, ground := Ground.chain }], guard := none } : Oper)) rfl (fun K hK => ?_) AllReadyH.nil)
                  go_simp
                  refine (HLKN.out _ _ hB6 hs6).mono ?_; rintro e' w7 ⟨rfl, hB7⟩
                  refine hK.out _ _ ?_ (fun hHeld => ?_)
                  · (try dsimp only); exact HKS.out _ hB7
                  clear hK K
                  try simp only [Act.put, List.setIfInBounds_toArray, List.set_cons_zero, List.set_cons_succ]
                  refine wpAnyH_take (i := 11) (oi := ({ dst := some 85, op := Op.unOp UnOp.not 4 (Operand.tmp 84), type := 4, pos := "law.go:140", after := #[{ on := 10, ground := Ground.data }], guard := none } : Oper)) (v := ?vpb7) rfl (by kernel_rfl) (by kernel_rfl) (by kernel_rfl) (fun _ _ _ h => h) (Or.inl ⟨by rfl, ?hypb7⟩) (by assumption) ?restpb7
                  case hypb7 => intro w hSw; (try dsimp only at hSw); go_simp; all_goals (with_reducible rfl)
                  try simp only [Act.put, List.setIfInBounds_toArray, List.set_cons_zero, List.set_cons_succ]
                  refine wpAnyH_take (i := 12) (oi := ({ dst := some 86, op := Op.move (Operand.tmp 85), type := 4, pos := "law.go:140", after := #[{ on := 11, ground := Ground.data }, { on := 10, ground := Ground.chain }], guard := none } : Oper)) (v := ?vpb8) rfl (by kernel_rfl) (by kernel_rfl) (by kernel_rfl) (fun _ _ _ h => h) (Or.inl ⟨by rfl, ?hypb8⟩) (by assumption) ?restpb8
                  case hypb8 => intro w hSw; (try dsimp only at hSw); go_simp; all_goals (with_reducible rfl)
                  try simp only [Act.put, List.setIfInBounds_toArray, List.set_cons_zero, List.set_cons_succ]
                  refine wpAnyH_take (i := 13) (oi := ({ dst := some 87, op := Op.move (Operand.tmp 2), type := 22, pos := "law.go:140", after := #[{ on := 12, ground := Ground.guard }], guard := some (12, false) } : Oper)) (v := ?vpb9) rfl (by kernel_rfl) (by kernel_rfl) (by kernel_rfl) (fun _ _ _ h => h) (Or.inl ⟨by rfl, ?hypb9⟩) (by assumption) ?restpb9
                  case hypb9 => intro w hSw; (try dsimp only at hSw); go_simp; all_goals (with_reducible rfl)
                  try simp only [Act.put, List.setIfInBounds_toArray, List.set_cons_zero, List.set_cons_succ]
                  refine wpAnyH_take (i := 14) (oi := ({ dst := some 88, op := Op.move (Operand.tmp 12), type := 22, pos := "law.go:140", after := #[{ on := 12, ground := Ground.guard }], guard := some (12, false) } : Oper)) (v := ?vpb10) rfl (by kernel_rfl) (by kernel_rfl) (by kernel_rfl) (fun _ _ _ h => h) (Or.inl ⟨by rfl, ?hypb10⟩) (by assumption) ?restpb10
                  case hypb10 => intro w hSw; (try dsimp only at hSw); go_simp; all_goals (with_reducible rfl)
                  try simp only [Act.put, List.setIfInBounds_toArray, List.set_cons_zero, List.set_cons_succ]
                  refine wpAnyH_take (i := 15) (oi := ({ dst := some 89, op := Op.move (Operand.tmp 14), type := 3, pos := "law.go:140", after := #[{ on := 12, ground := Ground.guard }], guard := some (12, false) } : Oper)) (v := ?vpb11) rfl (by kernel_rfl) (by kernel_rfl) (by kernel_rfl) (fun _ _ _ h => h) (Or.inl ⟨by rfl, ?hypb11⟩) (by assumption) ?restpb11
                  case hypb11 => intro w hSw; (try dsimp only at hSw); go_simp; all_goals (with_reducible rfl)
                  try simp only [Act.put, List.setIfInBounds_toArray, List.set_cons_zero, List.set_cons_succ]
                  refine wpAnyH_take (i := 16) (oi := ({ dst := some 90, op := Op.indexAddr 22 (Operand.tmp 88) (Operand.tmp 89), type := 0, pos := "law.go:140", after := #[{ on := 14, ground := Ground.data }, { on := 15, ground := Ground.data }, { on := 12, ground := Ground.guard }], guard := some (12, false) } : Oper)) (v := ?vpb12) rfl (by kernel_rfl) (by kernel_rfl) (by kernel_rfl) (fun _ _ _ h => h) (Or.inl ⟨by rfl, ?hypb12⟩) (by assumption) ?restpb12
                  case hypb12 => intro w hSw; (try dsimp only at hSw); go_simp; all_goals (with_reducible rfl)
                  try simp only [Act.put, List.setIfInBounds_toArray, List.set_cons_zero, List.set_cons_succ]
                  refine wpAnyH_take (i := 17) (oi := ({ dst := some 91, op := Op.load 3 (Operand.tmp 90), type := 3, pos := "law.go:140", after := #[{ on := 16, ground := Ground.data }, { on := 12, ground := Ground.guard }], guard := some (12, false) } : Oper)) (v := ?vpb13) rfl (by kernel_rfl) (by kernel_rfl) (by kernel_rfl) (fun _ _ _ h => h) (Or.inl ⟨by rfl, ?hypb13⟩) (by assumption) ?restpb13
                  case hypb13 => intro w hSw; (try dsimp only at hSw); go_simp; all_goals (with_reducible rfl)
                  try simp only [Act.put, List.setIfInBounds_toArray, List.set_cons_zero, List.set_cons_succ]
                  refine wpAnyH_ready (rs := [18]) (by kernel_rfl) (by simp) ?_
                  refine (AllReadyH.cons (o := ({ dst := some 92, op := Op.call { callee := Callee.value (Operand.func 24), args := #[Operand.tmp 87, Operand.tmp 91], argTypes := #[22, 3] }, type := 4, pos := "law.go:140", after := #[{ on := 13, ground := Ground.data }, { on := 17, ground := Ground.data }, { on := 12, ground := Ground.chain }, { on := 12, ground := Ground.guard }], guard := some (12, false) } : Oper)) rfl (fun K hK => ?_) AllReadyH.nil)
                  go_simp
                  refine (HHAS.out _ hB7).mono ?_; rintro e' w8' ⟨rfl, hw⟩; obtain rfl := hw.symm
                  refine hK.out _ _ ?_ (fun hHeld => ?_)
                  · (try dsimp only); exact HKS.out _ hB7
                  clear hK K
                  try simp only [Act.put, List.setIfInBounds_toArray, List.set_cons_zero, List.set_cons_succ]
                  refine wpAnyH_take (i := 19) (oi := ({ dst := some 93, op := Op.pick (Operand.tmp 86) (Operand.const (Value.bool true)) (Operand.tmp 92), type := 4, pos := "law.go:140", after := #[{ on := 12, ground := Ground.data }, { on := 18, ground := Ground.data }], guard := none } : Oper)) (v := ?vpb14) rfl (by kernel_rfl) (by kernel_rfl) (by kernel_rfl) (fun _ _ _ h => h) (Or.inl ⟨by rfl, ?hypb14⟩) (by assumption) ?restpb14
                  case hypb14 => intro w hSw; (try dsimp only at hSw); go_simp; all_goals (with_reducible rfl)
                  try simp only [Act.put, List.setIfInBounds_toArray, List.set_cons_zero, List.set_cons_succ]
                  refine wpAnyH_take (i := 20) (oi := ({ dst := some 94, op := Op.move (Operand.tmp 93), type := 4, pos := "law.go:140", after := #[{ on := 19, ground := Ground.data }, { on := 18, ground := Ground.chain }], guard := none } : Oper)) (v := ?vpb15) rfl (by kernel_rfl) (by kernel_rfl) (by kernel_rfl) (fun _ _ _ h => h) (Or.inl ⟨by rfl, ?hypb15⟩) (by assumption) ?restpb15
                  case hypb15 => intro w hSw; (try dsimp only at hSw); go_simp; all_goals (with_reducible rfl)
                  try simp only [Act.put, List.setIfInBounds_toArray, List.set_cons_zero, List.set_cons_succ]
                  refine wpAnyH_take (i := 21) (oi := ({ dst := some 95, op := Op.move (Operand.tmp 14), type := 3, pos := "law.go:140", after := #[{ on := 20, ground := Ground.guard }], guard := some (20, false) } : Oper)) (v := ?vpb16) rfl (by kernel_rfl) (by kernel_rfl) (by kernel_rfl) (fun _ _ _ h => h) (Or.inl ⟨by rfl, ?hypb16⟩) (by assumption) ?restpb16
                  case hypb16 => intro w hSw; (try dsimp only at hSw); go_simp; all_goals (with_reducible rfl)
                  try simp only [Act.put, List.setIfInBounds_toArray, List.set_cons_zero, List.set_cons_succ]
                  refine wpAnyH_take (i := 22) (oi := ({ dst := some 96, op := Op.binOp BinOp.gtr 3 (Operand.tmp 95) (Operand.const (Value.int IntKind.i64 0)) 3, type := 4, pos := "law.go:140", after := #[{ on := 21, ground := Ground.data }, { on := 20, ground := Ground.guard }], guard := some (20, false) } : Oper)) (v := ?vpb17) rfl (by kernel_rfl) (by kernel_rfl) (by kernel_rfl) (fun _ _ _ h => h) (Or.inl ⟨by rfl, ?hypb17⟩) (by assumption) ?restpb17
                  case hypb17 => intro w hSw; (try dsimp only at hSw); go_simp; all_goals (with_reducible rfl)
                  try simp only [Act.put, List.setIfInBounds_toArray, List.set_cons_zero, List.set_cons_succ]
                  refine wpAnyH_take (i := 23) (oi := ({ dst := some 97, op := Op.move (Operand.tmp 96), type := 4, pos := "law.go:140", after := #[{ on := 22, ground := Ground.data }, { on := 20, ground := Ground.chain }, { on := 20, ground := Ground.guard }], guard := some (20, false) } : Oper)) (v := ?vpb18) rfl (by kernel_rfl) (by kernel_rfl) (by kernel_rfl) (fun _ _ _ h => h) (Or.inl ⟨by rfl, ?hypb18⟩) (by assumption) ?restpb18
                  case hypb18 => intro w hSw; (try dsimp only at hSw); go_simp; all_goals (with_reducible rfl)
                  try simp only [Act.put, List.setIfInBounds_toArray, List.set_cons_zero, List.set_cons_succ]
                  refine wpAnyH_take (i := 24) (oi := ({ dst := some 98, op := Op.move (Operand.tmp 12), type := 22, pos := "law.go:140", after := #[{ on := 23, ground := Ground.guard }], guard := some (23, true) } : Oper)) (v := ?vpb19) rfl (by kernel_rfl) (by kernel_rfl) (by kernel_rfl) (fun _ _ _ h => h) (Or.inl ⟨by rfl, ?hypb19⟩) (by assumption) ?restpb19
                  case hypb19 => intro w hSw; (try dsimp only at hSw); go_simp; all_goals (with_reducible rfl)
                  try simp only [Act.put, List.setIfInBounds_toArray, List.set_cons_zero, List.set_cons_succ]
                  refine wpAnyH_take (i := 25) (oi := ({ dst := some 99, op := Op.move (Operand.tmp 14), type := 3, pos := "law.go:140", after := #[{ on := 23, ground := Ground.guard }], guard := some (23, true) } : Oper)) (v := ?vpb20) rfl (by kernel_rfl) (by kernel_rfl) (by kernel_rfl) (fun _ _ _ h => h) (Or.inl ⟨by rfl, ?hypb20⟩) (by assumption) ?restpb20
                  case hypb20 => intro w hSw; (try dsimp only at hSw); go_simp; all_goals (with_reducible rfl)
                  try simp only [Act.put, List.setIfInBounds_toArray, List.set_cons_zero, List.set_cons_succ]
                  refine wpAnyH_take (i := 26) (oi := ({ dst := some 100, op := Op.binOp BinOp.sub 3 (Operand.tmp 99) (Operand.const (Value.int IntKind.i64 1)) 3, type := 3, pos := "law.go:140", after := #[{ on := 25, ground := Ground.data }, { on := 23, ground := Ground.guard }], guard := some (23, true) } : Oper)) (v := ?vpb21) rfl (by kernel_rfl) (by kernel_rfl) (by kernel_rfl) (fun _ _ _ h => h) (Or.inl ⟨by rfl, ?hypb21⟩) (by assumption) ?restpb21
                  case hypb21 => intro w hSw; (try dsimp only at hSw); go_simp; all_goals (with_reducible rfl)
                  try simp only [Act.put, List.setIfInBounds_toArray, List.set_cons_zero, List.set_cons_succ]
                  refine wpAnyH_take (i := 27) (oi := ({ dst := some 101, op := Op.indexAddr 22 (Operand.tmp 98) (Operand.tmp 100), type := 0, pos := "law.go:140", after := #[{ on := 24, ground := Ground.data }, { on := 26, ground := Ground.data }, { on := 23, ground := Ground.guard }], guard := some (23, true) } : Oper)) (v := ?vpb22) rfl (by kernel_rfl) (by kernel_rfl) (by kernel_rfl) (fun _ _ _ h => h) (Or.inl ⟨by rfl, ?hypb22⟩) (by assumption) ?restpb22
                  case hypb22 => intro w hSw; (try dsimp only at hSw); go_simp; all_goals (with_reducible rfl)
                  try simp only [Act.put, List.setIfInBounds_toArray, List.set_cons_zero, List.set_cons_succ]
                  refine wpAnyH_take (i := 28) (oi := ({ dst := some 102, op := Op.load 3 (Operand.tmp 101), type := 3, pos := "law.go:140", after := #[{ on := 27, ground := Ground.data }, { on := 23, ground := Ground.guard }], guard := some (23, true) } : Oper)) (v := ?vpb23) rfl (by kernel_rfl) (by kernel_rfl) (by kernel_rfl) (fun _ _ _ h => h) (Or.inl ⟨by rfl, ?hypb23⟩) (by assumption) ?restpb23
                  case hypb23 => intro w hSw; (try dsimp only at hSw); go_simp; all_goals (with_reducible rfl)
                  try simp only [Act.put, List.setIfInBounds_toArray, List.set_cons_zero, List.set_cons_succ]
                  refine wpAnyH_take (i := 29) (oi := ({ dst := some 103, op := Op.move (Operand.tmp 12), type := 22, pos := "law.go:140", after := #[{ on := 23, ground := Ground.guard }], guard := some (23, true) } : Oper)) (v := ?vpb24) rfl (by kernel_rfl) (by kernel_rfl) (by kernel_rfl) (fun _ _ _ h => h) (Or.inl ⟨by rfl, ?hypb24⟩) (by assumption) ?restpb24
                  case hypb24 => intro w hSw; (try dsimp only at hSw); go_simp; all_goals (with_reducible rfl)
                  try simp only [Act.put, List.setIfInBounds_toArray, List.set_cons_zero, List.set_cons_succ]
                  refine wpAnyH_take (i := 30) (oi := ({ dst := some 104, op := Op.move (Operand.tmp 14), type := 3, pos := "law.go:140", after := #[{ on := 23, ground := Ground.guard }], guard := some (23, true) } : Oper)) (v := ?vpb25) rfl (by kernel_rfl) (by kernel_rfl) (by kernel_rfl) (fun _ _ _ h => h) (Or.inl ⟨by rfl, ?hypb25⟩) (by assumption) ?restpb25
                  case hypb25 => intro w hSw; (try dsimp only at hSw); go_simp; all_goals (with_reducible rfl)
                  try simp only [Act.put, List.setIfInBounds_toArray, List.set_cons_zero, List.set_cons_succ]
                  refine wpAnyH_take (i := 31) (oi := ({ dst := some 105, op := Op.indexAddr 22 (Operand.tmp 103) (Operand.tmp 104), type := 0, pos := "law.go:140", after := #[{ on := 29, ground := Ground.data }, { on := 30, ground := Ground.data }, { on := 23, ground := Ground.guard }], guard := some (23, true) } : Oper)) (v := ?vpb26) rfl (by kernel_rfl) (by kernel_rfl) (by kernel_rfl) (fun _ _ _ h => h) (Or.inl ⟨by rfl, ?hypb26⟩) (by assumption) ?restpb26
                  case hypb26 => intro w hSw; (try dsimp only at hSw); go_simp; all_goals (with_reducible rfl)
                  try simp only [Act.put, List.setIfInBounds_toArray, List.set_cons_zero, List.set_cons_succ]
                  refine wpAnyH_take (i := 32) (oi := ({ dst := some 106, op := Op.load 3 (Operand.tmp 105), type := 3, pos := "law.go:140", after := #[{ on := 31, ground := Ground.data }, { on := 23, ground := Ground.guard }], guard := some (23, true) } : Oper)) (v := ?vpb27) rfl (by kernel_rfl) (by kernel_rfl) (by kernel_rfl) (fun _ _ _ h => h) (Or.inl ⟨by rfl, ?hypb27⟩) (by assumption) ?restpb27
                  case hypb27 => intro w hSw; (try dsimp only at hSw); go_simp; all_goals (with_reducible rfl)
                  try simp only [Act.put, List.setIfInBounds_toArray, List.set_cons_zero, List.set_cons_succ]
                  refine wpAnyH_take (i := 33) (oi := ({ dst := some 107, op := Op.binOp BinOp.geq 3 (Operand.tmp 102) (Operand.tmp 106) 3, type := 4, pos := "law.go:140", after := #[{ on := 28, ground := Ground.data }, { on := 32, ground := Ground.data }, { on := 23, ground := Ground.guard }], guard := some (23, true) } : Oper)) (v := ?vpb28) rfl (by kernel_rfl) (by kernel_rfl) (by kernel_rfl) (fun _ _ _ h => h) (Or.inl ⟨by rfl, ?hypb28⟩) (by assumption) ?restpb28
                  case hypb28 => intro w hSw; (try dsimp only at hSw); go_simp; all_goals (with_reducible rfl)
                  try simp only [Act.put, List.setIfInBounds_toArray, List.set_cons_zero, List.set_cons_succ]
                  refine wpAnyH_take (i := 34) (oi := ({ dst := some 108, op := Op.pick (Operand.tmp 97) (Operand.tmp 107) (Operand.const (Value.bool false)), type := 4, pos := "law.go:140", after := #[{ on := 23, ground := Ground.data }, { on := 33, ground := Ground.data }, { on := 20, ground := Ground.guard }], guard := some (20, false) } : Oper)) (v := ?vpb29) rfl (by kernel_rfl) (by kernel_rfl) (by kernel_rfl) (fun _ _ _ h => h) (Or.inl ⟨by rfl, ?hypb29⟩) (by assumption) ?restpb29
                  case hypb29 => intro w hSw; (try dsimp only at hSw); go_simp; all_goals (with_reducible rfl)
                  try simp only [Act.put, List.setIfInBounds_toArray, List.set_cons_zero, List.set_cons_succ]
                  refine wpAnyH_take (i := 35) (oi := ({ dst := some 109, op := Op.pick (Operand.tmp 94) (Operand.const (Value.bool true)) (Operand.tmp 108), type := 4, pos := "law.go:140", after := #[{ on := 20, ground := Ground.data }, { on := 34, ground := Ground.data }], guard := none } : Oper)) (v := ?vpb30) rfl (by kernel_rfl) (by kernel_rfl) (by kernel_rfl) (fun _ _ _ h => h) (Or.inl ⟨by rfl, ?hypb30⟩) (by assumption) ?restpb30
                  case hypb30 => intro w hSw; (try dsimp only at hSw); go_simp; all_goals (with_reducible rfl)
                  try simp only [Act.put, List.setIfInBounds_toArray, List.set_cons_zero, List.set_cons_succ]
                  refine wpAnyH_done (by kernel_rfl) ?_ _
                  go_wp2_with fail
                  go_meet
                  exact ⟨rfl, hB7⟩
                · go_simp
                  refine hK.out _ _ ?_ (fun hHeld => ?_)
                  · (try dsimp only); exact HKS.out _ (hHeld.1.alloc hHeld.1.size _)
                  clear hK K
                  try simp only [Act.put, List.setIfInBounds_toArray, List.set_cons_zero, List.set_cons_succ]
                  refine wpAnyH_ready (rs := [3]) (by kernel_rfl) (by simp) ?_
                  refine (AllReadyH.cons (o := ({ dst := some 77, op := Op.call { callee := Callee.builtin Builtin.append, args := #[Operand.tmp 75, Operand.tmp 76], argTypes := #[22, 22] }, type := 22, pos := "law.go:140", after := #[{ on := 1, ground := Ground.data }, { on := 2, ground := Ground.data }], guard := none } : Oper)) rfl (fun K hK => ?_) AllReadyH.nil)
                  have hH := hHeld.1
                  refine step_append_lies _ rfl _ _ 22 rfl wr.heap.size 3 j1 (.int .i64 0) 1 8 Try.underlying22 hi1 ky0 ky1 ky2 rfl (by decide) _ 0 _ rfl ((own_none wr.drew wr.heap.size (Nat.le_refl _)).alloc (.cells #[.int .i64 y] 3)) ⟨bx, ox, none⟩ p cx (intCells X) rfl HLX.out (HXC.out _ hH) intCells_one (by omega) (by unfold maxLen; omega) (by omega) hH.size _ rfl ?_
                  intro g2 c2 w2 hown2 hgrow2 hwhere2 hlt2
                  simp only [Nat.zero_add, List.nil_append] at hown2
                  try simp only [Nat.zero_add]
                  have hB2 : Below wr.heap.size wr w2 := hH.grown hgrow2 hH.size (fun k hk => (((own_none wr.drew wr.heap.size (Nat.le_refl _)).alloc (.cells #[.int .i64 y] 3)).lt k hk).1)
                  have hlit2 := hgrow2.cell LITA.out NEA.out
                  refine hK.out _ _ ?_ (fun hHeld => ?_)
                  · (try dsimp only); exact HKS.out _ hB2
                  clear hK K
                  try simp only [Act.put, List.setIfInBounds_toArray, List.set_cons_zero, List.set_cons_succ]
                  refine wpAnyH_ready (rs := [9]) (by kernel_rfl) (by simp) ?_
                  refine (AllReadyH.cons (o := ({ dst := some 83, op := Op.call { callee := Callee.builtin Builtin.append, args := #[Operand.tmp 77, Operand.tmp 82], argTypes := #[22, 22] }, type := 22, pos := "law.go:140", after := #[{ on := 3, ground := Ground.data }, { on := 8, ground := Ground.data }, { on := 3, ground := Ground.chain }], guard := none } : Oper)) rfl (fun K hK => ?_) AllReadyH.nil)
                  have hH3 := hHeld.1
                  refine step_append_lies _ rfl _ _ 22 rfl wr.heap.size 3 j1 (.int .i64 0) 1 8 Try.underlying22 hi1 ky0 ky1 ky2 rfl (by decide) _ p _ rfl hown2 ⟨wr.heap.size + 1, 0, none⟩ 1 1 [.int .i64 y] rfl rfl (one_cell hlit2) one_one (by omega) (by unfold maxLen; omega) (by omega) hH3.size _ rfl ?_
                  intro g4 c4 w6 hown4 hgrow4 hwhere4 hlt4
                  have hB6 : Below wr.heap.size wr w6 := hH3.grown hgrow4 hH3.size (fun k hk => (hown2.lt k hk).1)
                  have hs6 : SeqC w6 (.slice (some ⟨g4, 0, none⟩) (p + 1) c4) (X ++ [y]) := own_seqC (by rw [intCells_app]; exact hown4)
                  refine hK.out _ _ ?_ (fun hHeld => ?_)
                  · (try dsimp only); exact HKS.out _ hB6
                  clear hK K
                  try simp only [Act.put, List.setIfInBounds_toArray, List.set_cons_zero, List.set_cons_succ]
                  refine wpAnyH_ready (rs := [10]) (by kernel_rfl) (by simp) ?_
                  refine (AllReadyH.cons (o := ({ dst := some 84, op := Op.call { callee := Callee.value (Operand.func 13), args := #[Operand.tmp 74, Operand.tmp 83], argTypes := #[25, 22] }, type := 4, pos := "law.go:140", after := #[{ on := 0, ground := Ground.data }, { on := 9, ground := Ground.data }, { on := 9, ground := Ground.chain }], guard := none } : Oper)) rfl (fun K hK => ?_) AllReadyH.nil)
                  go_simp
                  refine (HLKN.out _ _ hB6 hs6).mono ?_; rintro e' w7 ⟨rfl, hB7⟩
                  refine hK.out _ _ ?_ (fun hHeld => ?_)
                  · (try dsimp only); exact HKS.out _ hB7
                  clear hK K
                  try simp only [Act.put, List.setIfInBounds_toArray, List.set_cons_zero, List.set_cons_succ]
                  refine wpAnyH_take (i := 11) (oi := ({ dst := some 85, op := Op.unOp UnOp.not 4 (Operand.tmp 84), type := 4, pos := "law.go:140", after := #[{ on := 10, ground := Ground.data }], guard := none } : Oper)) (v := ?vpb31) rfl (by kernel_rfl) (by kernel_rfl) (by kernel_rfl) (fun _ _ _ h => h) (Or.inl ⟨by rfl, ?hypb31⟩) (by assumption) ?restpb31
                  case hypb31 => intro w hSw; (try dsimp only at hSw); go_simp; all_goals (with_reducible rfl)
                  try simp only [Act.put, List.setIfInBounds_toArray, List.set_cons_zero, List.set_cons_succ]
                  refine wpAnyH_take (i := 12) (oi := ({ dst := some 86, op := Op.move (Operand.tmp 85), type := 4, pos := "law.go:140", after := #[{ on := 11, ground := Ground.data }, { on := 10, ground := Ground.chain }], guard := none } : Oper)) (v := ?vpb32) rfl (by kernel_rfl) (by kernel_rfl) (by kernel_rfl) (fun _ _ _ h => h) (Or.inl ⟨by rfl, ?hypb32⟩) (by assumption) ?restpb32
                  case hypb32 => intro w hSw; (try dsimp only at hSw); go_simp; all_goals (with_reducible rfl)
                  try simp only [Act.put, List.setIfInBounds_toArray, List.set_cons_zero, List.set_cons_succ]
                  refine wpAnyH_take (i := 13) (oi := ({ dst := some 87, op := Op.move (Operand.tmp 2), type := 22, pos := "law.go:140", after := #[{ on := 12, ground := Ground.guard }], guard := some (12, false) } : Oper)) (v := ?vpb33) rfl (by kernel_rfl) (by kernel_rfl) (by kernel_rfl) (fun _ _ _ h => h) (Or.inl ⟨by rfl, ?hypb33⟩) (by assumption) ?restpb33
                  case hypb33 => intro w hSw; (try dsimp only at hSw); go_simp; all_goals (with_reducible rfl)
                  try simp only [Act.put, List.setIfInBounds_toArray, List.set_cons_zero, List.set_cons_succ]
                  refine wpAnyH_take (i := 14) (oi := ({ dst := some 88, op := Op.move (Operand.tmp 12), type := 22, pos := "law.go:140", after := #[{ on := 12, ground := Ground.guard }], guard := some (12, false) } : Oper)) (v := ?vpb34) rfl (by kernel_rfl) (by kernel_rfl) (by kernel_rfl) (fun _ _ _ h => h) (Or.inl ⟨by rfl, ?hypb34⟩) (by assumption) ?restpb34
                  case hypb34 => intro w hSw; (try dsimp only at hSw); go_simp; all_goals (with_reducible rfl)
                  try simp only [Act.put, List.setIfInBounds_toArray, List.set_cons_zero, List.set_cons_succ]
                  refine wpAnyH_take (i := 15) (oi := ({ dst := some 89, op := Op.move (Operand.tmp 14), type := 3, pos := "law.go:140", after := #[{ on := 12, ground := Ground.guard }], guard := some (12, false) } : Oper)) (v := ?vpb35) rfl (by kernel_rfl) (by kernel_rfl) (by kernel_rfl) (fun _ _ _ h => h) (Or.inl ⟨by rfl, ?hypb35⟩) (by assumption) ?restpb35
                  case hypb35 => intro w hSw; (try dsimp only at hSw); go_simp; all_goals (with_reducible rfl)
                  try simp only [Act.put, List.setIfInBounds_toArray, List.set_cons_zero, List.set_cons_succ]
                  refine wpAnyH_take (i := 16) (oi := ({ dst := some 90, op := Op.indexAddr 22 (Operand.tmp 88) (Operand.tmp 89), type := 0, pos := "law.go:140", after := #[{ on := 14, ground := Ground.data }, { on := 15, ground := Ground.data }, { on := 12, ground := Ground.guard }], guard := some (12, false) } : Oper)) (v := ?vpb36) rfl (by kernel_rfl) (by kernel_rfl) (by kernel_rfl) (fun _ _ _ h => h) (Or.inl ⟨by rfl, ?hypb36⟩) (by assumption) ?restpb36
                  case hypb36 => intro w hSw; (try dsimp only at hSw); go_simp; all_goals (with_reducible rfl)
                  try simp only [Act.put, List.setIfInBounds_toArray, List.set_cons_zero, List.set_cons_succ]
                  refine wpAnyH_take (i := 17) (oi := ({ dst := some 91, op := Op.load 3 (Operand.tmp 90), type := 3, pos := "law.go:140", after := #[{ on := 16, ground := Ground.data }, { on := 12, ground := Ground.guard }], guard := some (12, false) } : Oper)) (v := ?vpb37) rfl (by kernel_rfl) (by kernel_rfl) (by kernel_rfl) (fun _ _ _ h => h) (Or.inl ⟨by rfl, ?hypb37⟩) (by assumption) ?restpb37
                  case hypb37 => intro w hSw; (try dsimp only at hSw); go_simp; all_goals (with_reducible rfl)
                  try simp only [Act.put, List.setIfInBounds_toArray, List.set_cons_zero, List.set_cons_succ]
                  refine wpAnyH_ready (rs := [18]) (by kernel_rfl) (by simp) ?_
                  refine (AllReadyH.cons (o := ({ dst := some 92, op := Op.call { callee := Callee.value (Operand.func 24), args := #[Operand.tmp 87, Operand.tmp 91], argTypes := #[22, 3] }, type := 4, pos := "law.go:140", after := #[{ on := 13, ground := Ground.data }, { on := 17, ground := Ground.data }, { on := 12, ground := Ground.chain }, { on := 12, ground := Ground.guard }], guard := some (12, false) } : Oper)) rfl (fun K hK => ?_) AllReadyH.nil)
                  go_simp
                  refine (HHAS.out _ hB7).mono ?_; rintro e' w8' ⟨rfl, hw⟩; obtain rfl := hw.symm
                  refine hK.out _ _ ?_ (fun hHeld => ?_)
                  · (try dsimp only); exact HKS.out _ hB7
                  clear hK K
                  try simp only [Act.put, List.setIfInBounds_toArray, List.set_cons_zero, List.set_cons_succ]
                  refine wpAnyH_take (i := 19) (oi := ({ dst := some 93, op := Op.pick (Operand.tmp 86) (Operand.const (Value.bool true)) (Operand.tmp 92), type := 4, pos := "law.go:140", after := #[{ on := 12, ground := Ground.data }, { on := 18, ground := Ground.data }], guard := none } : Oper)) (v := ?vpb38) rfl (by kernel_rfl) (by kernel_rfl) (by kernel_rfl) (fun _ _ _ h => h) (Or.inl ⟨by rfl, ?hypb38⟩) (by assumption) ?restpb38
                  case hypb38 => intro w hSw; (try dsimp only at hSw); go_simp; all_goals (with_reducible rfl)
                  try simp only [Act.put, List.setIfInBounds_toArray, List.set_cons_zero, List.set_cons_succ]
                  refine wpAnyH_take (i := 20) (oi := ({ dst := some 94, op := Op.move (Operand.tmp 93), type := 4, pos := "law.go:140", after := #[{ on := 19, ground := Ground.data }, { on := 18, ground := Ground.chain }], guard := none } : Oper)) (v := ?vpb39) rfl (by kernel_rfl) (by kernel_rfl) (by kernel_rfl) (fun _ _ _ h => h) (Or.inl ⟨by rfl, ?hypb39⟩) (by assumption) ?restpb39
                  case hypb39 => intro w hSw; (try dsimp only at hSw); go_simp; all_goals (with_reducible rfl)
                  try simp only [Act.put, List.setIfInBounds_toArray, List.set_cons_zero, List.set_cons_succ]
                  refine wpAnyH_take (i := 21) (oi := ({ dst := some 95, op := Op.move (Operand.tmp 14), type := 3, pos := "law.go:140", after := #[{ on := 20, ground := Ground.guard }], guard := some (20, false) } : Oper)) (v := ?vpb40) rfl (by kernel_rfl) (by kernel_rfl) (by kernel_rfl) (fun _ _ _ h => h) (Or.inl ⟨by rfl, ?hypb40⟩) (by assumption) ?restpb40
                  case hypb40 => intro w hSw; (try dsimp only at hSw); go_simp; all_goals (with_reducible rfl)
                  try simp only [Act.put, List.setIfInBounds_toArray, List.set_cons_zero, List.set_cons_succ]
                  refine wpAnyH_take (i := 22) (oi := ({ dst := some 96, op := Op.binOp BinOp.gtr 3 (Operand.tmp 95) (Operand.const (Value.int IntKind.i64 0)) 3, type := 4, pos := "law.go:140", after := #[{ on := 21, ground := Ground.data }, { on := 20, ground := Ground.guard }], guard := some (20, false) } : Oper)) (v := ?vpb41) rfl (by kernel_rfl) (by kernel_rfl) (by kernel_rfl) (fun _ _ _ h => h) (Or.inl ⟨by rfl, ?hypb41⟩) (by assumption) ?restpb41
                  case hypb41 => intro w hSw; (try dsimp only at hSw); go_simp; all_goals (with_reducible rfl)
                  try simp only [Act.put, List.setIfInBounds_toArray, List.set_cons_zero, List.set_cons_succ]
                  refine wpAnyH_take (i := 23) (oi := ({ dst := some 97, op := Op.move (Operand.tmp 96), type := 4, pos := "law.go:140", after := #[{ on := 22, ground := Ground.data }, { on := 20, ground := Ground.chain }, { on := 20, ground := Ground.guard }], guard := some (20, false) } : Oper)) (v := ?vpb42) rfl (by kernel_rfl) (by kernel_rfl) (by kernel_rfl) (fun _ _ _ h => h) (Or.inl ⟨by rfl, ?hypb42⟩) (by assumption) ?restpb42
                  case hypb42 => intro w hSw; (try dsimp only at hSw); go_simp; all_goals (with_reducible rfl)
                  try simp only [Act.put, List.setIfInBounds_toArray, List.set_cons_zero, List.set_cons_succ]
                  refine wpAnyH_take (i := 24) (oi := ({ dst := some 98, op := Op.move (Operand.tmp 12), type := 22, pos := "law.go:140", after := #[{ on := 23, ground := Ground.guard }], guard := some (23, true) } : Oper)) (v := ?vpb43) rfl (by kernel_rfl) (by kernel_rfl) (by kernel_rfl) (fun _ _ _ h => h) (Or.inl ⟨by rfl, ?hypb43⟩) (by assumption) ?restpb43
                  case hypb43 => intro w hSw; (try dsimp only at hSw); go_simp; all_goals (with_reducible rfl)
                  try simp only [Act.put, List.setIfInBounds_toArray, List.set_cons_zero, List.set_cons_succ]
                  refine wpAnyH_take (i := 25) (oi := ({ dst := some 99, op := Op.move (Operand.tmp 14), type := 3, pos := "law.go:140", after := #[{ on := 23, ground := Ground.guard }], guard := some (23, true) } : Oper)) (v := ?vpb44) rfl (by kernel_rfl) (by kernel_rfl) (by kernel_rfl) (fun _ _ _ h => h) (Or.inl ⟨by rfl, ?hypb44⟩) (by assumption) ?restpb44
                  case hypb44 => intro w hSw; (try dsimp only at hSw); go_simp; all_goals (with_reducible rfl)
                  try simp only [Act.put, List.setIfInBounds_toArray, List.set_cons_zero, List.set_cons_succ]
                  refine wpAnyH_take (i := 26) (oi := ({ dst := some 100, op := Op.binOp BinOp.sub 3 (Operand.tmp 99) (Operand.const (Value.int IntKind.i64 1)) 3, type := 3, pos := "law.go:140", after := #[{ on := 25, ground := Ground.data }, { on := 23, ground := Ground.guard }], guard := some (23, true) } : Oper)) (v := ?vpb45) rfl (by kernel_rfl) (by kernel_rfl) (by kernel_rfl) (fun _ _ _ h => h) (Or.inl ⟨by rfl, ?hypb45⟩) (by assumption) ?restpb45
                  case hypb45 => intro w hSw; (try dsimp only at hSw); go_simp; all_goals (with_reducible rfl)
                  try simp only [Act.put, List.setIfInBounds_toArray, List.set_cons_zero, List.set_cons_succ]
                  refine wpAnyH_take (i := 27) (oi := ({ dst := some 101, op := Op.indexAddr 22 (Operand.tmp 98) (Operand.tmp 100), type := 0, pos := "law.go:140", after := #[{ on := 24, ground := Ground.data }, { on := 26, ground := Ground.data }, { on := 23, ground := Ground.guard }], guard := some (23, true) } : Oper)) (v := ?vpb46) rfl (by kernel_rfl) (by kernel_rfl) (by kernel_rfl) (fun _ _ _ h => h) (Or.inl ⟨by rfl, ?hypb46⟩) (by assumption) ?restpb46
                  case hypb46 => intro w hSw; (try dsimp only at hSw); go_simp; all_goals (with_reducible rfl)
                  try simp only [Act.put, List.setIfInBounds_toArray, List.set_cons_zero, List.set_cons_succ]
                  refine wpAnyH_take (i := 28) (oi := ({ dst := some 102, op := Op.load 3 (Operand.tmp 101), type := 3, pos := "law.go:140", after := #[{ on := 27, ground := Ground.data }, { on := 23, ground := Ground.guard }], guard := some (23, true) } : Oper)) (v := ?vpb47) rfl (by kernel_rfl) (by kernel_rfl) (by kernel_rfl) (fun _ _ _ h => h) (Or.inl ⟨by rfl, ?hypb47⟩) (by assumption) ?restpb47
                  case hypb47 => intro w hSw; (try dsimp only at hSw); go_simp; all_goals (with_reducible rfl)
                  try simp only [Act.put, List.setIfInBounds_toArray, List.set_cons_zero, List.set_cons_succ]
                  refine wpAnyH_take (i := 29) (oi := ({ dst := some 103, op := Op.move (Operand.tmp 12), type := 22, pos := "law.go:140", after := #[{ on := 23, ground := Ground.guard }], guard := some (23, true) } : Oper)) (v := ?vpb48) rfl (by kernel_rfl) (by kernel_rfl) (by kernel_rfl) (fun _ _ _ h => h) (Or.inl ⟨by rfl, ?hypb48⟩) (by assumption) ?restpb48
                  case hypb48 => intro w hSw; (try dsimp only at hSw); go_simp; all_goals (with_reducible rfl)
                  try simp only [Act.put, List.setIfInBounds_toArray, List.set_cons_zero, List.set_cons_succ]
                  refine wpAnyH_take (i := 30) (oi := ({ dst := some 104, op := Op.move (Operand.tmp 14), type := 3, pos := "law.go:140", after := #[{ on := 23, ground := Ground.guard }], guard := some (23, true) } : Oper)) (v := ?vpb49) rfl (by kernel_rfl) (by kernel_rfl) (by kernel_rfl) (fun _ _ _ h => h) (Or.inl ⟨by rfl, ?hypb49⟩) (by assumption) ?restpb49
                  case hypb49 => intro w hSw; (try dsimp only at hSw); go_simp; all_goals (with_reducible rfl)
                  try simp only [Act.put, List.setIfInBounds_toArray, List.set_cons_zero, List.set_cons_succ]
                  refine wpAnyH_take (i := 31) (oi := ({ dst := some 105, op := Op.indexAddr 22 (Operand.tmp 103) (Operand.tmp 104), type := 0, pos := "law.go:140", after := #[{ on := 29, ground := Ground.data }, { on := 30, ground := Ground.data }, { on := 23, ground := Ground.guard }], guard := some (23, true) } : Oper)) (v := ?vpb50) rfl (by kernel_rfl) (by kernel_rfl) (by kernel_rfl) (fun _ _ _ h => h) (Or.inl ⟨by rfl, ?hypb50⟩) (by assumption) ?restpb50
                  case hypb50 => intro w hSw; (try dsimp only at hSw); go_simp; all_goals (with_reducible rfl)
                  try simp only [Act.put, List.setIfInBounds_toArray, List.set_cons_zero, List.set_cons_succ]
                  refine wpAnyH_take (i := 32) (oi := ({ dst := some 106, op := Op.load 3 (Operand.tmp 105), type := 3, pos := "law.go:140", after := #[{ on := 31, ground := Ground.data }, { on := 23, ground := Ground.guard }], guard := some (23, true) } : Oper)) (v := ?vpb51) rfl (by kernel_rfl) (by kernel_rfl) (by kernel_rfl) (fun _ _ _ h => h) (Or.inl ⟨by rfl, ?hypb51⟩) (by assumption) ?restpb51
                  case hypb51 => intro w hSw; (try dsimp only at hSw); go_simp; all_goals (with_reducible rfl)
                  try simp only [Act.put, List.setIfInBounds_toArray, List.set_cons_zero, List.set_cons_succ]
                  refine wpAnyH_take (i := 33) (oi := ({ dst := some 107, op := Op.binOp BinOp.geq 3 (Operand.tmp 102) (Operand.tmp 106) 3, type := 4, pos := "law.go:140", after := #[{ on := 28, ground := Ground.data }, { on := 32, ground := Ground.data }, { on := 23, ground := Ground.guard }], guard := some (23, true) } : Oper)) (v := ?vpb52) rfl (by kernel_rfl) (by kernel_rfl) (by kernel_rfl) (fun _ _ _ h => h) (Or.inl ⟨by rfl, ?hypb52⟩) (by assumption) ?restpb52
                  case hypb52 => intro w hSw; (try dsimp only at hSw); go_simp; all_goals (with_reducible rfl)
                  try simp only [Act.put, List.setIfInBounds_toArray, List.set_cons_zero, List.set_cons_succ]
                  refine wpAnyH_take (i := 34) (oi := ({ dst := some 108, op := Op.pick (Operand.tmp 97) (Operand.tmp 107) (Operand.const (Value.bool false)), type := 4, pos := "law.go:140", after := #[{ on := 23, ground := Ground.data }, { on := 33, ground := Ground.data }, { on := 20, ground := Ground.guard }], guard := some (20, false) } : Oper)) (v := ?vpb53) rfl (by kernel_rfl) (by kernel_rfl) (by kernel_rfl) (fun _ _ _ h => h) (Or.inl ⟨by rfl, ?hypb53⟩) (by assumption) ?restpb53
                  case hypb53 => intro w hSw; (try dsimp only at hSw); go_simp; all_goals (with_reducible rfl)
                  try simp only [Act.put, List.setIfInBounds_toArray, List.set_cons_zero, List.set_cons_succ]
                  refine wpAnyH_take (i := 35) (oi := ({ dst := some 109, op := Op.pick (Operand.tmp 94) (Operand.const (Value.bool true)) (Operand.tmp 108), type := 4, pos := "law.go:140", after := #[{ on := 20, ground := Ground.data }, { on := 34, ground := Ground.data }], guard := none } : Oper)) (v := ?vpb54) rfl (by kernel_rfl) (by kernel_rfl) (by kernel_rfl) (fun _ _ _ h => h) (Or.inl ⟨by rfl, ?hypb54⟩) (by assumption) ?restpb54
                  case hypb54 => intro w hSw; (try dsimp only at hSw); go_simp; all_goals (with_reducible rfl)
                  try simp only [Act.put, List.setIfInBounds_toArray, List.set_cons_zero, List.set_cons_succ]
                  refine wpAnyH_done (by kernel_rfl) ?_ _
                  go_wp2_with fail
                  go_meet
                  exact ⟨rfl, hB7⟩
              · go_simp
                refine hK.out _ _ ?_ (fun hHeld => ?_)
                · (try dsimp only); exact HKS.out _ (hHeld.1.alloc hHeld.1.size _)
                clear hK K
                try simp only [Act.put, List.setIfInBounds_toArray, List.set_cons_zero, List.set_cons_succ]
                refine wpAnyH_ready (rs := [1]) (by kernel_rfl) (by simp) ?_
                refine (AllReadyH.cons (o := ({ dst := some 75, op := Op.buildSlice 22 0 #[], type := 22, pos := "law.go:140", after := #[], guard := none } : Oper)) rfl (fun K hK => ?_) AllReadyH.nil)
                go_simp
                refine hK.out _ _ ?_ (fun hHeld => ?_)
                · (try dsimp only); exact HKS.out _ (hHeld.1.alloc hHeld.1.size _)
                clear hK K
                try simp only [Act.put, List.setIfInBounds_toArray, List.set_cons_zero, List.set_cons_succ]
                refine wpAnyH_ready (rs := [3]) (by kernel_rfl) (by simp) ?_
                refine (AllReadyH.cons (o := ({ dst := some 77, op := Op.call { callee := Callee.builtin Builtin.append, args := #[Operand.tmp 75, Operand.tmp 76], argTypes := #[22, 22] }, type := 22, pos := "law.go:140", after := #[{ on := 1, ground := Ground.data }, { on := 2, ground := Ground.data }], guard := none } : Oper)) rfl (fun K hK => ?_) AllReadyH.nil)
                have hH := hHeld.1
                refine step_append_lies _ rfl _ _ 22 rfl wr.heap.size 3 j1 (.int .i64 0) 1 8 Try.underlying22 hi1 ky0 ky1 ky2 rfl (by decide) _ 0 _ rfl OWN3.out ⟨bx, ox, none⟩ p cx (intCells X) rfl HLX.out (HXC.out _ hH) intCells_one (by omega) (by unfold maxLen; omega) (by omega) hH.size _ rfl ?_
                intro g2 c2 w2 hown2 hgrow2 hwhere2 hlt2
                simp only [Nat.zero_add, List.nil_append] at hown2
                try simp only [Nat.zero_add]
                have hB2 : Below wr.heap.size wr w2 := hH.grown hgrow2 hH.size (fun k hk => (OWN3.out.lt k hk).1)
                have hlit2 := hgrow2.cell LITB.out NEB.out
                refine hK.out _ _ ?_ (fun hHeld => ?_)
                · (try dsimp only); exact HKS.out _ hB2
                clear hK K
                try simp only [Act.put, List.setIfInBounds_toArray, List.set_cons_zero, List.set_cons_succ]
                refine wpAnyH_ready (rs := [9]) (by kernel_rfl) (by simp) ?_
                refine (AllReadyH.cons (o := ({ dst := some 83, op := Op.call { callee := Callee.builtin Builtin.append, args := #[Operand.tmp 77, Operand.tmp 82], argTypes := #[22, 22] }, type := 22, pos := "law.go:140", after := #[{ on := 3, ground := Ground.data }, { on := 8, ground := Ground.data }, { on := 3, ground := Ground.chain }], guard := none } : Oper)) rfl (fun K hK => ?_) AllReadyH.nil)
                have hH3 := hHeld.1
                refine step_append_lies _ rfl _ _ 22 rfl wr.heap.size 3 j1 (.int .i64 0) 1 8 Try.underlying22 hi1 ky0 ky1 ky2 rfl (by decide) _ p _ rfl hown2 ⟨wr.heap.size, 0, none⟩ 1 1 [.int .i64 y] rfl rfl (one_cell hlit2) one_one (by omega) (by unfold maxLen; omega) (by omega) hH3.size _ rfl ?_
                intro g4 c4 w6 hown4 hgrow4 hwhere4 hlt4
                have hB6 : Below wr.heap.size wr w6 := hH3.grown hgrow4 hH3.size (fun k hk => (hown2.lt k hk).1)
                have hs6 : SeqC w6 (.slice (some ⟨g4, 0, none⟩) (p + 1) c4) (X ++ [y]) := own_seqC (by rw [intCells_app]; exact hown4)
                refine hK.out _ _ ?_ (fun hHeld => ?_)
                · (try dsimp only); exact HKS.out _ hB6
                clear hK K
                try simp only [Act.put, List.setIfInBounds_toArray, List.set_cons_zero, List.set_cons_succ]
                refine wpAnyH_ready (rs := [10]) (by kernel_rfl) (by simp) ?_
                refine (AllReadyH.cons (o := ({ dst := some 84, op := Op.call { callee := Callee.value (Operand.func 13), args := #[Operand.tmp 74, Operand.tmp 83], argTypes := #[25, 22] }, type := 4, pos := "law.go:140", after := #[{ on := 0, ground := Ground.data }, { on := 9, ground := Ground.data }, { on := 9, ground := Ground.chain }], guard := none } : Oper)) rfl (fun K hK => ?_) AllReadyH.nil)
                go_simp
                refine (HLKN.out _ _ hB6 hs6).mono ?_; rintro e' w7 ⟨rfl, hB7⟩
                refine hK.out _ _ ?_ (fun hHeld => ?_)
                · (try dsimp only); exact HKS.out _ hB7
                clear hK K
                try simp only [Act.put, List.setIfInBounds_toArray, List.set_cons_zero, List.set_cons_succ]
                refine wpAnyH_take (i := 11) (oi := ({ dst := some 85, op := Op.unOp UnOp.not 4 (Operand.tmp 84), type := 4, pos := "law.go:140", after := #[{ on := 10, ground := Ground.data }], guard := none } : Oper)) (v := ?vpb55) rfl (by kernel_rfl) (by kernel_rfl) (by kernel_rfl) (fun _ _ _ h => h) (Or.inl ⟨by rfl, ?hypb55⟩) (by assumption) ?restpb55
                case hypb55 => intro w hSw; (try dsimp only at hSw); go_simp; all_goals (with_reducible rfl)
                try simp only [Act.put, List.setIfInBounds_toArray, List.set_cons_zero, List.set_cons_succ]
                refine wpAnyH_take (i := 12) (oi := ({ dst := some 86, op := Op.move (Operand.tmp 85), type := 4, pos := "law.go:140", after := #[{ on := 11, ground := Ground.data }, { on := 10, ground := Ground.chain }], guard := none } : Oper)) (v := ?vpb56) rfl (by kernel_rfl) (by kernel_rfl) (by kernel_rfl) (fun _ _ _ h => h) (Or.inl ⟨by rfl, ?hypb56⟩) (by assumption) ?restpb56
                case hypb56 => intro w hSw; (try dsimp only at hSw); go_simp; all_goals (with_reducible rfl)
                try simp only [Act.put, List.setIfInBounds_toArray, List.set_cons_zero, List.set_cons_succ]
                refine wpAnyH_take (i := 13) (oi := ({ dst := some 87, op := Op.move (Operand.tmp 2), type := 22, pos := "law.go:140", after := #[{ on := 12, ground := Ground.guard }], guard := some (12, false) } : Oper)) (v := ?vpb57) rfl (by kernel_rfl) (by kernel_rfl) (by kernel_rfl) (fun _ _ _ h => h) (Or.inl ⟨by rfl, ?hypb57⟩) (by assumption) ?restpb57
                case hypb57 => intro w hSw; (try dsimp only at hSw); go_simp; all_goals (with_reducible rfl)
                try simp only [Act.put, List.setIfInBounds_toArray, List.set_cons_zero, List.set_cons_succ]
                refine wpAnyH_take (i := 14) (oi := ({ dst := some 88, op := Op.move (Operand.tmp 12), type := 22, pos := "law.go:140", after := #[{ on := 12, ground := Ground.guard }], guard := some (12, false) } : Oper)) (v := ?vpb58) rfl (by kernel_rfl) (by kernel_rfl) (by kernel_rfl) (fun _ _ _ h => h) (Or.inl ⟨by rfl, ?hypb58⟩) (by assumption) ?restpb58
                case hypb58 => intro w hSw; (try dsimp only at hSw); go_simp; all_goals (with_reducible rfl)
                try simp only [Act.put, List.setIfInBounds_toArray, List.set_cons_zero, List.set_cons_succ]
                refine wpAnyH_take (i := 15) (oi := ({ dst := some 89, op := Op.move (Operand.tmp 14), type := 3, pos := "law.go:140", after := #[{ on := 12, ground := Ground.guard }], guard := some (12, false) } : Oper)) (v := ?vpb59) rfl (by kernel_rfl) (by kernel_rfl) (by kernel_rfl) (fun _ _ _ h => h) (Or.inl ⟨by rfl, ?hypb59⟩) (by assumption) ?restpb59
                case hypb59 => intro w hSw; (try dsimp only at hSw); go_simp; all_goals (with_reducible rfl)
                try simp only [Act.put, List.setIfInBounds_toArray, List.set_cons_zero, List.set_cons_succ]
                refine wpAnyH_take (i := 16) (oi := ({ dst := some 90, op := Op.indexAddr 22 (Operand.tmp 88) (Operand.tmp 89), type := 0, pos := "law.go:140", after := #[{ on := 14, ground := Ground.data }, { on := 15, ground := Ground.data }, { on := 12, ground := Ground.guard }], guard := some (12, false) } : Oper)) (v := ?vpb60) rfl (by kernel_rfl) (by kernel_rfl) (by kernel_rfl) (fun _ _ _ h => h) (Or.inl ⟨by rfl, ?hypb60⟩) (by assumption) ?restpb60
                case hypb60 => intro w hSw; (try dsimp only at hSw); go_simp; all_goals (with_reducible rfl)
                try simp only [Act.put, List.setIfInBounds_toArray, List.set_cons_zero, List.set_cons_succ]
                refine wpAnyH_take (i := 17) (oi := ({ dst := some 91, op := Op.load 3 (Operand.tmp 90), type := 3, pos := "law.go:140", after := #[{ on := 16, ground := Ground.data }, { on := 12, ground := Ground.guard }], guard := some (12, false) } : Oper)) (v := ?vpb61) rfl (by kernel_rfl) (by kernel_rfl) (by kernel_rfl) (fun _ _ _ h => h) (Or.inl ⟨by rfl, ?hypb61⟩) (by assumption) ?restpb61
                case hypb61 => intro w hSw; (try dsimp only at hSw); go_simp; all_goals (with_reducible rfl)
                try simp only [Act.put, List.setIfInBounds_toArray, List.set_cons_zero, List.set_cons_succ]
                refine wpAnyH_ready (rs := [18]) (by kernel_rfl) (by simp) ?_
                refine (AllReadyH.cons (o := ({ dst := some 92, op := Op.call { callee := Callee.value (Operand.func 24), args := #[Operand.tmp 87, Operand.tmp 91], argTypes := #[22, 3] }, type := 4, pos := "law.go:140", after := #[{ on := 13, ground := Ground.data }, { on := 17, ground := Ground.data }, { on := 12, ground := Ground.chain }, { on := 12, ground := Ground.guard }], guard := some (12, false) } : Oper)) rfl (fun K hK => ?_) AllReadyH.nil)
                go_simp
                refine (HHAS.out _ hB7).mono ?_; rintro e' w8' ⟨rfl, hw⟩; obtain rfl := hw.symm
                refine hK.out _ _ ?_ (fun hHeld => ?_)
                · (try dsimp only); exact HKS.out _ hB7
                clear hK K
                try simp only [Act.put, List.setIfInBounds_toArray, List.set_cons_zero, List.set_cons_succ]
                refine wpAnyH_take (i := 19) (oi := ({ dst := some 93, op := Op.pick (Operand.tmp 86) (Operand.const (Value.bool true)) (Operand.tmp 92), type := 4, pos := "law.go:140", after := #[{ on := 12, ground := Ground.data }, { on := 18, ground := Ground.data }], guard := none } : Oper)) (v := ?vpb62) rfl (by kernel_rfl) (by kernel_rfl) (by kernel_rfl) (fun _ _ _ h => h) (Or.inl ⟨by rfl, ?hypb62⟩) (by assumption) ?restpb62
                case hypb62 => intro w hSw; (try dsimp only at hSw); go_simp; all_goals (with_reducible rfl)
                try simp only [Act.put, List.setIfInBounds_toArray, List.set_cons_zero, List.set_cons_succ]
                refine wpAnyH_take (i := 20) (oi := ({ dst := some 94, op := Op.move (Operand.tmp 93), type := 4, pos := "law.go:140", after := #[{ on := 19, ground := Ground.data }, { on := 18, ground := Ground.chain }], guard := none } : Oper)) (v := ?vpb63) rfl (by kernel_rfl) (by kernel_rfl) (by kernel_rfl) (fun _ _ _ h => h) (Or.inl ⟨by rfl, ?hypb63⟩) (by assumption) ?restpb63
                case hypb63 => intro w hSw; (try dsimp only at hSw); go_simp; all_goals (with_reducible rfl)
                try simp only [Act.put, List.setIfInBounds_toArray, List.set_cons_zero, List.set_cons_succ]
                refine wpAnyH_take (i := 21) (oi := ({ dst := some 95, op := Op.move (Operand.tmp 14), type := 3, pos := "law.go:140", after := #[{ on := 20, ground := Ground.guard }], guard := some (20, false) } : Oper)) (v := ?vpb64) rfl (by kernel_rfl) (by kernel_rfl) (by kernel_rfl) (fun _ _ _ h => h) (Or.inl ⟨by rfl, ?hypb64⟩) (by assumption) ?restpb64
                case hypb64 => intro w hSw; (try dsimp only at hSw); go_simp; all_goals (with_reducible rfl)
                try simp only [Act.put, List.setIfInBounds_toArray, List.set_cons_zero, List.set_cons_succ]
                refine wpAnyH_take (i := 22) (oi := ({ dst := some 96, op := Op.binOp BinOp.gtr 3 (Operand.tmp 95) (Operand.const (Value.int IntKind.i64 0)) 3, type := 4, pos := "law.go:140", after := #[{ on := 21, ground := Ground.data }, { on := 20, ground := Ground.guard }], guard := some (20, false) } : Oper)) (v := ?vpb65) rfl (by kernel_rfl) (by kernel_rfl) (by kernel_rfl) (fun _ _ _ h => h) (Or.inl ⟨by rfl, ?hypb65⟩) (by assumption) ?restpb65
                case hypb65 => intro w hSw; (try dsimp only at hSw); go_simp; all_goals (with_reducible rfl)
                try simp only [Act.put, List.setIfInBounds_toArray, List.set_cons_zero, List.set_cons_succ]
                refine wpAnyH_take (i := 23) (oi := ({ dst := some 97, op := Op.move (Operand.tmp 96), type := 4, pos := "law.go:140", after := #[{ on := 22, ground := Ground.data }, { on := 20, ground := Ground.chain }, { on := 20, ground := Ground.guard }], guard := some (20, false) } : Oper)) (v := ?vpb66) rfl (by kernel_rfl) (by kernel_rfl) (by kernel_rfl) (fun _ _ _ h => h) (Or.inl ⟨by rfl, ?hypb66⟩) (by assumption) ?restpb66
                case hypb66 => intro w hSw; (try dsimp only at hSw); go_simp; all_goals (with_reducible rfl)
                try simp only [Act.put, List.setIfInBounds_toArray, List.set_cons_zero, List.set_cons_succ]
                refine wpAnyH_take (i := 24) (oi := ({ dst := some 98, op := Op.move (Operand.tmp 12), type := 22, pos := "law.go:140", after := #[{ on := 23, ground := Ground.guard }], guard := some (23, true) } : Oper)) (v := ?vpb67) rfl (by kernel_rfl) (by kernel_rfl) (by kernel_rfl) (fun _ _ _ h => h) (Or.inl ⟨by rfl, ?hypb67⟩) (by assumption) ?restpb67
                case hypb67 => intro w hSw; (try dsimp only at hSw); go_simp; all_goals (with_reducible rfl)
                try simp only [Act.put, List.setIfInBounds_toArray, List.set_cons_zero, List.set_cons_succ]
                refine wpAnyH_take (i := 25) (oi := ({ dst := some 99, op := Op.move (Operand.tmp 14), type := 3, pos := "law.go:140", after := #[{ on := 23, ground := Ground.guard }], guard := some (23, true) } : Oper)) (v := ?vpb68) rfl (by kernel_rfl) (by kernel_rfl) (by kernel_rfl) (fun _ _ _ h => h) (Or.inl ⟨by rfl, ?hypb68⟩) (by assumption) ?restpb68
                case hypb68 => intro w hSw; (try dsimp only at hSw); go_simp; all_goals (with_reducible rfl)
                try simp only [Act.put, List.setIfInBounds_toArray, List.set_cons_zero, List.set_cons_succ]
                refine wpAnyH_take (i := 26) (oi := ({ dst := some 100, op := Op.binOp BinOp.sub 3 (Operand.tmp 99) (Operand.const (Value.int IntKind.i64 1)) 3, type := 3, pos := "law.go:140", after := #[{ on := 25, ground := Ground.data }, { on := 23, ground := Ground.guard }], guard := some (23, true) } : Oper)) (v := ?vpb69) rfl (by kernel_rfl) (by kernel_rfl) (by kernel_rfl) (fun _ _ _ h => h) (Or.inl ⟨by rfl, ?hypb69⟩) (by assumption) ?restpb69
                case hypb69 => intro w hSw; (try dsimp only at hSw); go_simp; all_goals (with_reducible rfl)
                try simp only [Act.put, List.setIfInBounds_toArray, List.set_cons_zero, List.set_cons_succ]
                refine wpAnyH_take (i := 27) (oi := ({ dst := some 101, op := Op.indexAddr 22 (Operand.tmp 98) (Operand.tmp 100), type := 0, pos := "law.go:140", after := #[{ on := 24, ground := Ground.data }, { on := 26, ground := Ground.data }, { on := 23, ground := Ground.guard }], guard := some (23, true) } : Oper)) (v := ?vpb70) rfl (by kernel_rfl) (by kernel_rfl) (by kernel_rfl) (fun _ _ _ h => h) (Or.inl ⟨by rfl, ?hypb70⟩) (by assumption) ?restpb70
                case hypb70 => intro w hSw; (try dsimp only at hSw); go_simp; all_goals (with_reducible rfl)
                try simp only [Act.put, List.setIfInBounds_toArray, List.set_cons_zero, List.set_cons_succ]
                refine wpAnyH_take (i := 28) (oi := ({ dst := some 102, op := Op.load 3 (Operand.tmp 101), type := 3, pos := "law.go:140", after := #[{ on := 27, ground := Ground.data }, { on := 23, ground := Ground.guard }], guard := some (23, true) } : Oper)) (v := ?vpb71) rfl (by kernel_rfl) (by kernel_rfl) (by kernel_rfl) (fun _ _ _ h => h) (Or.inl ⟨by rfl, ?hypb71⟩) (by assumption) ?restpb71
                case hypb71 => intro w hSw; (try dsimp only at hSw); go_simp; all_goals (with_reducible rfl)
                try simp only [Act.put, List.setIfInBounds_toArray, List.set_cons_zero, List.set_cons_succ]
                refine wpAnyH_take (i := 29) (oi := ({ dst := some 103, op := Op.move (Operand.tmp 12), type := 22, pos := "law.go:140", after := #[{ on := 23, ground := Ground.guard }], guard := some (23, true) } : Oper)) (v := ?vpb72) rfl (by kernel_rfl) (by kernel_rfl) (by kernel_rfl) (fun _ _ _ h => h) (Or.inl ⟨by rfl, ?hypb72⟩) (by assumption) ?restpb72
                case hypb72 => intro w hSw; (try dsimp only at hSw); go_simp; all_goals (with_reducible rfl)
                try simp only [Act.put, List.setIfInBounds_toArray, List.set_cons_zero, List.set_cons_succ]
                refine wpAnyH_take (i := 30) (oi := ({ dst := some 104, op := Op.move (Operand.tmp 14), type := 3, pos := "law.go:140", after := #[{ on := 23, ground := Ground.guard }], guard := some (23, true) } : Oper)) (v := ?vpb73) rfl (by kernel_rfl) (by kernel_rfl) (by kernel_rfl) (fun _ _ _ h => h) (Or.inl ⟨by rfl, ?hypb73⟩) (by assumption) ?restpb73
                case hypb73 => intro w hSw; (try dsimp only at hSw); go_simp; all_goals (with_reducible rfl)
                try simp only [Act.put, List.setIfInBounds_toArray, List.set_cons_zero, List.set_cons_succ]
                refine wpAnyH_take (i := 31) (oi := ({ dst := some 105, op := Op.indexAddr 22 (Operand.tmp 103) (Operand.tmp 104), type := 0, pos := "law.go:140", after := #[{ on := 29, ground := Ground.data }, { on := 30, ground := Ground.data }, { on := 23, ground := Ground.guard }], guard := some (23, true) } : Oper)) (v := ?vpb74) rfl (by kernel_rfl) (by kernel_rfl) (by kernel_rfl) (fun _ _ _ h => h) (Or.inl ⟨by rfl, ?hypb74⟩) (by assumption) ?restpb74
                case hypb74 => intro w hSw; (try dsimp only at hSw); go_simp; all_goals (with_reducible rfl)
                try simp only [Act.put, List.setIfInBounds_toArray, List.set_cons_zero, List.set_cons_succ]
                refine wpAnyH_take (i := 32) (oi := ({ dst := some 106, op := Op.load 3 (Operand.tmp 105), type := 3, pos := "law.go:140", after := #[{ on := 31, ground := Ground.data }, { on := 23, ground := Ground.guard }], guard := some (23, true) } : Oper)) (v := ?vpb75) rfl (by kernel_rfl) (by kernel_rfl) (by kernel_rfl) (fun _ _ _ h => h) (Or.inl ⟨by rfl, ?hypb75⟩) (by assumption) ?restpb75
                case hypb75 => intro w hSw; (try dsimp only at hSw); go_simp; all_goals (with_reducible rfl)
                try simp only [Act.put, List.setIfInBounds_toArray, List.set_cons_zero, List.set_cons_succ]
                refine wpAnyH_take (i := 33) (oi := ({ dst := some 107, op := Op.binOp BinOp.geq 3 (Operand.tmp 102) (Operand.tmp 106) 3, type := 4, pos := "law.go:140", after := #[{ on := 28, ground := Ground.data }, { on := 32, ground := Ground.data }, { on := 23, ground := Ground.guard }], guard := some (23, true) } : Oper)) (v := ?vpb76) rfl (by kernel_rfl) (by kernel_rfl) (by kernel_rfl) (fun _ _ _ h => h) (Or.inl ⟨by rfl, ?hypb76⟩) (by assumption) ?restpb76
                case hypb76 => intro w hSw; (try dsimp only at hSw); go_simp; all_goals (with_reducible rfl)
                try simp only [Act.put, List.setIfInBounds_toArray, List.set_cons_zero, List.set_cons_succ]
                refine wpAnyH_take (i := 34) (oi := ({ dst := some 108, op := Op.pick (Operand.tmp 97) (Operand.tmp 107) (Operand.const (Value.bool false)), type := 4, pos := "law.go:140", after := #[{ on := 23, ground := Ground.data }, { on := 33, ground := Ground.data }, { on := 20, ground := Ground.guard }], guard := some (20, false) } : Oper)) (v := ?vpb77) rfl (by kernel_rfl) (by kernel_rfl) (by kernel_rfl) (fun _ _ _ h => h) (Or.inl ⟨by rfl, ?hypb77⟩) (by assumption) ?restpb77
                case hypb77 => intro w hSw; (try dsimp only at hSw); go_simp; all_goals (with_reducible rfl)
                try simp only [Act.put, List.setIfInBounds_toArray, List.set_cons_zero, List.set_cons_succ]
                refine wpAnyH_take (i := 35) (oi := ({ dst := some 109, op := Op.pick (Operand.tmp 94) (Operand.const (Value.bool true)) (Operand.tmp 108), type := 4, pos := "law.go:140", after := #[{ on := 20, ground := Ground.data }, { on := 34, ground := Ground.data }], guard := none } : Oper)) (v := ?vpb78) rfl (by kernel_rfl) (by kernel_rfl) (by kernel_rfl) (fun _ _ _ h => h) (Or.inl ⟨by rfl, ?hypb78⟩) (by assumption) ?restpb78
                case hypb78 => intro w hSw; (try dsimp only at hSw); go_simp; all_goals (with_reducible rfl)
                try simp only [Act.put, List.setIfInBounds_toArray, List.set_cons_zero, List.set_cons_succ]
                refine wpAnyH_done (by kernel_rfl) ?_ _
                go_wp2_with fail
                go_meet
                exact ⟨rfl, hB7⟩
            case rest =>
              obtain ⟨rfl, hbx⟩ := hcut
              have HBX := Lib.hid (HBi.out.trans (hbx.mono HBi.out.size))
              clear hbx
              go_wp2_with fail
              go_roundg (q - (i + 1))
              case rel => exact ⟨i + 1, HIT.out, rfl, by go_num, HBX.out⟩
              case measure => have := HIT.out; omega
        · obtain rfl : q = i := by omega
          have t5 : decide (q < q) = false := by simp
          obtain ⟨wa, hwa⟩ : ∃ W, wr = W := ⟨_, rfl⟩
          rw [hwa] at hB ⊢
          have HBa := Lib.hid hB; have HGa := Lib.hid (HG8.out.below hB); have HSa := Lib.hid (HS8.out.below hB (Nat.le_refl _)); have HNa := Lib.hid (HN8.out.below hB (Nat.le_refl _)); have HMa := Lib.hid (HM8.out.below hB (Nat.le_refl _)); have HXa := Lib.hid (HX8.out.below hB (Nat.le_refl _))
          clear hit hB hwa
          go_wp2_with fail
          go_loopg [15] r (fun gh yv ws => ∃ i, i ≤ r ∧ gh = r - i ∧ yv = .int .i64 (i : Nat) ∧ Below wa.heap.size wa ws)
          case atStart => exact ⟨0, Nat.zero_le _, rfl, rfl, Below.refl _ _⟩
          case round =>
            obtain ⟨i, hi, rfl, rfl, hB⟩ := hrel
            by_cases hit : i < r
            · have hiG : i < G.length := by rw [HR.out]; exact hit
              obtain ⟨bx, ox, hAx, hxc⟩ := seqPos (HMa.out.below hB (Nat.le_refl _)).1 hiG
              have hmem : G.getD i 0 ∈ G := by
                rw [show G.getD i 0 = G[i] by simp [List.getD, hiG]]
                exact List.getElem_mem _
              obtain ⟨y, hy⟩ : ∃ y, G.getD i 0 = y := ⟨_, rfl⟩
              rw [hy] at hxc hmem
              obtain ⟨g1, g2⟩ := HGN.out y hmem
              have RH := refHas_any N y _ wr (HNa.out.below hB (Nat.le_refl _)) (by rw [HQ.out]; omega)
              rw [List.contains_iff_mem.2 g1] at RH
              have MY := may_any (HGa.out.below hB) X y _ (HXa.out.below hB (Nat.le_refl _)) (by rw [HPP.out]; omega)
              rw [g2] at MY
              have HRH := Lib.hid RH; have HMY := Lib.hid MY; have HIT := Lib.hid hit; have HBi := Lib.hid hB
              have t5 : decide (i < r) = true := decide_eq_true hit
              have j1 : (i : Int) < r := by omega
              have j2 : (0 : Int) ≤ i := by omega
              subst hAx
              clear hit hiG hmem hy g1 g2 RH MY hB
              go_wp2_with fail
              refine HRH.out.mono ?_; rintro e w12 ⟨rfl, hw⟩; obtain rfl := hw.symm
              go_wp2_with fail
              refine HMY.out.mono ?_; rintro e w13 ⟨rfl, d, hw⟩
              have HBX := Lib.hid (show Below wa.heap.size wa w13 by rw [hw]; exact below_drewN' HBi.out d)
              clear hw
              go_wp2_with fail
              go_roundg (r - (i + 1))
              case rel => exact ⟨i + 1, HIT.out, rfl, by go_num, HBX.out⟩
              case measure => have := HIT.out; omega
            · obtain rfl : r = i := by omega
              have t5 : decide (r < r) = false := by simp
              obtain ⟨wb, hwb⟩ : ∃ W, wr = W := ⟨_, rfl⟩
              rw [hwb] at hB ⊢
              have HBb := Lib.hid (HBa.out.trans (hB.mono HBa.out.size)); have HGb := Lib.hid (HGa.out.below hB); have HSb := Lib.hid (HSa.out.below hB (Nat.le_refl _)); have HMb := Lib.hid (HMa.out.below hB (Nat.le_refl _)); have HXb := Lib.hid (HXa.out.below hB (Nat.le_refl _))
              clear hit hB hwb
              go_wp2_with fail
              go_loopg [16] n (fun gh yv ws => ∃ i d, i ≤ n ∧ gh = n - i ∧ yv = .int .i64 (i : Nat) ∧ ws = wb.drewN d)
              case atStart => exact ⟨0, 0, Nat.zero_le _, rfl, rfl, rfl⟩
              case round =>
                obtain ⟨i, d, hi, rfl, rfl, hwd⟩ := hrel
                have hbd : Below wb.heap.size wb wr := by rw [hwd]; exact below_drewN' (Below.refl _ _) d
                have LN := Lib.hid (HGb.out.below hbd).len
                by_cases hit : i < n
                · have MY := may_any (HGb.out.below hbd) X (i : Nat) _ (HXb.out.below hbd (Nat.le_refl _)) (by rw [HPP.out]; omega)
                  rw [HMG.out] at MY
                  have RH := fun k => refHas_any G (i : Nat) _ (wr.drewN k) ((HMb.out.below hbd (Nat.le_refl _)).1.below (below_drewN' (Below.refl _ _) k) (Nat.le_refl _)) (by rw [HR.out]; omega)
                  obtain ⟨zz, hzz⟩ : ∃ b, G.contains ((i : Nat) : Int) = b := ⟨_, rfl⟩
                  rw [hzz] at MY RH
                  have HMY := Lib.hid MY; have HRH := Lib.hid RH; have HIT := Lib.hid hit; have HWD := Lib.hid hwd
                  have t5 : decide (i < n) = true := decide_eq_true hit
                  have j1 : (i : Int) < n := by omega
                  have j2 : (0 : Int) ≤ i := by omega
                  have tz := (show (zz != zz) = false by simp)
                  clear hit hzz MY RH hwd hbd
                  go_wp2_with fail
                  refine LN.out.mono ?_; rintro e w12 ⟨rfl, hw⟩; obtain rfl := hw.symm
                  go_wp2_with fail
                  refine HMY.out.mono ?_; rintro e w13 ⟨rfl, k, hw⟩; obtain rfl := hw.symm
                  go_wp2_with fail
                  refine (HRH.out k).mono ?_; rintro e w14 ⟨rfl, hw⟩; obtain rfl := hw.symm
                  go_wp2_with fail
                  go_roundg (n - (i + 1))
                  case rel => exact ⟨i + 1, d + k, HIT.out, rfl, by go_num, by rw [HWD.out, World.drewN_drewN]⟩
                  case measure => have := HIT.out; omega
                · obtain rfl : n = i := by omega
                  have t5 : decide (n < n) = false := by simp
                  have CA := canonical_any (HGb.out.below hbd) x _ (HSb.out.below hbd (Nat.le_refl _)) (by rw [HXL.out]; omega)
                  rw [list_can HX.out] at CA
                  have HCA := Lib.hid CA
                  have HBB := Lib.hid (HB8.out.trans (HBb.out.mono HB8.out.size)); have HBD := Lib.hid hbd
                  clear hit CA hwd hbd
                  go_wp2_with fail
                  refine LN.out.mono ?_; rintro e w12 ⟨rfl, hw⟩; obtain rfl := hw.symm
                  go_wp2_with fail
                  refine HCA.out.mono ?_; rintro e w13 ⟨rfl, k, hw⟩
                  have HW := Lib.hid hw
                  clear hw
                  go_wp2_with fail
                  go_ret
                  exact ⟨rfl, by rw [HW.out]; exact below_drewN' (HBB.out.trans (HBD.out.mono HBB.out.size)) k⟩
end Go.Proofs.Ytploaffmhemjkaa
