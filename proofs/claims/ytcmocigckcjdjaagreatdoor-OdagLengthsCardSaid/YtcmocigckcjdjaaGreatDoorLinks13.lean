/- odag.linksOf: its contract. -/
import Derived.Test.YtcmocigckcjdjaaGreatDoorSrtL13
import Derived.Test.YtcmocigckcjdjaaGreatDoorRows1
import Derived.Test.YtcmocigckcjdjaaGreatDoorRow13
import Derived.Deep.QuietTactic
import Derived.BigQuiet
import Derived.WalkSmall
import Derived.StillTailTactics
namespace Go.Proofs.YtcmocigckcjdjaaGreatDoor
open Go.RowKit
attribute [local go_sem ↓] app_alias

theorem drewN_two (w : World) (a b : Nat) : (w.drewN a).drewN b = w.drewN (a + b) := by unfold World.drewN; simp only [Nat.add_assoc]
theorem own_edge {w : World} {base n c : Nat} {A : Option Addr} {D : List (Int × Int)} {e : Nat} (h : w.ownsRow base e 2 (.slice A n c) n (eL D)) (hn : D.length = n) {j : Nat} (hj : j < n) :
    ∃ g, A = some ⟨g, 0, none⟩ ∧ w.cell? ⟨g, j * 2, none⟩ = some (.int .i64 (D.getD j (0, 0)).1) ∧ w.cell? ⟨g, j * 2 + 1, none⟩ = some (.int .i64 (D.getD j (0, 0)).2) := by
  have h0 := h
  rcases h.2 with ⟨hv, h1⟩ | ⟨g, cap, cur, hv, _⟩
  · omega
  · injection hv with e1 e2 e3
    subst e1 e3
    have h2 := eL_at D j (by omega)
    exact ⟨g, rfl, by rw [h0.cellAt _ (by omega)]; exact h2.1, by rw [h0.cellAt _ (by omega)]; exact h2.2⟩

set_option maxRecDepth 100000 in
set_option maxHeartbeats 4000000 in
theorem linksOf_any (C : List (List Int)) (i : Nat) (vr v : Value) (w : World) (hr : SeqV w vr (rowP C i)) (hv : ListsV w v C) (hC : C.length ≤ 100000) (hlen : ∀ l ∈ C, i + 1 < l.length) (hin : ∀ l ∈ C, ∀ x ∈ l, In64 x) (hi : i ≤ 100) :
    Calls Tryz.prog 31 #[vr, v, .int .i64 i] w fun e w' => ∃ v', e = .returned v' ∧ RowsOwn w' w.heap.size v' (linksP C i) ∧ Below w.heap.size w w' := by
  obtain ⟨A, c, rfl⟩ := hv.form
  obtain ⟨Ar, cr, rfl⟩ := IntsV.form hr
  obtain ⟨n, hn⟩ : ∃ n, C.length = n := ⟨_, rfl⟩
  obtain ⟨R, hR⟩ : ∃ R, rowP C i = R := ⟨_, rfl⟩
  have hris : Rising R := by rw [← hR]; exact row_rising C i
  have hRl : R.length ≤ n := by rw [← hR, ← hn]; exact row_len C i
  rw [hn] at hv hC ⊢
  rw [hR] at hr ⊢
  obtain ⟨m, hm⟩ : ∃ m, R.length = m := ⟨_, rfl⟩
  rw [hm] at hr hRl ⊢
  have HV := Lib.hid hv; have HN := Lib.hid hn; have HLEN := Lib.hid hlen; have HIN := Lib.hid hin; have HR := Lib.hid hR; have HSR := Lib.hid hr; have HRIS := Lib.hid hris; have HM := Lib.hid hm
  have i8 : (i : Int) ≤ 100 := by omega
  have hmk := fun W => run_makeLinks W
  clear hv hn hlen hin hr hR hris hm
  go_enter Tryz.func31, Tryz.ntmps31
  go_wp2_with fail
  have HB0 := Lib.hid ((Below.refl w.heap.size w).alloc (Nat.le_refl _) (.map #[] 0))
  have HS0 := Lib.hid (LinkSet.made w)
  clear hmk
  go_loopg [18] n (fun gh yv wr => ∃ k, k ≤ n ∧ gh = n - k ∧ yv = .int .i64 (k : Nat) ∧ LinkSet wr w.heap.size (pairP (C.take k) i) ∧ Below w.heap.size w wr)
  case atStart => exact ⟨0, Nat.zero_le _, rfl, rfl, HS0.out, HB0.out⟩
  case round =>
    obtain ⟨k, hk, rfl, rfl, hset, hB⟩ := hrel
    by_cases hlt : k < n
    · have hkC : k < C.length := by rw [HN.out]; exact hlt
      obtain ⟨bb, off, u, rfl, hc, hu⟩ := ListsV.pos (HV.out.below hB (Nat.le_refl _)) hkC
      obtain ⟨l, hl⟩ : ∃ l, C[k] = l := ⟨_, rfl⟩
      have hmem : l ∈ C := by rw [← hl]; exact List.getElem_mem _
      rw [hl] at hu
      have hil := HLEN.out l hmem
      obtain ⟨hus, A2, c2, rfl, _⟩ := hu
      obtain ⟨b2, off2, rfl, hc2⟩ := hus.pos (i := i) (by omega)
      obtain ⟨b3, off3, e3, hc3⟩ := hus.pos (i := i + 1) hil
      injection e3 with e3
      injection e3 with e3 e4
      subst e3 e4
      obtain ⟨x, hx⟩ : ∃ z, l.getD i 0 = z := ⟨_, rfl⟩
      obtain ⟨y, hy⟩ : ∃ z, l.getD (i + 1) 0 = z := ⟨_, rfl⟩
      rw [hx] at hc2
      rw [hy] at hc3
      have hxl : x ∈ l := by rw [← hx]; simp [List.getD, show i < l.length by omega]
      have hyl : y ∈ l := by rw [← hy]; simp [List.getD, hil]
      obtain ⟨kl, hkx⟩ := key_link (e := (x, y)) (HIN.out l hmem x hxl) (HIN.out l hmem y hyl)
      have htk : pairP (C.take (k + 1)) i = pairP (C.take k) i ++ [(x, y)] := by
        unfold pairP
        rw [List.take_succ_eq_append_getElem hkC, List.map_append, hl, List.map_singleton, hx, hy]
      obtain ⟨nn, D, hown, hnn, hD⟩ := hset
      have hnn2 : nn < maxLen := by unfold maxLen; unfold pairP at hnn; rw [List.length_map, List.length_take] at hnn; omega
      obtain ⟨q, hq⟩ : ∃ m, l.length = m := ⟨_, rfl⟩
      rw [hq] at hil hc
      have t3 : decide (k < n) = true := decide_eq_true hlt
      have i1 : (k : Int) < n := by omega
      have i2 : (0 : Int) ≤ k := by omega
      have i3 : (i : Int) < q := by omega
      have i3' : (i : Int) + 1 < q := by omega
      have i4 : (0 : Int) ≤ i := by omega
      have HO := Lib.hid hown; have HK := Lib.hid hkx; have HNN := Lib.hid hnn; have HD := Lib.hid hD; have HB := Lib.hid hB; have HTK := Lib.hid htk; have HLT := Lib.hid hlt
      clear hown hkx hnn hD hB htk hlt hxl hyl hx hy hkC hmem hl hq hus hil
      go_wp2_with fail
      have w1 : IntKind.i64.wrap ((i : Int) + 1) = (i : Int) + 1 := by rw [IntKind.wrap_i64]; omega
      have w2 : (0 : Int) ≤ (i : Int) + 1 := by omega
      have w3 : ((i : Int) + 1).toNat = i + 1 := by omega
      refine wp_region_still_tail 12 (by kernel_rfl) (by kernel_rfl) ?_
      simp only [List.take_succ_cons, List.take_zero, List.drop_succ_cons, List.drop_zero]
      change wpStill _ _ (World.drew _) _ _ _
      repeat still_step
      refine wpStill_nil ?_
      clear w1 w2 w3
      change wpList _ _ _ _ _ (World.drew _)
      go_wp2_with (at_mapUpdate; refine wpList_mapUpdate_own _ rfl _ _ _ 92 rfl 94 87 link_keyed Tryz.underlying92 Go.unitElem w.heap.size nn D rfl HO.out hnn2 _ _ kl rfl rfl HK.out (.agg []) [] Go.unitElem_mk ?_)
      intro w4 hown4 hgrow4
      have HSET4 := Lib.hid (LinkSet.put HK.out HNN.out HO.out.isMap HD.out hown4)
      have HB4 := Lib.hid ((below_drewN' HB.out 1).grown hgrow4 HB.out.size (fun q hq => by injection hq with hq; omega))
      clear hown4 hgrow4 hc hc2 hc3
      go_wp2_with fail
      go_roundg (n - (k + 1))
      case rel => exact ⟨k + 1, HLT.out, rfl, by go_num, by rw [HTK.out]; exact HSET4.out, HB4.out⟩
      case measure => have := HLT.out; omega
    · obtain rfl : k = n := by omega
      have t3 : decide (k < k) = false := by simp
      rw [List.take_of_length_le (by rw [HN.out]; omega)] at hset
      have hall : ∀ e ∈ pairP C i, In64 e.1 ∧ In64 e.2 := fun e he => by
        unfold pairP at he
        obtain ⟨l, hl, rfl⟩ := List.mem_map.1 he
        have h1 := HLEN.out l hl
        exact ⟨HIN.out l hl _ (by simp [List.getD, show i < l.length by omega]), HIN.out l hl _ (by simp [List.getD, h1])⟩
      have hpl : (pairP C i).length = k := by unfold pairP; rw [List.length_map, HN.out]
      have KC := keysL_call (some w.heap.size) wr
      have SC := sortedL hset hall (by omega)
      rw [hpl] at SC
      have HKC := Lib.hid KC; have HSC := Lib.hid SC; have HB := Lib.hid hB
      clear hset hB KC SC hall hlt hpl
      go_wp2_with fail
      refine HKC.out.mono ?_; rintro e w2 ⟨rfl, hw2⟩
      have HW2 := Lib.hid hw2
      clear hw2
      go_wp2_with fail
      rw [HW2.out]
      refine HSC.out.mono ?_; rintro e w3 ⟨v3, D, rfl, hst, hmem, hle, hown, hb3⟩
      obtain ⟨A3, c3, rfl⟩ := own_form hown
      have hown' : w3.ownsRow w.heap.size 94 2 (.slice A3 D.length c3) D.length (eL D) := ⟨hown.1, hown.2.imp id (fun ⟨g, cap, cur, e1, e2, e3⟩ => ⟨g, cap, cur, e1, Nat.le_trans HB.out.size e2, e3⟩)⟩
      have hB3 : Below w.heap.size w w3 := HB.out.trans (hb3.mono HB.out.size)
      obtain ⟨md, hmd⟩ : ∃ md, D.length = md := ⟨_, rfl⟩
      rw [hmd] at hown' hle ⊢
      have HST := Lib.hid hst; have HMEM := Lib.hid hmem; have HOWN := Lib.hid hown'; have HB3 := Lib.hid hB3; have HMD := Lib.hid hmd
      have hmk := fun V => run_rows m (by omega) V
      have hb4 : Below w3.heap.size w3 (w3.alloc (.cells (madeCells #[.slice none 0 0] m) 44)) := (Below.refl _ _).alloc (Nat.le_refl _) _
      have hR0 : Rows1 (w3.alloc (.cells (madeCells #[.slice none 0 0] m) 44)) w.heap.size w3.heap.size (rowsL R []) := by
        rw [rowsL_nil, HM.out]
        exact Rows1.made (Whole.new _ _ _)
      have HB4 := Lib.hid (hB3.trans (hb4.mono hB3.size)); have HR0 := Lib.hid hR0; have HO4 := Lib.hid (own_below hown' hb4 (Nat.le_refl _)); have HS3 := Lib.hid hB3.size
      obtain ⟨nb, hnb⟩ : ∃ nb, w3.heap.size = nb := ⟨_, rfl⟩
      obtain ⟨w4, hw4⟩ : ∃ W, w3.alloc (.cells (madeCells #[.slice none 0 0] m) 44) = W := ⟨_, rfl⟩
      rw [hnb, hw4] at HR0
      rw [hw4] at HB4 HO4
      rw [hnb] at HS3
      have HNB := Lib.hid hnb; have HW4 := Lib.hid hw4
      clear hst hmem hown hown' hb3 hb4 hB3 hR0 hmd hnb hw4
      go_wp2_with fail
      rw [HW4.out, HNB.out]
      clear hmk
      go_loopg [12, 43] md (fun gh kv yv wr => ∃ j k, j ≤ md ∧ gh = md - j ∧ kv = .int .i64 (k : Nat) ∧ yv = .int .i64 (j : Nat) ∧ (k = 0 ∨ (k < m ∧ ∃ j0, j0 < j ∧ R.getD k 0 = (D.getD j0 (0, 0)).1)) ∧
        wr.ownsRow w.heap.size 94 2 (.slice A3 md c3) md (eL D) ∧ Rows1 wr w.heap.size nb (rowsL R (D.take j)) ∧ Below w.heap.size w wr)
      case atStart => exact ⟨0, 0, Nat.zero_le _, rfl, rfl, rfl, Or.inl rfl, HO4.out, HR0.out, HB4.out⟩
      case round =>
        obtain ⟨j, q, hj, rfl, rfl, rfl, hq, hown, hrows, hB⟩ := hrel
        by_cases hlt : j < md
        · have hjD : j < D.length := by rw [HMD.out]; exact hlt
          obtain ⟨g, rfl, cx, cy⟩ := own_edge hown HMD.out hlt
          obtain ⟨⟨x, y⟩, hxy⟩ : ∃ e, D.getD j (0, 0) = e := ⟨_, rfl⟩
          have hDj : D[j] = (x, y) := by rw [← hxy]; simp [List.getD, hjD]
          have hxR : x ∈ R := by
            have := pair_row (C := C) (i := i) ((HMEM.out (x, y)).1 (by rw [← hDj]; exact List.getElem_mem _))
            rw [HR.out] at this
            exact this
          rw [hxy] at cx cy
          simp only at cx cy
          have hm0 : 0 < m := by rw [← HM.out]; exact List.length_pos_of_mem hxR
          obtain ⟨t, hqt, htm, htx, htl⟩ := row_next (R := R) (S := D) HRIS.out HST.out (j := j) (k := q) hjD (by rw [HM.out]; omega) (by rw [hxy]; exact hxR) (by
            rcases hq with h | h
            · exact Or.inl h
            · exact Or.inr h.2)
          rw [hxy] at htx htl
          simp only at htx htl
          rw [HM.out] at htm
          have htk : D.take (j + 1) = D.take j ++ [(x, y)] := by rw [List.take_succ_eq_append_getElem hjD, hDj]
          have hbx : Below wr.heap.size wr (wr.alloc (.cells #[.int .i64 x, .int .i64 y] 94)) := (Below.refl _ _).alloc (Nat.le_refl _) _
          have hbox := Whole.new wr 94 #[.int .i64 x, .int .i64 y]
          have t5 : decide (j < md) = true := decide_eq_true hlt
          have i5 : (j : Int) < md := by omega
          have i6 : (0 : Int) ≤ j := by omega
          have HO5 := Lib.hid (own_below hown hbx (Nat.le_refl _)); have HR5 := Lib.hid (hrows.below hbx (Nat.le_refl _)); have HB5 := Lib.hid (hB.trans (hbx.mono hB.size))
          have HTX := Lib.hid htx; have HTL := Lib.hid htl; have HTK := Lib.hid htk; have HXY := Lib.hid hxy; have HLT := Lib.hid hlt; have HQT := Lib.hid hqt; have HTM := Lib.hid htm; have HSZ := Lib.hid hB.size
          obtain ⟨xb, hxb⟩ : ∃ xb, wr.heap.size = xb := ⟨_, rfl⟩
          obtain ⟨w5, hw5⟩ : ∃ W, wr.alloc (.cells #[.int .i64 x, .int .i64 y] 94) = W := ⟨_, rfl⟩
          rw [hxb, hw5] at hbox
          rw [hw5] at HO5 HR5 HB5
          rw [hxb] at HSZ
          have HBOX := Lib.hid hbox; have HXB := Lib.hid hxb; have HW5 := Lib.hid hw5
          clear hown hrows hB hbx hbox hjD hDj hxR hxy htx htl htk hlt hq hqt hxb hw5 hm0 htm
          go_wp2_with fail
          rw [HW5.out, HXB.out]
          clear cx cy
          go_loopg [12] (t - q) (fun gh kv ws => ∃ s, s ≤ t ∧ gh = t - s ∧ kv = .int .i64 (s : Nat) ∧ ∃ d, ws = w5.drewN d)
          case atStart => exact ⟨q, HQT.out, rfl, rfl, 0, rfl⟩
          case round =>
            obtain ⟨s, hs, rfl, rfl, d, rfl⟩ := hrel
            have hsm : s < m := by have := HTM.out; omega
            obtain ⟨br, orr, e1, cr1⟩ := SeqV.pos (HSR.out.below HB5.out (Nat.le_refl _)) (i := s) (by rw [HM.out]; exact hsm)
            subst e1
            obtain ⟨z, hz⟩ : ∃ z, R.getD s 0 = z := ⟨_, rfl⟩
            rw [hz] at cr1
            have bx0 : w5.cell? ⟨xb, 0, none⟩ = some (.int .i64 x) := HBOX.out.cell 0
            have i7 : (s : Int) < m := by omega
            have i8 : (0 : Int) ≤ s := by omega
            have HS := Lib.hid hs
            by_cases hst : s < t
            · have hzx := HTL.out s hst
              rw [hz] at hzx
              have t6 : decide (z < x) = true := decide_eq_true hzx
              have HST2 := Lib.hid hst
              clear hz hzx hst hs
              go_wp2_with fail
              go_quiet (fail)
              rw [drewN_two]
              go_wp2_with fail
              go_roundg (t - (s + 1))
              case rel => exact ⟨s + 1, HST2.out, rfl, by go_num, _, rfl⟩
              case measure => have := HST2.out; omega
            · obtain rfl : s = t := by omega
              have hzx : z = x := by rw [← hz]; exact HTX.out
              subst hzx
              have t6 : decide (z < z) = false := by simp
              have HZ := Lib.hid hz
              clear hz hst hs
              go_wp2_with fail
              go_quiet (fail)
              rw [drewN_two]
              rename_i nq
              obtain ⟨V, hV⟩ : ∃ V, w5.drewN (d + nq) = V := ⟨_, rfl⟩
              have hOV : V.ownsRow w.heap.size 94 2 (.slice (some ⟨g, 0, none⟩) md c3) md (eL D) := by rw [← hV]; exact HO5.out
              have hRV : Rows1 V w.heap.size nb (rowsL R (D.take j)) := by rw [← hV]; exact HR5.out.below (below_drewN' (Below.refl _ _) _) (Nat.le_refl _)
              have hBV : Below w.heap.size w V := by rw [← hV]; exact below_drewN' HB5.out _
              have hXV : Whole V xb 94 #[.int .i64 z, .int .i64 y] := by rw [← hV]; exact HBOX.out
              rw [hV]
              have HV2 := Lib.hid hV
              have hsR : s < R.length := by rw [HM.out]; exact hsm
              have hM2 : (rowsL R (D.take j))[s]? = some (linkL (D.take j) z) := by
                unfold rowsL
                rw [List.getElem?_map, List.getElem?_eq_getElem hsR]
                have : R[s] = z := by have := HZ.out; simpa [List.getD, hsR] using this
                rw [this]
                rfl
              have hq2 : (linkL (D.take j) z).length ≤ 1000000 := by
                have h1 : (linkL (D.take j) z).length ≤ (D.take j).length := by unfold linkL; rw [List.length_map]; exact List.length_filter_le _ _
                rw [List.length_take] at h1
                omega
              have HSZ3 : w.heap.size ≤ nb := HS3.out
              obtain ⟨A2, c2, a2, _, r2⟩ := hRV.at hM2
              obtain ⟨q2, hl2⟩ : ∃ q, (linkL (D.take j) z).length = q := ⟨_, rfl⟩
              rw [hl2] at a2 r2 hq2
              obtain ⟨B2, e2, w6, ha2, hown2, hgrow2⟩ := app_num hBV.size r2 hq2 y
              have hRV1 : Rows1 V.drew w.heap.size nb (rowsL R (D.take j)) := hRV.below (below_drewN' (Below.refl _ _) 1) (Nat.le_refl _)
              have hsl : s < (rowsL R (D.take j)).length := by unfold rowsL; rw [List.length_map]; exact hsR
              have hown3 : w6.ownsRow w.heap.size 3 1 (.slice B2 (q2 + 1) e2) (linkL (D.take j) z ++ [y]).length (intCells (linkL (D.take j) z ++ [y])) := by rw [List.length_append, hl2, intCells_app]; exact hown2
              have hput := hRV1.put hsl a2 hgrow2 hown3
              rw [show (rowsL R (D.take j)).set s (linkL (D.take j) z ++ [y]) = rowsL R (D.take j ++ [(z, y)]) from rowsL_snoc (e := (z, y)) HRIS.out hsR HTX.out] at hput
              have hkeep := hRV1.other hsl a2 hgrow2 (own_drewN hOV 1) (by decide) (by decide)
              have hbel := (hgrow2.below (own_drewN r2 1) (below_drewN' hBV 1) (Nat.le_refl _) hBV.size).setCell (p := ⟨nb, s, none⟩) HSZ3 (.slice B2 (q2 + 1) e2)
              obtain ⟨y4, f4⟩ := hRV1.same hsl a2 hgrow2
              have y6 := hgrow2.whole (hXV.drewN 1) (own_drewN r2 1) (by decide)
              have y5 : w6.cell? ⟨xb, 1, none⟩ = some (.int .i64 y) := y6.cell 1
              have x1 : V.cell? ⟨xb, 1, none⟩ = some (.int .i64 y) := hXV.cell 1
              have hA0 : Below V.heap.size V (V.alloc (.cells #[.int .i64 y] 3)) := (Below.refl _ _).alloc (Nat.le_refl _) _
              have y1 : (V.alloc (.cells #[.int .i64 y] 3)).drew.cell? ⟨nb, s, none⟩ = some (.slice A2 q2 c2) := (hA0.cell (p := ⟨nb, s, none⟩) (World.block_lt_of_cell? _ _ a2)).trans a2
              have y2 : (V.alloc (.cells #[.int .i64 y] 3)).drew.cell? ⟨xb, 1, none⟩ = some (.int .i64 y) := (hA0.cell (p := ⟨xb, 1, none⟩) (World.block_lt_of_cell? _ _ x1)).trans x1
              have HPUT := Lib.hid hput; have HKEEP := Lib.hid hkeep; have HBEL := Lib.hid hbel; have Y1 := Lib.hid y1; have Y2 := Lib.hid y2; have Y4 := Lib.hid y4; have Y5 := Lib.hid y5
              clear hput hkeep hbel y1 y2 y4 y5 y6 hA0 hown3 hRV1 hRV hOV hBV hXV hM2 r2 hl2 hown2 hgrow2 hsR hsl cr1 bx0 hV
              go_wp2_with fail
              refine region_reads [0,1,2,3,4,5,6,7] 8 9 10 11 (by kernel_rfl) (by kernel_rfl) (fun w' => w'.cell? ⟨nb, s, none⟩ = some (.slice A2 q2 c2) ∧ w'.cell? ⟨xb, 1, none⟩ = some (.int .i64 y)) ⟨a2, x1⟩ (by kernel_rfl) (by kernel_rfl) (by kernel_rfl) (by kernel_rfl) (by kernel_rfl) (by kernel_rfl) (by kernel_rfl) rfl rfl rfl rfl rfl rfl rfl rfl (by kernel_rfl) ?_
              refine ⟨_, ?v1_0, rfl, Or.inl ⟨by rfl, ?hy1_0⟩, fun _ _ _ h => h, ?rest1_0⟩
              case hy1_0 => (intro w' hSw; obtain ⟨s1, s2⟩ := hSw; go_simp; try with_reducible rfl)
              try dsimp only [Act.put]
              refine ⟨_, ?v1_1, rfl, Or.inl ⟨by rfl, ?hy1_1⟩, fun _ _ _ h => h, ?rest1_1⟩
              case hy1_1 => (intro w' hSw; obtain ⟨s1, s2⟩ := hSw; go_simp; try with_reducible rfl)
              try dsimp only [Act.put]
              refine ⟨_, ?v1_2, rfl, Or.inl ⟨by rfl, ?hy1_2⟩, fun _ _ _ h => h, ?rest1_2⟩
              case hy1_2 => (intro w' hSw; obtain ⟨s1, s2⟩ := hSw; go_simp; try with_reducible rfl)
              try dsimp only [Act.put]
              refine ⟨_, ?v1_3, rfl, Or.inl ⟨by rfl, ?hy1_3⟩, fun _ _ _ h => h, ?rest1_3⟩
              case hy1_3 => (intro w' hSw; obtain ⟨s1, s2⟩ := hSw; go_simp; try with_reducible rfl)
              try dsimp only [Act.put]
              refine ⟨_, ?v1_4, rfl, Or.inl ⟨by rfl, ?hy1_4⟩, fun _ _ _ h => h, ?rest1_4⟩
              case hy1_4 => (intro w' hSw; obtain ⟨s1, s2⟩ := hSw; go_simp; try with_reducible rfl)
              try dsimp only [Act.put]
              refine ⟨_, ?v1_5, rfl, Or.inl ⟨by rfl, ?hy1_5⟩, fun _ _ _ h => h, ?rest1_5⟩
              case hy1_5 => (intro w' hSw; obtain ⟨s1, s2⟩ := hSw; go_simp; try with_reducible rfl)
              try dsimp only [Act.put]
              refine ⟨_, ?v1_6, rfl, Or.inl ⟨by rfl, ?hy1_6⟩, fun _ _ _ h => h, ?rest1_6⟩
              case hy1_6 => (intro w' hSw; obtain ⟨s1, s2⟩ := hSw; go_simp; try with_reducible rfl)
              try dsimp only [Act.put]
              refine ⟨_, ?v1_7, rfl, Or.inl ⟨by rfl, ?hy1_7⟩, fun _ _ _ h => h, ?rest1_7⟩
              case hy1_7 => (intro w' hSw; obtain ⟨s1, s2⟩ := hSw; go_simp; try with_reducible rfl)
              try dsimp only [Act.put]
              refine reads_nil ?_
              refine wp_bare (fun K1 hK1 => ?_)
              go_simp
              refine hK1.out _ _ ⟨⟨Y1.out, Y2.out⟩, ?_⟩
              refine wp_bare (fun K2 hK2 => ?_)
              go_simp
              refine hK2.out _ _ ⟨⟨Y4.out, Y5.out⟩, ?_⟩
              refine wp_bare (fun K3 hK3 => ?_)
              go_simp
              refine hK3.out _ _ ?_
              have y4 := Y4.out
              refine wp_bare (fun K4 hK4 => ?_)
              go_simp
              refine hK4.out _ _ ?_
              clear a2 x1 ha2 y4 f4
              go_wp2_with fail
              go_roundg (md - (j + 1))
              case rel => exact ⟨j + 1, s, HLT.out, rfl, rfl, by go_num, Or.inr ⟨hsm, j, Nat.lt_succ_self _, by rw [HXY.out]; exact HTX.out⟩, HKEEP.out, by rw [HTK.out]; exact HPUT.out, HBEL.out⟩
              case measure => have := HLT.out; omega
        · obtain rfl : j = md := by omega
          have t5 : decide (j < j) = false := by simp
          rw [List.take_of_length_le (by rw [HMD.out]; omega)] at hrows
          have hlk : rowsL R D = linksP C i := by
            unfold rowsL linksP
            rw [HR.out]
            exact List.map_congr_left fun a _ => linkL_eq HST.out HMEM.out a
          rw [hlk] at hrows
          have hl2 : (linksP C i).length = m := by unfold linksP; rw [List.length_map, HR.out, HM.out]
          have hfin := hrows.rows HS3.out (by rw [hl2]; omega)
          rw [hl2] at hfin
          have HF := Lib.hid hfin; have HB := Lib.hid hB
          clear hrows hfin hlk hl2 hown hq hB hlt
          go_wp2_with fail
          go_ret
          exact ⟨_, rfl, HF.out, HB.out⟩
end Go.Proofs.YtcmocigckcjdjaaGreatDoor
