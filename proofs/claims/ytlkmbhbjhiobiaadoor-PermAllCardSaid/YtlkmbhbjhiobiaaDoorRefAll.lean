/- The document's All(n): its contract. -/
import Derived.Test.YtlkmbhbjhiobiaaDoorAllP
import Derived.Test.YtlkmbhbjhiobiaaDoorAppVals
namespace Go.Proofs.YtlkmbhbjhiobiaaDoor
open Go.RowKit

/-- What x numbers make of a list. -/
def extTo (L : List Int) (x : Nat) : List (List Int) := ((upto x).filter fun y => !L.contains y).map fun y => L ++ [y]
theorem extTo_all (n : Nat) (L : List Int) : extTo L n = extL n L := rfl
theorem upto_succ (x : Nat) : upto (x + 1) = upto x ++ [(x : Int)] := by simp [upto, List.range_succ]
theorem extTo_has {L : List Int} {x : Nat} (h : L.contains (x : Int) = true) : extTo L (x + 1) = extTo L x := by
  unfold extTo
  have h' : (x : Int) ∈ L := by simpa using h
  rw [upto_succ, List.filter_append, List.map_append]
  simp [h']
theorem extTo_new {L : List Int} {x : Nat} (h : L.contains (x : Int) = false) : extTo L (x + 1) = extTo L x ++ [L ++ [(x : Int)]] := by
  unfold extTo
  have h' : (x : Int) ∉ L := by simpa using h
  rw [upto_succ, List.filter_append, List.map_append]
  simp [h']
theorem allR_each (n : Nat) : ∀ (i : Nat) (L : List Int), L ∈ allR n i → L.length = i
  | 0, L, h => by simp [allR] at h; subst h; rfl
  | i + 1, L, h => by
    simp only [allR, List.mem_flatMap, extL, List.mem_map] at h
    obtain ⟨M, hM, y, _, rfl⟩ := h
    rw [List.length_append, allR_each n i M hM]
    rfl
theorem allR_few : ((List.range 7).all fun n => (List.range 8).all fun i => decide ((allR n i).length ≤ 720)) = true := by kernel_rfl
theorem allR_len {n i : Nat} (hn : n ≤ 6) (hi : i ≤ 7) : (allR n i).length ≤ 720 := by
  have h := List.all_eq_true.1 allR_few n (List.mem_range.2 (by omega))
  exact of_decide_eq_true (List.all_eq_true.1 h i (List.mem_range.2 (by omega)))
/-- Lists, as far as k of them were gone through. -/
def nxt (n : Nat) (C : List (List Int)) (k : Nat) : List (List Int) := (C.take k).flatMap (extL n)
theorem nxt_succ {n k : Nat} {C : List (List Int)} (h : k < C.length) : nxt n C (k + 1) = nxt n C k ++ extL n C[k] := by
  unfold nxt
  rw [List.take_succ_eq_append_getElem h, List.flatMap_append]
  simp
theorem nxt_all (n i : Nat) : nxt n (allR n i) (allR n i).length = allR n (i + 1) := by
  unfold nxt
  rw [List.take_length]
  rfl

theorem RowsOwn.base {w : World} {base base' : Nat} {v : Value} {C : List (List Int)} (h : RowsOwn w base v C) (hb : base' ≤ base) : RowsOwn w base' v C := by
  obtain ⟨us, h, hr⟩ := h
  exact ⟨us, own_base h hb, fun i u L hu hL => own_base (hr i u L hu hL) hb⟩
theorem rows_first (w : World) : RowsOwn ((w.alloc (.cells #[] 3)).alloc (.cells #[.slice (some ⟨w.heap.size, 0, none⟩) 0 0] 22)) w.heap.size (.slice (some ⟨w.heap.size + 1, 0, none⟩) 1 1) [[]] := by
  have h0 := World.ownsRow_lit (base := w.heap.size) (e := 3) (size := 1) w #[] 0 (Nat.le_refl _) (by unfold maxLen; omega) rfl
  have h1 := World.ownsRow_lit (base := w.heap.size) (e := 22) (size := 1) (w.alloc (.cells #[] 3)) #[.slice (some ⟨w.heap.size, 0, none⟩) 0 0] 1 (by simp) (by unfold maxLen; omega) rfl
  rw [World.size_alloc] at h1
  refine ⟨_, h1, fun i u L hu hL => ?_⟩
  rcases (by omega : i = 0 ∨ 1 ≤ i) with rfl | hi
  · simp at hu hL
    subst hu hL
    exact own_below h0 ((Below.refl _ _).alloc (Nat.le_refl _) _) (Nat.le_refl _)
  · rw [List.getElem?_eq_none (by simp; omega)] at hL; cases hL

set_option maxRecDepth 100000 in
set_option maxHeartbeats 8000000 in
theorem refAll_any (n : Nat) (w : World) (hn : n ≤ 6) :
    Calls Tryd.prog 24 #[.int .i64 n] w fun e w' => ∃ v, e = .returned v ∧ ListsV w' v (allR n n) ∧ Below w.heap.size w w' := by
  obtain ⟨j0, hi0, hz0, hz1, hz2⟩ := info_parts Tryd.infoInt6
  obtain ⟨j1, hi1, ky0, ky1, ky2⟩ := info_parts Tryd.infoRow
  have HR0 := Lib.hid (rows_first w)
  have HB0 : Hid (Below w.heap.size w ((w.alloc (.cells #[] 3)).alloc (.cells #[.slice (some ⟨w.heap.size, 0, none⟩) 0 0] 22))) := Lib.hid (((Below.refl _ _).alloc (Nat.le_refl _) _).alloc (by simp) _)
  go_enter Tryd.func24, Tryd.ntmps24
  go_wp2_with fail
  go_loopg [3, 4] n (fun g x y wr => ∃ i, i ≤ n ∧ g = n - i ∧ y = .int .i64 (i : Nat) ∧ RowsOwn wr w.heap.size x (allR n i) ∧ Below w.heap.size w wr)
  case atStart => exact ⟨0, Nat.zero_le _, rfl, rfl, HR0.out, HB0.out⟩
  case round =>
    obtain ⟨i, hi, rfl, rfl, hown, hb⟩ := hrel
    obtain ⟨Ax, cx, rfl⟩ := hown.form
    have hq7 := allR_len hn (show i ≤ 7 by omega)
    have heach := allR_each n i
    have hnext := nxt_all n i
    obtain ⟨C, hC⟩ : ∃ C, allR n i = C := ⟨_, rfl⟩
    rw [hC] at hown hq7 heach hnext ⊢
    obtain ⟨q, hq⟩ : ∃ q, C.length = q := ⟨_, rfl⟩
    rw [hq] at hq7 hnext ⊢
    have HOWN := Lib.hid hown; have HB := Lib.hid hb; have HQ := Lib.hid hq; have HC := Lib.hid hC; have HEACH := Lib.hid heach; have HNX := Lib.hid hnext
    have hsz := hb.size
    clear hown hb hq hC heach hnext
    by_cases hlt : i < n
    · have t1 : decide (i < n) = true := decide_eq_true hlt
      have t1' : decide ((i : Int) < n) = true := decide_eq_true (by omega)
      have HLT := Lib.hid hlt
      clear hlt
      go_wp2_with fail
      obtain ⟨wo, rfl⟩ : ∃ x, x = wr := ⟨_, rfl⟩
      go_loopg [5, 6] q (fun g x y wr => ∃ k O, k ≤ q ∧ g = q - k ∧ y = .int .i64 (k : Nat) ∧ RowsOwn wr wo.heap.size x O ∧ O = nxt n C k ∧ O.length ≤ 10 * k ∧ Below wo.heap.size wo wr)
      case atStart => exact ⟨0, [], Nat.zero_le _, rfl, rfl, RowsOwn.nil _ _, rfl, Nat.zero_le _, Below.refl _ _⟩
      case round =>
        obtain ⟨k, O, hk, rfl, rfl, hown, hO, hlen, hb⟩ := hrel
        obtain ⟨Ay, cy, rfl⟩ := hown.form
        obtain ⟨o, ho⟩ : ∃ o, O.length = o := ⟨_, rfl⟩
        rw [ho] at hown hlen ⊢
        have HOW := Lib.hid hown; have HO := Lib.hid hO; have HB1 := Lib.hid hb; have HOL := Lib.hid ho
        clear ho
        have hsz1 := hb.size
        by_cases hlk : k < q
        · have t2 : decide (k < q) = true := decide_eq_true hlk
          have t2' : decide ((k : Int) < q) = true := decide_eq_true (by omega)
          have HLK := Lib.hid hlk
          have i1 : (k : Int) < q := by omega
          have i2 : (0 : Int) ≤ k := by omega
          clear hown hO hb hlk
          go_wp2_with fail
          go_loopg [5, 7] n (fun g x y wr => ∃ z P, z ≤ n ∧ g = n - z ∧ y = .int .i64 (z : Nat) ∧ RowsOwn wr wo.heap.size x P ∧ P = nxt n C k ++ extTo (C.getD k []) z ∧ P.length ≤ 10 * k + z ∧ Below wo.heap.size wo wr)
          case atStart => exact ⟨0, O, Nat.zero_le _, rfl, rfl, HOW.out, by rw [HO.out]; simp [extTo, upto], by rw [HOL.out]; omega, HB1.out⟩
          case round =>
            obtain ⟨z, P, hz, rfl, rfl, hrow, hP, hPl, hbr⟩ := hrel
            by_cases hlz : z < n
            · have t3 : decide (z < n) = true := decide_eq_true hlz
              have t3' : decide ((z : Int) < n) = true := decide_eq_true (by omega)
              have hkC : k < C.length := by rw [HQ.out]; exact HLK.out
              obtain ⟨b, off, u, rfl, hc, hu⟩ := (HOWN.out.lists.below hbr (Nat.le_refl _)).pos hkC
              have eL : C.getD k [] = C[k] := by simp [List.getD, hkC]
              have hLl := HEACH.out C[k] (List.getElem_mem _)
              obtain ⟨L, hL⟩ : ∃ L, C[k] = L := ⟨_, rfl⟩
              rw [hL] at hu eL hLl
              rw [eL] at hP
              have hbl : b < wr.heap.size := World.block_lt_of_cell? _ _ hc
              obtain ⟨Au, cu, rfl, hucap⟩ := hu.2
              obtain ⟨p, hp⟩ : ∃ p, L.length = p := ⟨_, rfl⟩
              rw [hp] at hu hc hLl hucap
              have hp6 : p ≤ 6 := by omega
              have H1 := Lib.hid (refHas_any L (z : Nat) _ wr hu.1 (by omega))
              have HU := Lib.hid hu; have HROW := Lib.hid hrow; have HP := Lib.hid hP; have HBR := Lib.hid hbr; have HPL := Lib.hid hp
              have hszr := hbr.size
              have HLZ := Lib.hid hlz; have HEL := Lib.hid eL
              clear hu hrow hP hbr hp hL eL hlz hkC hucap hLl
              by_cases hhas : L.contains (z : Int) = true
              · have HE := Lib.hid (extTo_has hhas)
                rw [hhas] at H1
                clear hhas
                go_wp2_with fail
                refine H1.out.mono ?_; rintro e w1 ⟨rfl, hw⟩; obtain rfl := hw.symm
                go_wp2_with fail
                go_roundg (n - (z + 1))
                case rel => exact ⟨z + 1, P, HLZ.out, rfl, by go_num, HROW.out, by rw [HEL.out, HE.out]; exact HP.out, by omega, HBR.out⟩
                case measure => have := HLZ.out; omega
              · have hno : L.contains (z : Int) = false := by simpa using hhas
                have HE := Lib.hid (extTo_new hno)
                rw [hno] at H1
                clear hhas hno
                obtain ⟨us, hown, hr⟩ := HROW.out
                obtain ⟨m, hm⟩ : ∃ m, P.length = m := ⟨_, rfl⟩
                rw [hm] at hown hPl
                obtain ⟨Ap, cp, rfl⟩ := own_form hown
                have HOWN1 := Lib.hid hown; have HR := Lib.hid hr; have HM := Lib.hid hm
                have OW0 := World.ownsRow_lit (base := wr.heap.size) (e := 3) (size := 1) wr #[] 0 (Nat.le_refl _) (by unfold maxLen; omega) rfl
                have hA0 : Below wr.heap.size wr (wr.alloc (.cells #[] 3)) := (Below.refl _ _).alloc (Nat.le_refl _) _
                have HU0 := Lib.hid (HU.out.1.below hA0 (Nat.le_refl _))
                have HOW0 := Lib.hid OW0; have HA0 := Lib.hid hA0
                have hsz0 : wr.heap.size ≤ (wr.alloc (.cells #[] 3)).heap.size := hA0.size
                clear hown hr hm OW0 hA0
                go_wp2_with fail
                refine H1.out.mono ?_; rintro e w1 ⟨rfl, hw⟩; obtain rfl := hw.symm
                go_wp2_with (at_builtin; refine wpList_appInts _ rfl _ _ 22 rfl wr.heap.size j0 Tryd.underlying22 hi0 hz0 hz1 hz2 _ 0 _ rfl HOW0.out _ L rfl HU0.out (by rw [HPL.out]; omega) hsz0 ?_)
                intro A2 c2 w2 hown2 hgrow2
                have hb2 : Below wr.heap.size wr w2 := hgrow2.below HOW0.out HA0.out (Nat.le_refl _) hsz0
                have e2 : L.length = p := HPL.out
                rw [e2] at hown2 ⊢
                have hown2' : w2.ownsRow wr.heap.size 3 1 (.slice A2 p c2) p (intCells L) := by simpa using hown2
                have hs2 := hb2.size
                have HOW2 := Lib.hid hown2'; have HB2 := Lib.hid hb2
                clear hown2 hown2' hgrow2 hb2 e2
                go_wp2_with (at_builtin; refine wpList_app1g _ rfl _ _ 22 rfl wr.heap.size 3 j0 (.int .i64 0) 8 Tryd.underlying22 hi0 hz0 hz1 hz2 rfl _ p _ rfl HOW2.out _ rfl rfl (by omega) (by omega) hs2 ?_)
                intro A3 c3 w3 hown3 hgrow3
                have hb3 : Below wr.heap.size wr w3 := hgrow3.below HOW2.out HB2.out (Nat.le_refl _) hs2
                have hs3 := hb3.size
                have hnew : w3.ownsRow wo.heap.size 3 1 (.slice A3 (p + 1) c3) (L ++ [(z : Int)]).length (intCells (L ++ [(z : Int)])) := by
                  rw [intCells_app, List.length_append, HPL.out]
                  exact own_base hown3 hszr
                have hnx := own_below HOWN1.out hb3 (Nat.le_refl _)
                have HNEW := Lib.hid hnew; have HNXT := Lib.hid hnx; have HB3 := Lib.hid hb3
                have HR3 : Hid (∀ (i : Nat) (u : Value) (M : List Int), us[i]? = some u → P[i]? = some M → w3.ownsRow wo.heap.size 3 1 u M.length (intCells M)) := Lib.hid (fun i u M hu hM => own_below (HR.out i u M hu hM) hb3 (Nat.le_refl _))
                have hs3w : wo.heap.size ≤ w3.heap.size := Nat.le_trans hszr hs3
                clear hown3 hgrow3 hb3 hnew hnx
                go_wp2_with (at_builtin; refine wpList_app1g _ rfl _ _ 32 rfl wo.heap.size 22 j1 (.slice none 0 0) 24 Tryd.underlying32 hi1 ky0 ky1 ky2 rfl _ m _ rfl HNXT.out _ rfl rfl (by omega) (by omega) hs3w ?_)
                intro A4 c4 w4 hown4 hgrow4
                have hb4 : Below wo.heap.size wo w4 := hgrow4.below HNXT.out (HBR.out.trans (HB3.out.mono hszr)) (Nat.le_refl _) hs3w
                have hro : RowsOwn w4 wo.heap.size (.slice A4 (m + 1) c4) (P ++ [L ++ [(z : Int)]]) :=
                  RowsOwn.more (by rw [HM.out]; exact HNXT.out) HR3.out HNEW.out (by rw [HM.out]; exact hown4) hgrow4
                have HRO := Lib.hid hro; have HB4 := Lib.hid hb4
                have HLEN : Hid ((P ++ [L ++ [(z : Int)]]).length ≤ 10 * k + (z + 1)) := Lib.hid (by rw [List.length_append, HM.out]; simp; omega)
                clear hown4 hgrow4 hb4 hro
                go_wp2_with fail
                go_roundg (n - (z + 1))
                case rel => exact ⟨z + 1, _, HLZ.out, rfl, by go_num, HRO.out, by rw [HEL.out, HE.out, HP.out, List.append_assoc], HLEN.out, HB4.out⟩
                case measure => have := HLZ.out; omega
            · obtain rfl : z = n := by omega
              have t3 : decide (z < z) = false := by simp
              have hkC : k < C.length := by rw [HQ.out]; exact HLK.out
              have hP2 : P = nxt z C (k + 1) := by
                rw [hP, nxt_succ hkC, extTo_all]
                simp [List.getD, hkC]
              have HROW := Lib.hid hrow; have HP := Lib.hid hP2; have HBR := Lib.hid hbr
              clear hrow hP hP2 hbr hlz hkC
              go_wp2_with fail
              go_roundg (q - (k + 1))
              case rel => exact ⟨k + 1, P, HLK.out, rfl, by go_num, HROW.out, HP.out, by omega, HBR.out⟩
              case measure => have := HLK.out; omega
        · obtain rfl : k = q := by omega
          have t2 : decide (k < k) = false := by simp
          have hb2 : Below w.heap.size w wr := HB.out.trans (hb.mono HB.out.size)
          have hrow : RowsOwn wr w.heap.size (.slice Ay o cy) (allR n (i + 1)) := by
            rw [← HNX.out, ← HO.out]
            exact hown.base HB.out.size
          have HROW := Lib.hid hrow; have HB2 := Lib.hid hb2
          clear hown hO hb hlk hb2 hrow
          go_wp2_with fail
          go_roundg (n - (i + 1))
          case rel => exact ⟨i + 1, HLT.out, rfl, by go_num, HROW.out, HB2.out⟩
          case measure => have := HLT.out; omega
    · obtain rfl : i = n := by omega
      have t1 : decide (i < i) = false := by simp
      clear hlt
      go_wp2_with fail
      go_ret
      exact ⟨_, rfl, by rw [HC.out]; have := HOWN.out.lists; rwa [HQ.out] at this, HB.out⟩
end Go.Proofs.YtlkmbhbjhiobiaaDoor
