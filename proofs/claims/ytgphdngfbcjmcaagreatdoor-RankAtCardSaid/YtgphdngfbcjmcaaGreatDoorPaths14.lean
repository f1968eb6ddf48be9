/- The document's paths: Paths: its contract. -/
import Derived.Test.YtgphdngfbcjmcaaGreatDoorJP
import Derived.Test.YtgphdngfbcjmcaaGreatDoorJR
import Derived.BigQuiet
import Derived.Deep.RegionHeld3
import Derived.Deep.DrawnRows
import Derived.Deep.CutBlock
import Derived.Deep.DeepCutAuto
namespace Go.Proofs.YtgphdngfbcjmcaaGreatDoor
open Go.RowKit

theorem RowsOwn.base {w : World} {base base' : Nat} {v : Value} {C : List (List Int)} (h : RowsOwn w base v C) (hb : base' ≤ base) : RowsOwn w base' v C := by
  obtain ⟨us, h, hr⟩ := h
  exact ⟨us, own_base h hb, fun i u L hu hL => own_base (hr i u L hu hL) hb⟩
theorem rows_first (w : World) : RowsOwn ((w.alloc (.cells #[] 3)).alloc (.cells #[.slice (some ⟨w.heap.size, 0, none⟩) 0 0] 23)) w.heap.size (.slice (some ⟨w.heap.size + 1, 0, none⟩) 1 1) [[]] := by
  have h0 := World.ownsRow_lit (base := w.heap.size) (e := 3) (size := 1) w #[] 0 (Nat.le_refl _) (by unfold maxLen; omega) rfl
  have h1 := World.ownsRow_lit (base := w.heap.size) (e := 23) (size := 1) (w.alloc (.cells #[] 3)) #[.slice (some ⟨w.heap.size, 0, none⟩) 0 0] 1 (by simp) (by unfold maxLen; omega) rfl
  rw [World.size_alloc] at h1
  refine ⟨_, h1, fun i u L hu hL => ?_⟩
  rcases (by omega : i = 0 ∨ 1 ≤ i) with rfl | hi
  · simp at hu hL
    subst hu hL
    exact own_below h0 ((Below.refl _ _).alloc (Nat.le_refl _) _) (Nat.le_refl _)
  · rw [List.getElem?_eq_none (by simp; omega)] at hL; cases hL
theorem ext_take {C : List (List Int)} {i : Nat} {p R : List Int} {j : Nat} (h : j < R.length) : extP C i p (R.take (j + 1)) = extP C i p (R.take j) ++ (if goesB C i p (R.getD j 0) then [p ++ [R.getD j 0]] else []) := by
  unfold extP
  rw [List.take_succ_eq_append_getElem h, List.filter_append, List.map_append]
  have e : R.getD j 0 = R[j] := by simp [List.getD, h]
  rw [e]
  by_cases hg : goesB C i p R[j] = true
  · rw [List.filter_cons_of_pos hg, if_pos hg]; rfl
  · rw [List.filter_cons_of_neg hg, if_neg hg]; rfl
/-- The lists that k of some lists go on to. -/
def nextP (C : List (List Int)) (i : Nat) (R : List Int) (D : List (List Int)) (k : Nat) : List (List Int) := (D.take k).flatMap fun p => extP C i p R
theorem next_succ {C : List (List Int)} {i : Nat} {R : List Int} {D : List (List Int)} {k : Nat} (h : k < D.length) : nextP C i R D (k + 1) = nextP C i R D k ++ extP C i D[k] R := by
  unfold nextP
  rw [List.take_succ_eq_append_getElem h, List.flatMap_append]
  simp

set_option maxRecDepth 100000 in
set_option maxHeartbeats 16000000 in
theorem refPaths_any (C : List (List Int)) (n : Nat) (v : Value) (w : World) (hv : ListsV w v C) (hC : C.length ≤ 12) (hL : ∀ l ∈ C, l.length = n) (hn : n ≤ 5) :
    Calls Tryz.prog 11 #[v, .int .i64 n] w fun e w' => ∃ v', e = .returned v' ∧ ListsV w' v' (prefP C n) ∧ Below w.heap.size w w' := by
  obtain ⟨j1, hi1, ky0, ky1, ky2⟩ := info_parts Tryz.infoInt6
  obtain ⟨j2, hi2, kz0, kz1, kz2⟩ := info_parts Tryz.infoRow
  obtain ⟨Al, cl, rfl⟩ := hv.form
  have HCL := Lib.hid hC; have HL := Lib.hid hL
  have HR0 := Lib.hid (rows_first w)
  have HB0 : Hid (Below w.heap.size w ((w.alloc (.cells #[] 3)).alloc (.cells #[.slice (some ⟨w.heap.size, 0, none⟩) 0 0] 23))) := Lib.hid (((Below.refl _ _).alloc (Nat.le_refl _) _).alloc (by simp) _)
  obtain ⟨cN, hcN⟩ : ∃ x, C.length = x := ⟨_, rfl⟩
  rw [hcN] at hv ⊢
  have HV := Lib.hid hv
  clear hv hC hL hcN
  go_enter Tryz.func11, Tryz.ntmps11
  go_wp2_with fail
  go_loopg [5, 6] n (fun g x y wr => ∃ i, i ≤ n ∧ g = n - i ∧ y = .int .i64 (i : Nat) ∧ RowsOwn wr w.heap.size x (prefP C i) ∧ Below w.heap.size w wr)
  case atStart => exact ⟨0, Nat.zero_le _, rfl, rfl, HR0.out, HB0.out⟩
  case round =>
    obtain ⟨i, hi, rfl, rfl, hown, hb⟩ := hrel
    obtain ⟨Ay, cy, rfl⟩ := hown.form
    by_cases hlt : i < n
    · have hfew := pref_few C i
      have h12 : C.length ^ i ≤ 12 ^ 4 := Nat.le_trans (Nat.pow_le_pow_left HCL.out i) (Nat.pow_le_pow_right (by omega) (by omega))
      have hnx : ∀ R, rowP C i = R → prefP C (i + 1) = nextP C i R (prefP C i) (prefP C i).length := fun R hR => by
        rw [← hR, nextP, List.take_length]; rfl
      have hRl := Nat.le_trans (row_len C i) HCL.out
      have heach := pref_len C i
      obtain ⟨D, hD⟩ : ∃ D, prefP C i = D := ⟨_, rfl⟩
      rw [hD] at hown hfew hnx heach ⊢
      obtain ⟨q, hq⟩ : ∃ q, D.length = q := ⟨_, rfl⟩
      rw [hq] at hfew hnx ⊢
      have hq4 : q ≤ 20736 := Nat.le_trans hfew (Nat.le_trans h12 (by decide))
      have ROW := Lib.hid (refRow_any C n i _ wr (HV.out.below hb (Nat.le_refl _)) (by have := HCL.out; omega) HL.out hlt)
      have t1 : decide (i < n) = true := decide_eq_true hlt
      have HOWN := Lib.hid hown; have HB := Lib.hid hb; have HQ := Lib.hid hq; have HNX := Lib.hid hnx; have HLT := Lib.hid hlt; have HEACH := Lib.hid heach
      clear hown hb hq hnx hlt hfew h12 hD heach
      go_wp2_with fail
      refine ROW.out.mono ?_; rintro e w1 ⟨vr, rfl, hvr, hb1⟩
      have HW1 := Lib.hid (HB.out.trans (hb1.mono HB.out.size))
      have HO1 := Lib.hid (HOWN.out.below hb1 (Nat.le_refl _))
      obtain ⟨R, hR⟩ : ∃ R, rowP C i = R := ⟨_, rfl⟩
      have HRP := Lib.hid (HNX.out R hR)
      rw [hR] at hvr hRl
      obtain ⟨s, hs⟩ : ∃ s, R.length = s := ⟨_, rfl⟩
      obtain ⟨hvs, Ar, cr, rfl, _⟩ := id hvr
      rw [hs] at hvs hRl ⊢
      have HVR := Lib.hid hvs; have HS := Lib.hid hs
      clear hvr hvs hR hs hb1 ROW
      go_wp2_with fail
      go_loopg [8, 9] q (fun g x y wr => ∃ k O, k ≤ q ∧ g = q - k ∧ y = .int .i64 (k : Nat) ∧ RowsOwn wr w1.heap.size x O ∧ O = nextP C i R D k ∧ O.length ≤ 12 * k ∧ Below w1.heap.size w1 wr)
      case atStart => exact ⟨0, [], Nat.zero_le _, rfl, rfl, RowsOwn.nil _ _, rfl, Nat.zero_le _, Below.refl _ _⟩
      case round =>
        obtain ⟨k, O, hk, rfl, rfl, hown, hO, hlen, hb⟩ := hrel
        obtain ⟨Az, cz, rfl⟩ := hown.form
        have HOW := Lib.hid hown; have HO := Lib.hid hO; have HB1 := Lib.hid hb; have HOL := Lib.hid hlen
        by_cases hlk : k < q
        · have t2 : decide (k < q) = true := decide_eq_true hlk
          have HLK := Lib.hid hlk
          have i1 : (k : Int) < q := by omega
          have i2 : (0 : Int) ≤ k := by omega
          clear hown hO hb hlk hlen
          go_wp2_with fail
          go_loopg [8, 10] s (fun g x y wr => ∃ j P, j ≤ s ∧ g = s - j ∧ y = .int .i64 (j : Nat) ∧ RowsOwn wr w1.heap.size x P ∧ P = nextP C i R D k ++ extP C i (D.getD k []) (R.take j) ∧ P.length ≤ 12 * k + j ∧ Below w1.heap.size w1 wr)
          case atStart => exact ⟨0, O, Nat.zero_le _, rfl, rfl, HOW.out, by rw [HO.out]; simp [extP], by have := HOL.out; omega, HB1.out⟩
          case round =>
            obtain ⟨j, P, hj, rfl, rfl, hrow, hP, hPl, hbr⟩ := hrel
            obtain ⟨Ap, cp, rfl⟩ := hrow.form
            by_cases hjt : j < s
            · have hkD : k < D.length := by rw [HQ.out]; exact HLK.out
              obtain ⟨bo, oo, uo, rfl, hco, huo⟩ := HO1.out.lists.pos hkD
              have hXl := HEACH.out D[k] (List.getElem_mem _)
              have eX : D.getD k [] = D[k] := by simp [List.getD, hkD]
              obtain ⟨X, hX⟩ : ∃ X, D[k] = X := ⟨_, rfl⟩
              rw [eX, hX] at hP
              rw [hX] at huo hXl
              obtain ⟨hxs, Ax, cx, rfl, _⟩ := huo
              obtain ⟨px, hpx⟩ : ∃ p, X.length = p := ⟨_, rfl⟩
              rw [hpx] at hco hxs hXl
              have hpx5 : px ≤ 5 := by omega
              have HXL0 := Lib.hid hXl
              clear hXl
              obtain ⟨bg, og, rfl, hcg⟩ := HVR.out.pos (i := j) (by rw [HS.out]; exact hjt)
              have hext := ext_take (C := C) (i := i) (p := X) (R := R) (j := j) (by rw [HS.out]; exact hjt)
              obtain ⟨u, hu⟩ : ∃ u, R.getD j 0 = u := ⟨_, rfl⟩
              have hcg : w1.cell? ⟨bg, og + j, none⟩ = some (.int .i64 u) := by rw [← hu]; exact hcg
              rw [hu] at hext
              obtain ⟨B, hB⟩ : ∃ B, goesB C i X u = B := ⟨_, rfl⟩
              rw [hB] at hext
              have HKS1 := Lib.hid (fun (W : World) (hb : Below w1.heap.size w1 W) => (show Below w1.heap.size w1 W ∧ W.cell? ⟨bo, oo + k, none⟩ = some (.slice Ax px cx) ∧ W.cell? ⟨bg, og + j, none⟩ = some (.int .i64 u) from ⟨hb, cell_below hco hb (Nat.le_refl _), cell_below hcg hb (Nat.le_refl _)⟩))
              have HXS := Lib.hid hxs
              have HCO := Lib.hid hco; have HCG := Lib.hid hcg
              have HROW := Lib.hid hrow; have HP := Lib.hid hP; have HBR := Lib.hid hbr; have HPL := Lib.hid hPl; have HEXT := Lib.hid hext; have HJT := Lib.hid hjt; have HPX := Lib.hid hpx; have HGB := Lib.hid hB; have HEX := Lib.hid (show D.getD k [] = X by rw [eX, hX])
              have t3 : decide (j < s) = true := decide_eq_true hjt
              have m1 : (j : Int) < s := by omega
              have m2 : (0 : Int) ≤ j := by omega
              clear hkD hco hcg hX eX hxs hpx hu hB hext hrow hP hbr hjt
              obtain ⟨z, hz⟩ : ∃ z, P.length = z := ⟨_, rfl⟩
              rw [hz] at hPl HPL ⊢
              have HZ := Lib.hid hz
              have z1 : z ≤ 12 * k + j := hPl
              clear hz hPl
              go_upto_region 13 with fail
              go_cut [52] (fun x wx => x = .bool B ∧ Below wr.heap.size wr wx)
              case first =>
                by_cases hi0 : i = 0
                · have hBt : B = true := by rw [← HGB.out, hi0]; rfl
                  have t4 : ((i : Int) == 0) = true := by simp [hi0]
                  have t4' : (i == 0) = true := by simp [hi0]
                  subst hBt
                  clear hi0
                  refine wp_region_held_drew (S := fun _ => True) (by kernel_rfl) ?_ (fun hHeld => ?_)
                  · (try dsimp only); all_goals trivial
                  refine wpAnyH_take (i := 0) (oi := ({ dst := some 33, op := Op.move (Operand.tmp 6), type := 3, pos := "ref.go:47", after := #[], guard := none } : Oper)) (v := ?vgb1) rfl (by kernel_rfl) (by kernel_rfl) (by kernel_rfl) (fun _ _ _ h => h) (Or.inl ⟨by rfl, ?hygb1⟩) (by assumption) ?restgb1
                  case hygb1 => intro w hSw; (try dsimp only at hSw); go_simp; all_goals (with_reducible rfl)
                  try simp only [Act.put, List.setIfInBounds_toArray, List.set_cons_zero, List.set_cons_succ]
                  refine wpAnyH_take (i := 1) (oi := ({ dst := some 34, op := Op.binOp BinOp.eql 3 (Operand.tmp 33) (Operand.const (Value.int IntKind.i64 0)) 3, type := 4, pos := "ref.go:47", after := #[{ on := 0, ground := Ground.data }], guard := none } : Oper)) (v := ?vgb2) rfl (by kernel_rfl) (by kernel_rfl) (by kernel_rfl) (fun _ _ _ h => h) (Or.inl ⟨by rfl, ?hygb2⟩) (by assumption) ?restgb2
                  case hygb2 => intro w hSw; (try dsimp only at hSw); go_simp; all_goals (with_reducible rfl)
                  try simp only [Act.put, List.setIfInBounds_toArray, List.set_cons_zero, List.set_cons_succ]
                  refine wpAnyH_take (i := 2) (oi := ({ dst := some 35, op := Op.move (Operand.tmp 34), type := 4, pos := "ref.go:47", after := #[{ on := 1, ground := Ground.data }], guard := none } : Oper)) (v := ?vgb3) rfl (by kernel_rfl) (by kernel_rfl) (by kernel_rfl) (fun _ _ _ h => h) (Or.inl ⟨by rfl, ?hygb3⟩) (by assumption) ?restgb3
                  case hygb3 => intro w hSw; (try dsimp only at hSw); go_simp; all_goals (with_reducible rfl)
                  try simp only [Act.put, List.setIfInBounds_toArray, List.set_cons_zero, List.set_cons_succ]
                  refine wpAnyH_take (i := 3) (oi := ({ dst := some 36, op := Op.move (Operand.tmp 0), type := 22, pos := "ref.go:47", after := #[{ on := 2, ground := Ground.guard }], guard := some (2, false) } : Oper)) (v := undef) rfl (by kernel_rfl) (by kernel_rfl) (by kernel_rfl) (fun _ _ _ h => h) (Or.inr ⟨by rfl, rfl⟩) (by assumption) ?_
                  try simp only [Act.put, List.setIfInBounds_toArray, List.set_cons_zero, List.set_cons_succ]
                  refine wpAnyH_take (i := 4) (oi := ({ dst := some 37, op := Op.move (Operand.tmp 6), type := 3, pos := "ref.go:47", after := #[{ on := 2, ground := Ground.guard }], guard := some (2, false) } : Oper)) (v := undef) rfl (by kernel_rfl) (by kernel_rfl) (by kernel_rfl) (fun _ _ _ h => h) (Or.inr ⟨by rfl, rfl⟩) (by assumption) ?_
                  try simp only [Act.put, List.setIfInBounds_toArray, List.set_cons_zero, List.set_cons_succ]
                  refine wpAnyH_take (i := 5) (oi := ({ dst := some 38, op := Op.binOp BinOp.sub 3 (Operand.tmp 37) (Operand.const (Value.int IntKind.i64 1)) 3, type := 3, pos := "ref.go:47", after := #[{ on := 4, ground := Ground.data }, { on := 2, ground := Ground.guard }], guard := some (2, false) } : Oper)) (v := undef) rfl (by kernel_rfl) (by kernel_rfl) (by kernel_rfl) (fun _ _ _ h => h) (Or.inr ⟨by rfl, rfl⟩) (by assumption) ?_
                  try simp only [Act.put, List.setIfInBounds_toArray, List.set_cons_zero, List.set_cons_succ]
                  refine wpAnyH_take (i := 6) (oi := ({ dst := some 39, op := Op.move (Operand.tmp 5), type := 22, pos := "ref.go:47", after := #[{ on := 2, ground := Ground.guard }], guard := some (2, false) } : Oper)) (v := undef) rfl (by kernel_rfl) (by kernel_rfl) (by kernel_rfl) (fun _ _ _ h => h) (Or.inr ⟨by rfl, rfl⟩) (by assumption) ?_
                  try simp only [Act.put, List.setIfInBounds_toArray, List.set_cons_zero, List.set_cons_succ]
                  refine wpAnyH_take (i := 7) (oi := ({ dst := some 40, op := Op.move (Operand.tmp 9), type := 3, pos := "ref.go:47", after := #[{ on := 2, ground := Ground.guard }], guard := some (2, false) } : Oper)) (v := undef) rfl (by kernel_rfl) (by kernel_rfl) (by kernel_rfl) (fun _ _ _ h => h) (Or.inr ⟨by rfl, rfl⟩) (by assumption) ?_
                  try simp only [Act.put, List.setIfInBounds_toArray, List.set_cons_zero, List.set_cons_succ]
                  refine wpAnyH_take (i := 8) (oi := ({ dst := some 41, op := Op.indexAddr 22 (Operand.tmp 39) (Operand.tmp 40), type := 0, pos := "ref.go:47", after := #[{ on := 6, ground := Ground.data }, { on := 7, ground := Ground.data }, { on := 2, ground := Ground.guard }], guard := some (2, false) } : Oper)) (v := undef) rfl (by kernel_rfl) (by kernel_rfl) (by kernel_rfl) (fun _ _ _ h => h) (Or.inr ⟨by rfl, rfl⟩) (by assumption) ?_
                  try simp only [Act.put, List.setIfInBounds_toArray, List.set_cons_zero, List.set_cons_succ]
                  refine wpAnyH_take (i := 9) (oi := ({ dst := some 42, op := Op.load 23 (Operand.tmp 41), type := 23, pos := "ref.go:47", after := #[{ on := 8, ground := Ground.data }, { on := 2, ground := Ground.guard }], guard := some (2, false) } : Oper)) (v := undef) rfl (by kernel_rfl) (by kernel_rfl) (by kernel_rfl) (fun _ _ _ h => h) (Or.inr ⟨by rfl, rfl⟩) (by assumption) ?_
                  try simp only [Act.put, List.setIfInBounds_toArray, List.set_cons_zero, List.set_cons_succ]
                  refine wpAnyH_take (i := 10) (oi := ({ dst := some 43, op := Op.move (Operand.tmp 6), type := 3, pos := "ref.go:47", after := #[{ on := 2, ground := Ground.guard }], guard := some (2, false) } : Oper)) (v := undef) rfl (by kernel_rfl) (by kernel_rfl) (by kernel_rfl) (fun _ _ _ h => h) (Or.inr ⟨by rfl, rfl⟩) (by assumption) ?_
                  try simp only [Act.put, List.setIfInBounds_toArray, List.set_cons_zero, List.set_cons_succ]
                  refine wpAnyH_take (i := 11) (oi := ({ dst := some 44, op := Op.binOp BinOp.sub 3 (Operand.tmp 43) (Operand.const (Value.int IntKind.i64 1)) 3, type := 3, pos := "ref.go:47", after := #[{ on := 10, ground := Ground.data }, { on := 2, ground := Ground.guard }], guard := some (2, false) } : Oper)) (v := undef) rfl (by kernel_rfl) (by kernel_rfl) (by kernel_rfl) (fun _ _ _ h => h) (Or.inr ⟨by rfl, rfl⟩) (by assumption) ?_
                  try simp only [Act.put, List.setIfInBounds_toArray, List.set_cons_zero, List.set_cons_succ]
                  refine wpAnyH_take (i := 12) (oi := ({ dst := some 45, op := Op.indexAddr 23 (Operand.tmp 42) (Operand.tmp 44), type := 0, pos := "ref.go:47", after := #[{ on := 9, ground := Ground.data }, { on := 11, ground := Ground.data }, { on := 2, ground := Ground.guard }], guard := some (2, false) } : Oper)) (v := undef) rfl (by kernel_rfl) (by kernel_rfl) (by kernel_rfl) (fun _ _ _ h => h) (Or.inr ⟨by rfl, rfl⟩) (by assumption) ?_
                  try simp only [Act.put, List.setIfInBounds_toArray, List.set_cons_zero, List.set_cons_succ]
                  refine wpAnyH_take (i := 13) (oi := ({ dst := some 46, op := Op.load 3 (Operand.tmp 45), type := 3, pos := "ref.go:47", after := #[{ on := 12, ground := Ground.data }, { on := 2, ground := Ground.guard }], guard := some (2, false) } : Oper)) (v := undef) rfl (by kernel_rfl) (by kernel_rfl) (by kernel_rfl) (fun _ _ _ h => h) (Or.inr ⟨by rfl, rfl⟩) (by assumption) ?_
                  try simp only [Act.put, List.setIfInBounds_toArray, List.set_cons_zero, List.set_cons_succ]
                  refine wpAnyH_take (i := 14) (oi := ({ dst := some 47, op := Op.move (Operand.tmp 7), type := 23, pos := "ref.go:47", after := #[{ on := 2, ground := Ground.guard }], guard := some (2, false) } : Oper)) (v := undef) rfl (by kernel_rfl) (by kernel_rfl) (by kernel_rfl) (fun _ _ _ h => h) (Or.inr ⟨by rfl, rfl⟩) (by assumption) ?_
                  try simp only [Act.put, List.setIfInBounds_toArray, List.set_cons_zero, List.set_cons_succ]
                  refine wpAnyH_take (i := 15) (oi := ({ dst := some 48, op := Op.move (Operand.tmp 10), type := 3, pos := "ref.go:47", after := #[{ on := 2, ground := Ground.guard }], guard := some (2, false) } : Oper)) (v := undef) rfl (by kernel_rfl) (by kernel_rfl) (by kernel_rfl) (fun _ _ _ h => h) (Or.inr ⟨by rfl, rfl⟩) (by assumption) ?_
                  try simp only [Act.put, List.setIfInBounds_toArray, List.set_cons_zero, List.set_cons_succ]
                  refine wpAnyH_take (i := 16) (oi := ({ dst := some 49, op := Op.indexAddr 23 (Operand.tmp 47) (Operand.tmp 48), type := 0, pos := "ref.go:47", after := #[{ on := 14, ground := Ground.data }, { on := 15, ground := Ground.data }, { on := 2, ground := Ground.guard }], guard := some (2, false) } : Oper)) (v := undef) rfl (by kernel_rfl) (by kernel_rfl) (by kernel_rfl) (fun _ _ _ h => h) (Or.inr ⟨by rfl, rfl⟩) (by assumption) ?_
                  try simp only [Act.put, List.setIfInBounds_toArray, List.set_cons_zero, List.set_cons_succ]
                  refine wpAnyH_take (i := 17) (oi := ({ dst := some 50, op := Op.load 3 (Operand.tmp 49), type := 3, pos := "ref.go:47", after := #[{ on := 16, ground := Ground.data }, { on := 2, ground := Ground.guard }], guard := some (2, false) } : Oper)) (v := undef) rfl (by kernel_rfl) (by kernel_rfl) (by kernel_rfl) (fun _ _ _ h => h) (Or.inr ⟨by rfl, rfl⟩) (by assumption) ?_
                  try simp only [Act.put, List.setIfInBounds_toArray, List.set_cons_zero, List.set_cons_succ]
                  refine wpAnyH_take (i := 18) (oi := ({ dst := some 51, op := Op.call { callee := Callee.value (Operand.func 29), args := #[Operand.tmp 36, Operand.tmp 38, Operand.tmp 46, Operand.tmp 50], argTypes := #[22, 3, 3, 3] }, type := 4, pos := "ref.go:47", after := #[{ on := 3, ground := Ground.data }, { on := 5, ground := Ground.data }, { on := 13, ground := Ground.data }, { on := 17, ground := Ground.data }, { on := 2, ground := Ground.chain }, { on := 2, ground := Ground.guard }], guard := some (2, false) } : Oper)) (v := undef) rfl (by kernel_rfl) (by kernel_rfl) (by kernel_rfl) (fun _ _ _ h => h) (Or.inr ⟨by rfl, rfl⟩) (by assumption) ?_
                  try simp only [Act.put, List.setIfInBounds_toArray, List.set_cons_zero, List.set_cons_succ]
                  refine wpAnyH_take (i := 19) (oi := ({ dst := some 52, op := Op.pick (Operand.tmp 35) (Operand.const (Value.bool true)) (Operand.tmp 51), type := 4, pos := "ref.go:47", after := #[{ on := 2, ground := Ground.data }, { on := 18, ground := Ground.data }], guard := none } : Oper)) (v := ?vgb20) rfl (by kernel_rfl) (by kernel_rfl) (by kernel_rfl) (fun _ _ _ h => h) (Or.inl ⟨by rfl, ?hygb20⟩) (by assumption) ?restgb20
                  case hygb20 => intro w hSw; (try dsimp only at hSw); go_simp; all_goals (with_reducible rfl)
                  try simp only [Act.put, List.setIfInBounds_toArray, List.set_cons_zero, List.set_cons_succ]
                  refine wpAnyH_done (by kernel_rfl) ?_ _
                  go_wp2_with fail
                  go_meet
                  exact ⟨rfl, below_drewN' (Below.refl _ _) 1⟩
                · obtain ⟨i', rfl⟩ : ∃ i', i = i' + 1 := ⟨i - 1, by omega⟩
                  obtain ⟨u1, hu1⟩ : ∃ u1, X.getD i' 0 = u1 := ⟨_, rfl⟩
                  have hBB : (linkP C i' u1).contains u = B := by
                    rw [← HGB.out, ← hu1]; rfl
                  obtain ⟨bx, ox, rfl, hcx⟩ := HXS.out.pos (i := i') (by rw [HPX.out, HXL0.out]; omega)
                  have hcx : w1.cell? ⟨bx, ox + i', none⟩ = some (.int .i64 u1) := by rw [← hu1]; exact hcx
                  have LK := fun W (hW : Below w1.heap.size w1 W) => refLinked_any C n i' u1 u _ W (HV.out.below (HW1.out.trans (hW.mono HW1.out.size)) (Nat.le_refl _)) (by have := HCL.out; omega) HL.out HLT.out (by omega)
                  rw [hBB] at LK
                  have HLK := Lib.hid LK
                  have HKS := Lib.hid (fun W (hW : Below wr.heap.size wr W) => And.intro (HKS1.out W (HBR.out.trans (hW.mono HBR.out.size))).2.1 (And.intro (cell_below hcx (HBR.out.trans (hW.mono HBR.out.size)) (Nat.le_refl _)) (HKS1.out W (HBR.out.trans (hW.mono HBR.out.size))).2.2))
                  have t4 : (((i' + 1 : Nat) : Int) == 0) = false := by simp; omega
                  have t4' : (i' + 1 == 0) = false := by simp
                  have t4'' : ((i' : Int) + 1 == 0) = false := by simp; omega
                  have k1 : (i' : Int) < px := by have := HXL0.out; omega
                  have hwr : IntKind.i64.wrap (i' : Int) = i' := by rw [IntKind.wrap_i64]; omega
                  have k2 : (0 : Int) ≤ i' := by omega
                  have k3 : (i' : Int) ≤ 5 := by omega
                  clear hi0 hu1 hBB hcx LK
                  refine wp_region_held_drew (S := fun W => W.cell? ⟨bo, oo + k, none⟩ = some (.slice (some ⟨bx, ox, none⟩) px cx) ∧ W.cell? ⟨bx, ox + i', none⟩ = some (.int .i64 u1) ∧ W.cell? ⟨bg, og + j, none⟩ = some (.int .i64 u)) (by kernel_rfl) ?_ (fun hHeld => ?_)
                  · (try dsimp only); exact HKS.out _ (below_drewN' (Below.refl wr.heap.size wr) 1)
                  refine wpAnyH_take (i := 0) (oi := ({ dst := some 33, op := Op.move (Operand.tmp 6), type := 3, pos := "ref.go:47", after := #[], guard := none } : Oper)) (v := ?vga1) rfl (by kernel_rfl) (by kernel_rfl) (by kernel_rfl) (fun _ _ _ h => h) (Or.inl ⟨by rfl, ?hyga1⟩) (by assumption) ?restga1
                  case hyga1 => intro w hSw; (try dsimp only at hSw); go_simp; all_goals (with_reducible rfl)
                  try simp only [Act.put, List.setIfInBounds_toArray, List.set_cons_zero, List.set_cons_succ]
                  refine wpAnyH_take (i := 1) (oi := ({ dst := some 34, op := Op.binOp BinOp.eql 3 (Operand.tmp 33) (Operand.const (Value.int IntKind.i64 0)) 3, type := 4, pos := "ref.go:47", after := #[{ on := 0, ground := Ground.data }], guard := none } : Oper)) (v := ?vga2) rfl (by kernel_rfl) (by kernel_rfl) (by kernel_rfl) (fun _ _ _ h => h) (Or.inl ⟨by rfl, ?hyga2⟩) (by assumption) ?restga2
                  case hyga2 => intro w hSw; (try dsimp only at hSw); go_simp; all_goals (with_reducible rfl)
                  try simp only [Act.put, List.setIfInBounds_toArray, List.set_cons_zero, List.set_cons_succ]
                  refine wpAnyH_take (i := 2) (oi := ({ dst := some 35, op := Op.move (Operand.tmp 34), type := 4, pos := "ref.go:47", after := #[{ on := 1, ground := Ground.data }], guard := none } : Oper)) (v := ?vga3) rfl (by kernel_rfl) (by kernel_rfl) (by kernel_rfl) (fun _ _ _ h => h) (Or.inl ⟨by rfl, ?hyga3⟩) (by assumption) ?restga3
                  case hyga3 => intro w hSw; (try dsimp only at hSw); go_simp; all_goals (with_reducible rfl)
                  try simp only [Act.put, List.setIfInBounds_toArray, List.set_cons_zero, List.set_cons_succ]
                  refine wpAnyH_take (i := 3) (oi := ({ dst := some 36, op := Op.move (Operand.tmp 0), type := 22, pos := "ref.go:47", after := #[{ on := 2, ground := Ground.guard }], guard := some (2, false) } : Oper)) (v := ?vga4) rfl (by kernel_rfl) (by kernel_rfl) (by kernel_rfl) (fun _ _ _ h => h) (Or.inl ⟨by rfl, ?hyga4⟩) (by assumption) ?restga4
                  case hyga4 => intro w hSw; (try dsimp only at hSw); go_simp; all_goals (with_reducible rfl)
                  try simp only [Act.put, List.setIfInBounds_toArray, List.set_cons_zero, List.set_cons_succ]
                  refine wpAnyH_take (i := 4) (oi := ({ dst := some 37, op := Op.move (Operand.tmp 6), type := 3, pos := "ref.go:47", after := #[{ on := 2, ground := Ground.guard }], guard := some (2, false) } : Oper)) (v := ?vga5) rfl (by kernel_rfl) (by kernel_rfl) (by kernel_rfl) (fun _ _ _ h => h) (Or.inl ⟨by rfl, ?hyga5⟩) (by assumption) ?restga5
                  case hyga5 => intro w hSw; (try dsimp only at hSw); go_simp; all_goals (with_reducible rfl)
                  try simp only [Act.put, List.setIfInBounds_toArray, List.set_cons_zero, List.set_cons_succ]
                  refine wpAnyH_take (i := 5) (oi := ({ dst := some 38, op := Op.binOp BinOp.sub 3 (Operand.tmp 37) (Operand.const (Value.int IntKind.i64 1)) 3, type := 3, pos := "ref.go:47", after := #[{ on := 4, ground := Ground.data }, { on := 2, ground := Ground.guard }], guard := some (2, false) } : Oper)) (v := ?vga6) rfl (by kernel_rfl) (by kernel_rfl) (by kernel_rfl) (fun _ _ _ h => h) (Or.inl ⟨by rfl, ?hyga6⟩) (by assumption) ?restga6
                  case hyga6 => intro w hSw; (try dsimp only at hSw); go_simp; all_goals (with_reducible rfl)
                  try simp only [Act.put, List.setIfInBounds_toArray, List.set_cons_zero, List.set_cons_succ]
                  refine wpAnyH_take (i := 6) (oi := ({ dst := some 39, op := Op.move (Operand.tmp 5), type := 22, pos := "ref.go:47", after := #[{ on := 2, ground := Ground.guard }], guard := some (2, false) } : Oper)) (v := ?vga7) rfl (by kernel_rfl) (by kernel_rfl) (by kernel_rfl) (fun _ _ _ h => h) (Or.inl ⟨by rfl, ?hyga7⟩) (by assumption) ?restga7
                  case hyga7 => intro w hSw; (try dsimp only at hSw); go_simp; all_goals (with_reducible rfl)
                  try simp only [Act.put, List.setIfInBounds_toArray, List.set_cons_zero, List.set_cons_succ]
                  refine wpAnyH_take (i := 7) (oi := ({ dst := some 40, op := Op.move (Operand.tmp 9), type := 3, pos := "ref.go:47", after := #[{ on := 2, ground := Ground.guard }], guard := some (2, false) } : Oper)) (v := ?vga8) rfl (by kernel_rfl) (by kernel_rfl) (by kernel_rfl) (fun _ _ _ h => h) (Or.inl ⟨by rfl, ?hyga8⟩) (by assumption) ?restga8
                  case hyga8 => intro w hSw; (try dsimp only at hSw); go_simp; all_goals (with_reducible rfl)
                  try simp only [Act.put, List.setIfInBounds_toArray, List.set_cons_zero, List.set_cons_succ]
                  refine wpAnyH_take (i := 8) (oi := ({ dst := some 41, op := Op.indexAddr 22 (Operand.tmp 39) (Operand.tmp 40), type := 0, pos := "ref.go:47", after := #[{ on := 6, ground := Ground.data }, { on := 7, ground := Ground.data }, { on := 2, ground := Ground.guard }], guard := some (2, false) } : Oper)) (v := ?vga9) rfl (by kernel_rfl) (by kernel_rfl) (by kernel_rfl) (fun _ _ _ h => h) (Or.inl ⟨by rfl, ?hyga9⟩) (by assumption) ?restga9
                  case hyga9 => intro w hSw; (try dsimp only at hSw); go_simp; all_goals (with_reducible rfl)
                  try simp only [Act.put, List.setIfInBounds_toArray, List.set_cons_zero, List.set_cons_succ]
                  refine wpAnyH_take (i := 9) (oi := ({ dst := some 42, op := Op.load 23 (Operand.tmp 41), type := 23, pos := "ref.go:47", after := #[{ on := 8, ground := Ground.data }, { on := 2, ground := Ground.guard }], guard := some (2, false) } : Oper)) (v := ?vga10) rfl (by kernel_rfl) (by kernel_rfl) (by kernel_rfl) (fun _ _ _ h => h) (Or.inl ⟨by rfl, ?hyga10⟩) (by assumption) ?restga10
                  case hyga10 => intro w hSw; (try dsimp only at hSw); go_simp; all_goals (with_reducible rfl)
                  try simp only [Act.put, List.setIfInBounds_toArray, List.set_cons_zero, List.set_cons_succ]
                  refine wpAnyH_take (i := 10) (oi := ({ dst := some 43, op := Op.move (Operand.tmp 6), type := 3, pos := "ref.go:47", after := #[{ on := 2, ground := Ground.guard }], guard := some (2, false) } : Oper)) (v := ?vga11) rfl (by kernel_rfl) (by kernel_rfl) (by kernel_rfl) (fun _ _ _ h => h) (Or.inl ⟨by rfl, ?hyga11⟩) (by assumption) ?restga11
                  case hyga11 => intro w hSw; (try dsimp only at hSw); go_simp; all_goals (with_reducible rfl)
                  try simp only [Act.put, List.setIfInBounds_toArray, List.set_cons_zero, List.set_cons_succ]
                  refine wpAnyH_take (i := 11) (oi := ({ dst := some 44, op := Op.binOp BinOp.sub 3 (Operand.tmp 43) (Operand.const (Value.int IntKind.i64 1)) 3, type := 3, pos := "ref.go:47", after := #[{ on := 10, ground := Ground.data }, { on := 2, ground := Ground.guard }], guard := some (2, false) } : Oper)) (v := ?vga12) rfl (by kernel_rfl) (by kernel_rfl) (by kernel_rfl) (fun _ _ _ h => h) (Or.inl ⟨by rfl, ?hyga12⟩) (by assumption) ?restga12
                  case hyga12 => intro w hSw; (try dsimp only at hSw); go_simp; all_goals (with_reducible rfl)
                  try simp only [Act.put, List.setIfInBounds_toArray, List.set_cons_zero, List.set_cons_succ]
                  refine wpAnyH_take (i := 12) (oi := ({ dst := some 45, op := Op.indexAddr 23 (Operand.tmp 42) (Operand.tmp 44), type := 0, pos := "ref.go:47", after := #[{ on := 9, ground := Ground.data }, { on := 11, ground := Ground.data }, { on := 2, ground := Ground.guard }], guard := some (2, false) } : Oper)) (v := ?vga13) rfl (by kernel_rfl) (by kernel_rfl) (by kernel_rfl) (fun _ _ _ h => h) (Or.inl ⟨by rfl, ?hyga13⟩) (by assumption) ?restga13
                  case hyga13 => intro w hSw; (try dsimp only at hSw); go_simp; all_goals (with_reducible rfl)
                  try simp only [Act.put, List.setIfInBounds_toArray, List.set_cons_zero, List.set_cons_succ]
                  refine wpAnyH_take (i := 13) (oi := ({ dst := some 46, op := Op.load 3 (Operand.tmp 45), type := 3, pos := "ref.go:47", after := #[{ on := 12, ground := Ground.data }, { on := 2, ground := Ground.guard }], guard := some (2, false) } : Oper)) (v := ?vga14) rfl (by kernel_rfl) (by kernel_rfl) (by kernel_rfl) (fun _ _ _ h => h) (Or.inl ⟨by rfl, ?hyga14⟩) (by assumption) ?restga14
                  case hyga14 => intro w hSw; (try dsimp only at hSw); go_simp; all_goals (with_reducible rfl)
                  try simp only [Act.put, List.setIfInBounds_toArray, List.set_cons_zero, List.set_cons_succ]
                  refine wpAnyH_take (i := 14) (oi := ({ dst := some 47, op := Op.move (Operand.tmp 7), type := 23, pos := "ref.go:47", after := #[{ on := 2, ground := Ground.guard }], guard := some (2, false) } : Oper)) (v := ?vga15) rfl (by kernel_rfl) (by kernel_rfl) (by kernel_rfl) (fun _ _ _ h => h) (Or.inl ⟨by rfl, ?hyga15⟩) (by assumption) ?restga15
                  case hyga15 => intro w hSw; (try dsimp only at hSw); go_simp; all_goals (with_reducible rfl)
                  try simp only [Act.put, List.setIfInBounds_toArray, List.set_cons_zero, List.set_cons_succ]
                  refine wpAnyH_take (i := 15) (oi := ({ dst := some 48, op := Op.move (Operand.tmp 10), type := 3, pos := "ref.go:47", after := #[{ on := 2, ground := Ground.guard }], guard := some (2, false) } : Oper)) (v := ?vga16) rfl (by kernel_rfl) (by kernel_rfl) (by kernel_rfl) (fun _ _ _ h => h) (Or.inl ⟨by rfl, ?hyga16⟩) (by assumption) ?restga16
                  case hyga16 => intro w hSw; (try dsimp only at hSw); go_simp; all_goals (with_reducible rfl)
                  try simp only [Act.put, List.setIfInBounds_toArray, List.set_cons_zero, List.set_cons_succ]
                  refine wpAnyH_take (i := 16) (oi := ({ dst := some 49, op := Op.indexAddr 23 (Operand.tmp 47) (Operand.tmp 48), type := 0, pos := "ref.go:47", after := #[{ on := 14, ground := Ground.data }, { on := 15, ground := Ground.data }, { on := 2, ground := Ground.guard }], guard := some (2, false) } : Oper)) (v := ?vga17) rfl (by kernel_rfl) (by kernel_rfl) (by kernel_rfl) (fun _ _ _ h => h) (Or.inl ⟨by rfl, ?hyga17⟩) (by assumption) ?restga17
                  case hyga17 => intro w hSw; (try dsimp only at hSw); go_simp; all_goals (with_reducible rfl)
                  try simp only [Act.put, List.setIfInBounds_toArray, List.set_cons_zero, List.set_cons_succ]
                  refine wpAnyH_take (i := 17) (oi := ({ dst := some 50, op := Op.load 3 (Operand.tmp 49), type := 3, pos := "ref.go:47", after := #[{ on := 16, ground := Ground.data }, { on := 2, ground := Ground.guard }], guard := some (2, false) } : Oper)) (v := ?vga18) rfl (by kernel_rfl) (by kernel_rfl) (by kernel_rfl) (fun _ _ _ h => h) (Or.inl ⟨by rfl, ?hyga18⟩) (by assumption) ?restga18
                  case hyga18 => intro w hSw; (try dsimp only at hSw); go_simp; all_goals (with_reducible rfl)
                  try simp only [Act.put, List.setIfInBounds_toArray, List.set_cons_zero, List.set_cons_succ]
                  refine wpAnyH_ready (rs := [18]) (by kernel_rfl) (by simp) ?_
                  refine (AllReadyH.cons (o := ({ dst := some 51, op := Op.call { callee := Callee.value (Operand.func 29), args := #[Operand.tmp 36, Operand.tmp 38, Operand.tmp 46, Operand.tmp 50], argTypes := #[22, 3, 3, 3] }, type := 4, pos := "ref.go:47", after := #[{ on := 3, ground := Ground.data }, { on := 5, ground := Ground.data }, { on := 13, ground := Ground.data }, { on := 17, ground := Ground.data }, { on := 2, ground := Ground.chain }, { on := 2, ground := Ground.guard }], guard := some (2, false) } : Oper)) rfl (fun K hK => ?_) AllReadyH.nil)
                  go_simp
                  refine (HLK.out _ (HBR.out.trans ((below_drewN' (Below.refl wr.heap.size wr) 1).mono HBR.out.size))).mono ?_; rintro e' wL ⟨rfl, rfl⟩
                  refine hK.out _ _ ?_ (fun hHeld => ?_)
                  · (try dsimp only); exact HKS.out _ (below_drewN' (Below.refl wr.heap.size wr) 1)
                  clear hK K
                  try simp only [Act.put, List.setIfInBounds_toArray, List.set_cons_zero, List.set_cons_succ]
                  refine wpAnyH_take (i := 19) (oi := ({ dst := some 52, op := Op.pick (Operand.tmp 35) (Operand.const (Value.bool true)) (Operand.tmp 51), type := 4, pos := "ref.go:47", after := #[{ on := 2, ground := Ground.data }, { on := 18, ground := Ground.data }], guard := none } : Oper)) (v := ?vga19) rfl (by kernel_rfl) (by kernel_rfl) (by kernel_rfl) (fun _ _ _ h => h) (Or.inl ⟨by rfl, ?hyga19⟩) (by assumption) ?restga19
                  case hyga19 => intro w hSw; (try dsimp only at hSw); go_simp; all_goals (with_reducible rfl)
                  try simp only [Act.put, List.setIfInBounds_toArray, List.set_cons_zero, List.set_cons_succ]
                  refine wpAnyH_done (by kernel_rfl) ?_ _
                  go_wp2_with fail
                  go_meet
                  exact ⟨rfl, below_drewN' (Below.refl _ _) 1⟩
              case rest =>
                obtain ⟨rfl, hbc⟩ := hcut
                have hbq := HBR.out.trans (hbc.mono HBR.out.size)
                cases B with
                | false =>
                  have HBQ := Lib.hid hbq
                  have HRO := Lib.hid (HROW.out.below hbc (Nat.le_refl _))
                  have HPS : Hid (P = nextP C i R D k ++ extP C i (D.getD k []) (R.take (j + 1))) := Lib.hid (by rw [HEX.out, HEXT.out, HP.out]; simp)
                  clear hbq hbc
                  go_wp2_with fail
                  go_roundg (s - (j + 1))
                  case rel => exact ⟨j + 1, P, HJT.out, rfl, by go_num, by have := HRO.out; rw [HZ.out] at this; exact this, HPS.out, by rw [HZ.out]; omega, HBQ.out⟩
                  case measure => have := HJT.out; omega
                | true =>
                  obtain ⟨us, hus, hrs⟩ := HROW.out.below hbc (Nat.le_refl _)
                  rw [HZ.out] at hus
                  have HUS := Lib.hid hus; have HRS := Lib.hid hrs; have HBQ := Lib.hid hbq
                  have HPS : Hid (nextP C i R D k ++ extP C i (D.getD k []) (R.take (j + 1)) = P ++ [X ++ [u]]) := Lib.hid (by rw [HEX.out, HEXT.out, HP.out]; simp)
                  have HPB := Lib.hid z1
                  have HXL : Hid (X.length ≤ 10) := Lib.hid (by rw [HPX.out]; omega)
                  have HKS := Lib.hid (fun (W : World) (hb : Below wc.heap.size wc W) => HKS1.out W (hbq.trans (hb.mono hbq.size)))
                  have HXC := Lib.hid (fun (W : World) (hb : Below wc.heap.size wc W) => (show SeqV W (.slice Ax px cx) X from HXS.out.below (hbq.trans (hb.mono hbq.size)) (Nat.le_refl _)))
                  clear hus hrs hbq hbc
                  go_upto_region 14 with fail
                  have hls : (wc.drew.alloc (.cells #[.int .i64 u] 3)).heap.size = wc.heap.size + 1 := by first | (rw [World.size_alloc]; rfl) | rw [World.size_alloc]
                  have hlz : (wc.drew.alloc (.cells #[] 3)).heap.size = wc.heap.size + 1 := by first | (rw [World.size_alloc]; rfl) | rw [World.size_alloc]
                  have o3 := own_empty (wc.drew.alloc (.cells #[.int .i64 u] 3)) wc.heap.size (by rw [hls]; exact Nat.le_succ_of_le ((below_drewN' (Below.refl _ _) 1 : Below wc.heap.size wc wc.drew)).size)
                  rw [hls] at o3
                  have OWN3 := Lib.hid o3
                  have lA := cell_new1 (wc.drew.alloc (.cells #[] 3)) u
                  rw [hlz] at lA
                  have LITA := Lib.hid lA
                  have LITB := Lib.hid (show ((wc.drew.alloc (.cells #[.int .i64 u] 3)).alloc (.cells #[] 3)).cell? ⟨wc.heap.size, 0, none⟩ = some (.int .i64 u) from ((Whole.new wc.drew 3 #[.int .i64 u]).alloc (.cells #[] 3)).cell 0)
                  have NEA := Lib.hid (show some (wc.heap.size + 1) ≠ (Value.slice (some ⟨wc.heap.size, 0, none⟩) 0 0).ownBlock from fun e => absurd (Option.some.inj e) (show ¬ (wc.heap.size + 1 = wc.heap.size) by omega))
                  have NEB := Lib.hid (show some wc.heap.size ≠ (Value.slice (some ⟨wc.heap.size + 1, 0, none⟩) 0 0).ownBlock from fun e => absurd (Option.some.inj e) (show ¬ (wc.heap.size = wc.heap.size + 1) by omega))
                  clear hls hlz o3 lA
                  refine wp_region_held_drew (S := fun w' => Below w1.heap.size w1 w' ∧ w'.cell? ⟨bo, oo + k, none⟩ = some (.slice Ax px cx) ∧ w'.cell? ⟨bg, og + j, none⟩ = some (.int .i64 u)) (by kernel_rfl) ?_ (fun hHeld => ?_)
                  · (try dsimp only); exact HKS.out _ (by first | assumption | exact below_drewN' (Below.refl _ _) _)
                  refine wpAnyH_take (i := 0) (oi := ({ dst := some 53, op := Op.move (Operand.tmp 8), type := 22, pos := "ref.go:48", after := #[], guard := none } : Oper)) (v := ?vtc1) rfl (by kernel_rfl) (by kernel_rfl) (by kernel_rfl) (fun _ _ _ h => h) (Or.inl ⟨by rfl, ?hytc1⟩) (by assumption) ?resttc1
                  case hytc1 => intro w hSw; (try dsimp only at hSw); go_simp; all_goals (with_reducible rfl)
                  try simp only [Act.put, List.setIfInBounds_toArray, List.set_cons_zero, List.set_cons_succ]
                  refine wpAnyH_take (i := 2) (oi := ({ dst := some 55, op := Op.move (Operand.tmp 5), type := 22, pos := "ref.go:48", after := #[], guard := none } : Oper)) (v := ?vtc2) rfl (by kernel_rfl) (by kernel_rfl) (by kernel_rfl) (fun _ _ _ h => h) (Or.inl ⟨by rfl, ?hytc2⟩) (by assumption) ?resttc2
                  case hytc2 => intro w hSw; (try dsimp only at hSw); go_simp; all_goals (with_reducible rfl)
                  try simp only [Act.put, List.setIfInBounds_toArray, List.set_cons_zero, List.set_cons_succ]
                  refine wpAnyH_take (i := 3) (oi := ({ dst := some 56, op := Op.move (Operand.tmp 9), type := 3, pos := "ref.go:48", after := #[], guard := none } : Oper)) (v := ?vtc3) rfl (by kernel_rfl) (by kernel_rfl) (by kernel_rfl) (fun _ _ _ h => h) (Or.inl ⟨by rfl, ?hytc3⟩) (by assumption) ?resttc3
                  case hytc3 => intro w hSw; (try dsimp only at hSw); go_simp; all_goals (with_reducible rfl)
                  try simp only [Act.put, List.setIfInBounds_toArray, List.set_cons_zero, List.set_cons_succ]
                  refine wpAnyH_take (i := 4) (oi := ({ dst := some 57, op := Op.indexAddr 22 (Operand.tmp 55) (Operand.tmp 56), type := 0, pos := "ref.go:48", after := #[{ on := 2, ground := Ground.data }, { on := 3, ground := Ground.data }], guard := none } : Oper)) (v := ?vtc4) rfl (by kernel_rfl) (by kernel_rfl) (by kernel_rfl) (fun _ _ _ h => h) (Or.inl ⟨by rfl, ?hytc4⟩) (by assumption) ?resttc4
                  case hytc4 => intro w hSw; (try dsimp only at hSw); go_simp; all_goals (with_reducible rfl)
                  try simp only [Act.put, List.setIfInBounds_toArray, List.set_cons_zero, List.set_cons_succ]
                  refine wpAnyH_take (i := 5) (oi := ({ dst := some 58, op := Op.load 23 (Operand.tmp 57), type := 23, pos := "ref.go:48", after := #[{ on := 4, ground := Ground.data }], guard := none } : Oper)) (v := ?vtc5) rfl (by kernel_rfl) (by kernel_rfl) (by kernel_rfl) (fun _ _ _ h => h) (Or.inl ⟨by rfl, ?hytc5⟩) (by assumption) ?resttc5
                  case hytc5 => intro w hSw; (try dsimp only at hSw); go_simp; all_goals (with_reducible rfl)
                  try simp only [Act.put, List.setIfInBounds_toArray, List.set_cons_zero, List.set_cons_succ]
                  refine wpAnyH_take (i := 7) (oi := ({ dst := some 60, op := Op.move (Operand.tmp 7), type := 23, pos := "ref.go:48", after := #[], guard := none } : Oper)) (v := ?vtc6) rfl (by kernel_rfl) (by kernel_rfl) (by kernel_rfl) (fun _ _ _ h => h) (Or.inl ⟨by rfl, ?hytc6⟩) (by assumption) ?resttc6
                  case hytc6 => intro w hSw; (try dsimp only at hSw); go_simp; all_goals (with_reducible rfl)
                  try simp only [Act.put, List.setIfInBounds_toArray, List.set_cons_zero, List.set_cons_succ]
                  refine wpAnyH_take (i := 8) (oi := ({ dst := some 61, op := Op.move (Operand.tmp 10), type := 3, pos := "ref.go:48", after := #[], guard := none } : Oper)) (v := ?vtc7) rfl (by kernel_rfl) (by kernel_rfl) (by kernel_rfl) (fun _ _ _ h => h) (Or.inl ⟨by rfl, ?hytc7⟩) (by assumption) ?resttc7
                  case hytc7 => intro w hSw; (try dsimp only at hSw); go_simp; all_goals (with_reducible rfl)
                  try simp only [Act.put, List.setIfInBounds_toArray, List.set_cons_zero, List.set_cons_succ]
                  refine wpAnyH_take (i := 9) (oi := ({ dst := some 62, op := Op.indexAddr 23 (Operand.tmp 60) (Operand.tmp 61), type := 0, pos := "ref.go:48", after := #[{ on := 7, ground := Ground.data }, { on := 8, ground := Ground.data }], guard := none } : Oper)) (v := ?vtc8) rfl (by kernel_rfl) (by kernel_rfl) (by kernel_rfl) (fun _ _ _ h => h) (Or.inl ⟨by rfl, ?hytc8⟩) (by assumption) ?resttc8
                  case hytc8 => intro w hSw; (try dsimp only at hSw); go_simp; all_goals (with_reducible rfl)
                  try simp only [Act.put, List.setIfInBounds_toArray, List.set_cons_zero, List.set_cons_succ]
                  refine wpAnyH_take (i := 10) (oi := ({ dst := some 63, op := Op.load 3 (Operand.tmp 62), type := 3, pos := "ref.go:48", after := #[{ on := 9, ground := Ground.data }], guard := none } : Oper)) (v := ?vtc9) rfl (by kernel_rfl) (by kernel_rfl) (by kernel_rfl) (fun _ _ _ h => h) (Or.inl ⟨by rfl, ?hytc9⟩) (by assumption) ?resttc9
                  case hytc9 => intro w hSw; (try dsimp only at hSw); go_simp; all_goals (with_reducible rfl)
                  try simp only [Act.put, List.setIfInBounds_toArray, List.set_cons_zero, List.set_cons_succ]
                  refine wpAnyH_ready (rs := [1, 11]) (by kernel_rfl) (by simp) ?_
                  refine (AllReadyH.cons (o := ({ dst := some 54, op := Op.buildSlice 23 0 #[], type := 23, pos := "ref.go:48", after := #[], guard := none } : Oper)) rfl (fun K hK => ?_) (AllReadyH.cons (o := ({ dst := some 64, op := Op.buildSlice 23 1 #[(0, Operand.tmp 63)], type := 23, pos := "ref.go:48", after := #[{ on := 10, ground := Ground.data }], guard := none } : Oper)) rfl (fun K hK => ?_) AllReadyH.nil))
                  · go_simp
                    refine hK.out _ _ ?_ (fun hHeld => ?_)
                    · (try dsimp only); exact HKS.out _ (((below_drewN' (Below.refl _ _) 1 : Below wc.heap.size wc wc.drew)).alloc ((below_drewN' (Below.refl _ _) 1 : Below wc.heap.size wc wc.drew)).size (.cells #[] 3))
                    clear hK K
                    try simp only [Act.put, List.setIfInBounds_toArray, List.set_cons_zero, List.set_cons_succ]
                    refine wpAnyH_ready (rs := [6, 11]) (by kernel_rfl) (by simp) ?_
                    refine (AllReadyH.cons (o := ({ dst := some 59, op := Op.call { callee := Callee.builtin Builtin.append, args := #[Operand.tmp 54, Operand.tmp 58], argTypes := #[23, 23] }, type := 23, pos := "ref.go:48", after := #[{ on := 1, ground := Ground.data }, { on := 5, ground := Ground.data }], guard := none } : Oper)) rfl (fun K hK => ?_) (AllReadyH.cons (o := ({ dst := some 64, op := Op.buildSlice 23 1 #[(0, Operand.tmp 63)], type := 23, pos := "ref.go:48", after := #[{ on := 10, ground := Ground.data }], guard := none } : Oper)) rfl (fun K hK => ?_) AllReadyH.nil))
                    · have hH := (((below_drewN' (Below.refl _ _) 1 : Below wc.heap.size wc wc.drew)).alloc ((below_drewN' (Below.refl _ _) 1 : Below wc.heap.size wc wc.drew)).size (.cells #[] 3))
                      refine step_appInts (by rfl) _ _ 23 rfl wc.heap.size j1 Tryz.underlying23 hi1 ky0 ky1 ky2 _ 0 _ rfl (own_empty wc.drew wc.heap.size ((below_drewN' (Below.refl _ _) 1 : Below wc.heap.size wc wc.drew)).size) _ X rfl (HXC.out _ hH) (by have := HXL.out; omega) hH.size ?_
                      intro g2 c2 w2 hown2 hgrow2
                      simp only [Nat.zero_add, List.nil_append] at hown2
                      try simp only [Nat.zero_add]
                      have hB2 : Below wc.heap.size wc w2 := hH.grown hgrow2 hH.size (fun k hk => ((own_empty wc.drew wc.heap.size ((below_drewN' (Below.refl _ _) 1 : Below wc.heap.size wc wc.drew)).size).lt k hk).1)
                      refine hK.out _ _ ?_ (fun hHeld => ?_)
                      · (try dsimp only); exact HKS.out _ hB2
                      clear hK K
                      try simp only [Act.put, List.setIfInBounds_toArray, List.set_cons_zero, List.set_cons_succ]
                      refine wpAnyH_ready (rs := [11]) (by kernel_rfl) (by simp) ?_
                      refine (AllReadyH.cons (o := ({ dst := some 64, op := Op.buildSlice 23 1 #[(0, Operand.tmp 63)], type := 23, pos := "ref.go:48", after := #[{ on := 10, ground := Ground.data }], guard := none } : Oper)) rfl (fun K hK => ?_) AllReadyH.nil)
                      go_simp
                      refine hK.out _ _ ?_ (fun hHeld => ?_)
                      · (try dsimp only); exact HKS.out _ (hB2.alloc hB2.size (.cells #[.int .i64 u] 3))
                      clear hK K
                      try simp only [Act.put, List.setIfInBounds_toArray, List.set_cons_zero, List.set_cons_succ]
                      refine wpAnyH_ready (rs := [12]) (by kernel_rfl) (by simp) ?_
                      refine (AllReadyH.cons (o := ({ dst := some 65, op := Op.call { callee := Callee.builtin Builtin.append, args := #[Operand.tmp 59, Operand.tmp 64], argTypes := #[23, 23] }, type := 23, pos := "ref.go:48", after := #[{ on := 6, ground := Ground.data }, { on := 11, ground := Ground.data }, { on := 6, ground := Ground.chain }], guard := none } : Oper)) rfl (fun K hK => ?_) AllReadyH.nil)
                      have hH3 := (hB2.alloc hB2.size (.cells #[.int .i64 u] 3))
                      refine step_appInts (by rfl) _ _ 23 rfl wc.heap.size j1 Tryz.underlying23 hi1 ky0 ky1 ky2 _ X.length _ rfl (hown2.alloc (.cells #[.int .i64 u] 3)) _ [u] rfl (seq_cell1 (cell_new1 w2 u)) (by have := HXL.out; simp; omega) hH3.size ?_
                      intro g4 c4 w6 hown4 hgrow4
                      have hB6 : Below wc.heap.size wc w6 := hH3.grown hgrow4 hH3.size (fun k hk => ((hown2.alloc (.cells #[.int .i64 u] 3)).lt k hk).1)
                      have ho6 : w6.ownsRow wc.heap.size 3 1 (.slice g4 (X.length + 1) c4) (X ++ [u]).length (intCells (X ++ [u])) := by rw [intCells_app, List.length_append]; exact hown4
                      have hs6 : SeqC w6 (.slice g4 (X.length + 1) c4) (X ++ [u]) := own_seqC ho6
                      refine hK.out _ _ ?_ (fun hHeld => ?_)
                      · (try dsimp only); exact HKS.out _ hB6
                      clear hK K
                      try simp only [Act.put, List.setIfInBounds_toArray, List.set_cons_zero, List.set_cons_succ]
                      refine wpAnyH_ready (rs := [13]) (by kernel_rfl) (by simp) ?_
                      refine (AllReadyH.cons (o := ({ dst := some 66, op := Op.buildSlice 22 1 #[(0, Operand.tmp 65)], type := 22, pos := "ref.go:48", after := #[{ on := 12, ground := Ground.data }], guard := none } : Oper)) rfl (fun K hK => ?_) AllReadyH.nil)
                      go_simp
                      refine hK.out _ _ ?_ (fun hHeld => ?_)
                      · (try dsimp only); exact HKS.out _ (hB6.alloc hB6.size _)
                      clear hK K
                      try simp only [Act.put, List.setIfInBounds_toArray, List.set_cons_zero, List.set_cons_succ]
                      refine wpAnyH_ready (rs := [14]) (by kernel_rfl) (by simp) ?_
                      refine (AllReadyH.cons (o := ({ dst := some 67, op := Op.call { callee := Callee.builtin Builtin.append, args := #[Operand.tmp 53, Operand.tmp 66], argTypes := #[22, 22] }, type := 22, pos := "ref.go:48", after := #[{ on := 0, ground := Ground.data }, { on := 13, ground := Ground.data }, { on := 12, ground := Ground.chain }], guard := none } : Oper)) rfl (fun K hK => ?_) AllReadyH.nil)
                      have hBA6 := HBQ.out.trans (hB6.mono HBQ.out.size)
                      have hBA7 := hBA6.alloc hBA6.size (.cells #[.slice g4 (X.length + 1) c4] 23)
                      refine step_app1 (by rfl) _ _ 22 rfl w1.heap.size 23 j2 (.slice none 0 0) 24 Tryz.underlying22 hi2 kz0 kz1 kz2 rfl _ z _ rfl ((own_below HUS.out hB6 (Nat.le_refl _)).alloc (.cells #[.slice g4 (X.length + 1) c4] 23)) (.slice g4 (X.length + 1) c4) rfl w6.heap.size rfl ((Whole.new w6 23 #[.slice g4 (X.length + 1) c4]).cell 0) (by omega) (by omega) hBA7.size ?_
                      intro g8 c8 w8 hown8 hgrow8
                      have hB8 : Below w1.heap.size w1 w8 := hgrow8.below ((own_below HUS.out hB6 (Nat.le_refl _)).alloc (.cells #[.slice g4 (X.length + 1) c4] 23)) hBA7 (Nat.le_refl _) hBA7.size
                      have hR8 : RowsOwn w8 w1.heap.size (.slice g8 (z + 1) c8) (P ++ [X ++ [u]]) := RowsOwn.more (by rw [HZ.out]; exact ((own_below HUS.out hB6 (Nat.le_refl _)).alloc (.cells #[.slice g4 (X.length + 1) c4] 23))) (fun x y M hx hM => (own_below (HRS.out x y M hx hM) hB6 (Nat.le_refl _)).alloc _) (own_base (ho6.alloc (.cells #[.slice g4 (X.length + 1) c4] 23)) HBQ.out.size) (by rw [HZ.out]; exact hown8) hgrow8
                      have hK8 := HKS1.out w8 hB8
                      refine hK.out _ _ ?_ (fun hHeld => ?_)
                      · (try dsimp only); exact hK8
                      clear hK K
                      try simp only [Act.put, List.setIfInBounds_toArray, List.set_cons_zero, List.set_cons_succ]
                      refine wpAnyH_take (i := 15) (oi := ({ dst := some 8, op := Op.assign (Operand.tmp 67), type := 22, pos := "ref.go:48", after := #[{ on := 14, ground := Ground.data }, { on := 14, ground := Ground.chain }, { on := 0, ground := Ground.phase }, { on := 1, ground := Ground.phase }, { on := 2, ground := Ground.phase }, { on := 3, ground := Ground.phase }, { on := 4, ground := Ground.phase }, { on := 5, ground := Ground.phase }, { on := 6, ground := Ground.phase }, { on := 7, ground := Ground.phase }, { on := 8, ground := Ground.phase }, { on := 9, ground := Ground.phase }, { on := 10, ground := Ground.phase }, { on := 11, ground := Ground.phase }, { on := 12, ground := Ground.phase }, { on := 13, ground := Ground.phase }, { on := 14, ground := Ground.phase }], guard := none } : Oper)) (v := ?vtc10) rfl (by kernel_rfl) (by kernel_rfl) (by kernel_rfl) (fun _ _ _ h => h) (Or.inl ⟨by rfl, ?hytc10⟩) (by assumption) ?resttc10
                      case hytc10 => intro w hSw; (try dsimp only at hSw); go_simp; all_goals (with_reducible rfl)
                      try simp only [Act.put, List.setIfInBounds_toArray, List.set_cons_zero, List.set_cons_succ]
                      refine wpAnyH_done (by kernel_rfl) ?_ _
                      go_wp2_with fail
                      go_roundg (s - (j + 1))
                      case rel => exact ⟨j + 1, _, HJT.out, rfl, by go_num, hR8, by rw [HPS.out], by rw [List.length_append, HZ.out]; have := HPB.out; simp; omega, hB8⟩
                      case measure => have := HJT.out; omega
                    · go_simp
                      refine hK.out _ _ ?_ (fun hHeld => ?_)
                      · (try dsimp only); exact HKS.out _ ((((below_drewN' (Below.refl _ _) 1 : Below wc.heap.size wc wc.drew)).alloc ((below_drewN' (Below.refl _ _) 1 : Below wc.heap.size wc wc.drew)).size (.cells #[] 3)).alloc (((below_drewN' (Below.refl _ _) 1 : Below wc.heap.size wc wc.drew)).alloc ((below_drewN' (Below.refl _ _) 1 : Below wc.heap.size wc wc.drew)).size (.cells #[] 3)).size (.cells #[.int .i64 u] 3))
                      clear hK K
                      try simp only [Act.put, List.setIfInBounds_toArray, List.set_cons_zero, List.set_cons_succ]
                      refine wpAnyH_ready (rs := [6]) (by kernel_rfl) (by simp) ?_
                      refine (AllReadyH.cons (o := ({ dst := some 59, op := Op.call { callee := Callee.builtin Builtin.append, args := #[Operand.tmp 54, Operand.tmp 58], argTypes := #[23, 23] }, type := 23, pos := "ref.go:48", after := #[{ on := 1, ground := Ground.data }, { on := 5, ground := Ground.data }], guard := none } : Oper)) rfl (fun K hK => ?_) AllReadyH.nil)
                      have hH := ((((below_drewN' (Below.refl _ _) 1 : Below wc.heap.size wc wc.drew)).alloc ((below_drewN' (Below.refl _ _) 1 : Below wc.heap.size wc wc.drew)).size (.cells #[] 3)).alloc (((below_drewN' (Below.refl _ _) 1 : Below wc.heap.size wc wc.drew)).alloc ((below_drewN' (Below.refl _ _) 1 : Below wc.heap.size wc wc.drew)).size (.cells #[] 3)).size (.cells #[.int .i64 u] 3))
                      refine step_appInts (by rfl) _ _ 23 rfl wc.heap.size j1 Tryz.underlying23 hi1 ky0 ky1 ky2 _ 0 _ rfl ((own_empty wc.drew wc.heap.size ((below_drewN' (Below.refl _ _) 1 : Below wc.heap.size wc wc.drew)).size).alloc (.cells #[.int .i64 u] 3)) _ X rfl (HXC.out _ hH) (by have := HXL.out; omega) hH.size ?_
                      intro g2 c2 w2 hown2 hgrow2
                      simp only [Nat.zero_add, List.nil_append] at hown2
                      try simp only [Nat.zero_add]
                      have hB2 : Below wc.heap.size wc w2 := hH.grown hgrow2 hH.size (fun k hk => (((own_empty wc.drew wc.heap.size ((below_drewN' (Below.refl _ _) 1 : Below wc.heap.size wc wc.drew)).size).alloc (.cells #[.int .i64 u] 3)).lt k hk).1)
                      have hlit2 := hgrow2.cell LITA.out NEA.out
                      refine hK.out _ _ ?_ (fun hHeld => ?_)
                      · (try dsimp only); exact HKS.out _ hB2
                      clear hK K
                      try simp only [Act.put, List.setIfInBounds_toArray, List.set_cons_zero, List.set_cons_succ]
                      refine wpAnyH_ready (rs := [12]) (by kernel_rfl) (by simp) ?_
                      refine (AllReadyH.cons (o := ({ dst := some 65, op := Op.call { callee := Callee.builtin Builtin.append, args := #[Operand.tmp 59, Operand.tmp 64], argTypes := #[23, 23] }, type := 23, pos := "ref.go:48", after := #[{ on := 6, ground := Ground.data }, { on := 11, ground := Ground.data }, { on := 6, ground := Ground.chain }], guard := none } : Oper)) rfl (fun K hK => ?_) AllReadyH.nil)
                      have hH3 := hB2
                      refine step_appInts (by rfl) _ _ 23 rfl wc.heap.size j1 Tryz.underlying23 hi1 ky0 ky1 ky2 _ X.length _ rfl hown2 _ [u] rfl (seq_cell1 hlit2) (by have := HXL.out; simp; omega) hH3.size ?_
                      intro g4 c4 w6 hown4 hgrow4
                      have hB6 : Below wc.heap.size wc w6 := hH3.grown hgrow4 hH3.size (fun k hk => (hown2.lt k hk).1)
                      have ho6 : w6.ownsRow wc.heap.size 3 1 (.slice g4 (X.length + 1) c4) (X ++ [u]).length (intCells (X ++ [u])) := by rw [intCells_app, List.length_append]; exact hown4
                      have hs6 : SeqC w6 (.slice g4 (X.length + 1) c4) (X ++ [u]) := own_seqC ho6
                      refine hK.out _ _ ?_ (fun hHeld => ?_)
                      · (try dsimp only); exact HKS.out _ hB6
                      clear hK K
                      try simp only [Act.put, List.setIfInBounds_toArray, List.set_cons_zero, List.set_cons_succ]
                      refine wpAnyH_ready (rs := [13]) (by kernel_rfl) (by simp) ?_
                      refine (AllReadyH.cons (o := ({ dst := some 66, op := Op.buildSlice 22 1 #[(0, Operand.tmp 65)], type := 22, pos := "ref.go:48", after := #[{ on := 12, ground := Ground.data }], guard := none } : Oper)) rfl (fun K hK => ?_) AllReadyH.nil)
                      go_simp
                      refine hK.out _ _ ?_ (fun hHeld => ?_)
                      · (try dsimp only); exact HKS.out _ (hB6.alloc hB6.size _)
                      clear hK K
                      try simp only [Act.put, List.setIfInBounds_toArray, List.set_cons_zero, List.set_cons_succ]
                      refine wpAnyH_ready (rs := [14]) (by kernel_rfl) (by simp) ?_
                      refine (AllReadyH.cons (o := ({ dst := some 67, op := Op.call { callee := Callee.builtin Builtin.append, args := #[Operand.tmp 53, Operand.tmp 66], argTypes := #[22, 22] }, type := 22, pos := "ref.go:48", after := #[{ on := 0, ground := Ground.data }, { on := 13, ground := Ground.data }, { on := 12, ground := Ground.chain }], guard := none } : Oper)) rfl (fun K hK => ?_) AllReadyH.nil)
                      have hBA6 := HBQ.out.trans (hB6.mono HBQ.out.size)
                      have hBA7 := hBA6.alloc hBA6.size (.cells #[.slice g4 (X.length + 1) c4] 23)
                      refine step_app1 (by rfl) _ _ 22 rfl w1.heap.size 23 j2 (.slice none 0 0) 24 Tryz.underlying22 hi2 kz0 kz1 kz2 rfl _ z _ rfl ((own_below HUS.out hB6 (Nat.le_refl _)).alloc (.cells #[.slice g4 (X.length + 1) c4] 23)) (.slice g4 (X.length + 1) c4) rfl w6.heap.size rfl ((Whole.new w6 23 #[.slice g4 (X.length + 1) c4]).cell 0) (by omega) (by omega) hBA7.size ?_
                      intro g8 c8 w8 hown8 hgrow8
                      have hB8 : Below w1.heap.size w1 w8 := hgrow8.below ((own_below HUS.out hB6 (Nat.le_refl _)).alloc (.cells #[.slice g4 (X.length + 1) c4] 23)) hBA7 (Nat.le_refl _) hBA7.size
                      have hR8 : RowsOwn w8 w1.heap.size (.slice g8 (z + 1) c8) (P ++ [X ++ [u]]) := RowsOwn.more (by rw [HZ.out]; exact ((own_below HUS.out hB6 (Nat.le_refl _)).alloc (.cells #[.slice g4 (X.length + 1) c4] 23))) (fun x y M hx hM => (own_below (HRS.out x y M hx hM) hB6 (Nat.le_refl _)).alloc _) (own_base (ho6.alloc (.cells #[.slice g4 (X.length + 1) c4] 23)) HBQ.out.size) (by rw [HZ.out]; exact hown8) hgrow8
                      have hK8 := HKS1.out w8 hB8
                      refine hK.out _ _ ?_ (fun hHeld => ?_)
                      · (try dsimp only); exact hK8
                      clear hK K
                      try simp only [Act.put, List.setIfInBounds_toArray, List.set_cons_zero, List.set_cons_succ]
                      refine wpAnyH_take (i := 15) (oi := ({ dst := some 8, op := Op.assign (Operand.tmp 67), type := 22, pos := "ref.go:48", after := #[{ on := 14, ground := Ground.data }, { on := 14, ground := Ground.chain }, { on := 0, ground := Ground.phase }, { on := 1, ground := Ground.phase }, { on := 2, ground := Ground.phase }, { on := 3, ground := Ground.phase }, { on := 4, ground := Ground.phase }, { on := 5, ground := Ground.phase }, { on := 6, ground := Ground.phase }, { on := 7, ground := Ground.phase }, { on := 8, ground := Ground.phase }, { on := 9, ground := Ground.phase }, { on := 10, ground := Ground.phase }, { on := 11, ground := Ground.phase }, { on := 12, ground := Ground.phase }, { on := 13, ground := Ground.phase }, { on := 14, ground := Ground.phase }], guard := none } : Oper)) (v := ?vtc11) rfl (by kernel_rfl) (by kernel_rfl) (by kernel_rfl) (fun _ _ _ h => h) (Or.inl ⟨by rfl, ?hytc11⟩) (by assumption) ?resttc11
                      case hytc11 => intro w hSw; (try dsimp only at hSw); go_simp; all_goals (with_reducible rfl)
                      try simp only [Act.put, List.setIfInBounds_toArray, List.set_cons_zero, List.set_cons_succ]
                      refine wpAnyH_done (by kernel_rfl) ?_ _
                      go_wp2_with fail
                      go_roundg (s - (j + 1))
                      case rel => exact ⟨j + 1, _, HJT.out, rfl, by go_num, hR8, by rw [HPS.out], by rw [List.length_append, HZ.out]; have := HPB.out; simp; omega, hB8⟩
                      case measure => have := HJT.out; omega
                  · go_simp
                    refine hK.out _ _ ?_ (fun hHeld => ?_)
                    · (try dsimp only); exact HKS.out _ (((below_drewN' (Below.refl _ _) 1 : Below wc.heap.size wc wc.drew)).alloc ((below_drewN' (Below.refl _ _) 1 : Below wc.heap.size wc wc.drew)).size (.cells #[.int .i64 u] 3))
                    clear hK K
                    try simp only [Act.put, List.setIfInBounds_toArray, List.set_cons_zero, List.set_cons_succ]
                    refine wpAnyH_ready (rs := [1]) (by kernel_rfl) (by simp) ?_
                    refine (AllReadyH.cons (o := ({ dst := some 54, op := Op.buildSlice 23 0 #[], type := 23, pos := "ref.go:48", after := #[], guard := none } : Oper)) rfl (fun K hK => ?_) AllReadyH.nil)
                    go_simp
                    refine hK.out _ _ ?_ (fun hHeld => ?_)
                    · (try dsimp only); exact HKS.out _ ((((below_drewN' (Below.refl _ _) 1 : Below wc.heap.size wc wc.drew)).alloc ((below_drewN' (Below.refl _ _) 1 : Below wc.heap.size wc wc.drew)).size (.cells #[.int .i64 u] 3)).alloc (((below_drewN' (Below.refl _ _) 1 : Below wc.heap.size wc wc.drew)).alloc ((below_drewN' (Below.refl _ _) 1 : Below wc.heap.size wc wc.drew)).size (.cells #[.int .i64 u] 3)).size (.cells #[] 3))
                    clear hK K
                    try simp only [Act.put, List.setIfInBounds_toArray, List.set_cons_zero, List.set_cons_succ]
                    refine wpAnyH_ready (rs := [6]) (by kernel_rfl) (by simp) ?_
                    refine (AllReadyH.cons (o := ({ dst := some 59, op := Op.call { callee := Callee.builtin Builtin.append, args := #[Operand.tmp 54, Operand.tmp 58], argTypes := #[23, 23] }, type := 23, pos := "ref.go:48", after := #[{ on := 1, ground := Ground.data }, { on := 5, ground := Ground.data }], guard := none } : Oper)) rfl (fun K hK => ?_) AllReadyH.nil)
                    have hH := ((((below_drewN' (Below.refl _ _) 1 : Below wc.heap.size wc wc.drew)).alloc ((below_drewN' (Below.refl _ _) 1 : Below wc.heap.size wc wc.drew)).size (.cells #[.int .i64 u] 3)).alloc (((below_drewN' (Below.refl _ _) 1 : Below wc.heap.size wc wc.drew)).alloc ((below_drewN' (Below.refl _ _) 1 : Below wc.heap.size wc wc.drew)).size (.cells #[.int .i64 u] 3)).size (.cells #[] 3))
                    refine step_appInts (by rfl) _ _ 23 rfl wc.heap.size j1 Tryz.underlying23 hi1 ky0 ky1 ky2 _ 0 _ rfl OWN3.out _ X rfl (HXC.out _ hH) (by have := HXL.out; omega) hH.size ?_
                    intro g2 c2 w2 hown2 hgrow2
                    simp only [Nat.zero_add, List.nil_append] at hown2
                    try simp only [Nat.zero_add]
                    have hB2 : Below wc.heap.size wc w2 := hH.grown hgrow2 hH.size (fun k hk => (OWN3.out.lt k hk).1)
                    have hlit2 := hgrow2.cell LITB.out NEB.out
                    refine hK.out _ _ ?_ (fun hHeld => ?_)
                    · (try dsimp only); exact HKS.out _ hB2
                    clear hK K
                    try simp only [Act.put, List.setIfInBounds_toArray, List.set_cons_zero, List.set_cons_succ]
                    refine wpAnyH_ready (rs := [12]) (by kernel_rfl) (by simp) ?_
                    refine (AllReadyH.cons (o := ({ dst := some 65, op := Op.call { callee := Callee.builtin Builtin.append, args := #[Operand.tmp 59, Operand.tmp 64], argTypes := #[23, 23] }, type := 23, pos := "ref.go:48", after := #[{ on := 6, ground := Ground.data }, { on := 11, ground := Ground.data }, { on := 6, ground := Ground.chain }], guard := none } : Oper)) rfl (fun K hK => ?_) AllReadyH.nil)
                    have hH3 := hB2
                    refine step_appInts (by rfl) _ _ 23 rfl wc.heap.size j1 Tryz.underlying23 hi1 ky0 ky1 ky2 _ X.length _ rfl hown2 _ [u] rfl (seq_cell1 hlit2) (by have := HXL.out; simp; omega) hH3.size ?_
                    intro g4 c4 w6 hown4 hgrow4
                    have hB6 : Below wc.heap.size wc w6 := hH3.grown hgrow4 hH3.size (fun k hk => (hown2.lt k hk).1)
                    have ho6 : w6.ownsRow wc.heap.size 3 1 (.slice g4 (X.length + 1) c4) (X ++ [u]).length (intCells (X ++ [u])) := by rw [intCells_app, List.length_append]; exact hown4
                    have hs6 : SeqC w6 (.slice g4 (X.length + 1) c4) (X ++ [u]) := own_seqC ho6
                    refine hK.out _ _ ?_ (fun hHeld => ?_)
                    · (try dsimp only); exact HKS.out _ hB6
                    clear hK K
                    try simp only [Act.put, List.setIfInBounds_toArray, List.set_cons_zero, List.set_cons_succ]
                    refine wpAnyH_ready (rs := [13]) (by kernel_rfl) (by simp) ?_
                    refine (AllReadyH.cons (o := ({ dst := some 66, op := Op.buildSlice 22 1 #[(0, Operand.tmp 65)], type := 22, pos := "ref.go:48", after := #[{ on := 12, ground := Ground.data }], guard := none } : Oper)) rfl (fun K hK => ?_) AllReadyH.nil)
                    go_simp
                    refine hK.out _ _ ?_ (fun hHeld => ?_)
                    · (try dsimp only); exact HKS.out _ (hB6.alloc hB6.size _)
                    clear hK K
                    try simp only [Act.put, List.setIfInBounds_toArray, List.set_cons_zero, List.set_cons_succ]
                    refine wpAnyH_ready (rs := [14]) (by kernel_rfl) (by simp) ?_
                    refine (AllReadyH.cons (o := ({ dst := some 67, op := Op.call { callee := Callee.builtin Builtin.append, args := #[Operand.tmp 53, Operand.tmp 66], argTypes := #[22, 22] }, type := 22, pos := "ref.go:48", after := #[{ on := 0, ground := Ground.data }, { on := 13, ground := Ground.data }, { on := 12, ground := Ground.chain }], guard := none } : Oper)) rfl (fun K hK => ?_) AllReadyH.nil)
                    have hBA6 := HBQ.out.trans (hB6.mono HBQ.out.size)
                    have hBA7 := hBA6.alloc hBA6.size (.cells #[.slice g4 (X.length + 1) c4] 23)
                    refine step_app1 (by rfl) _ _ 22 rfl w1.heap.size 23 j2 (.slice none 0 0) 24 Tryz.underlying22 hi2 kz0 kz1 kz2 rfl _ z _ rfl ((own_below HUS.out hB6 (Nat.le_refl _)).alloc (.cells #[.slice g4 (X.length + 1) c4] 23)) (.slice g4 (X.length + 1) c4) rfl w6.heap.size rfl ((Whole.new w6 23 #[.slice g4 (X.length + 1) c4]).cell 0) (by omega) (by omega) hBA7.size ?_
                    intro g8 c8 w8 hown8 hgrow8
                    have hB8 : Below w1.heap.size w1 w8 := hgrow8.below ((own_below HUS.out hB6 (Nat.le_refl _)).alloc (.cells #[.slice g4 (X.length + 1) c4] 23)) hBA7 (Nat.le_refl _) hBA7.size
                    have hR8 : RowsOwn w8 w1.heap.size (.slice g8 (z + 1) c8) (P ++ [X ++ [u]]) := RowsOwn.more (by rw [HZ.out]; exact ((own_below HUS.out hB6 (Nat.le_refl _)).alloc (.cells #[.slice g4 (X.length + 1) c4] 23))) (fun x y M hx hM => (own_below (HRS.out x y M hx hM) hB6 (Nat.le_refl _)).alloc _) (own_base (ho6.alloc (.cells #[.slice g4 (X.length + 1) c4] 23)) HBQ.out.size) (by rw [HZ.out]; exact hown8) hgrow8
                    have hK8 := HKS1.out w8 hB8
                    refine hK.out _ _ ?_ (fun hHeld => ?_)
                    · (try dsimp only); exact hK8
                    clear hK K
                    try simp only [Act.put, List.setIfInBounds_toArray, List.set_cons_zero, List.set_cons_succ]
                    refine wpAnyH_take (i := 15) (oi := ({ dst := some 8, op := Op.assign (Operand.tmp 67), type := 22, pos := "ref.go:48", after := #[{ on := 14, ground := Ground.data }, { on := 14, ground := Ground.chain }, { on := 0, ground := Ground.phase }, { on := 1, ground := Ground.phase }, { on := 2, ground := Ground.phase }, { on := 3, ground := Ground.phase }, { on := 4, ground := Ground.phase }, { on := 5, ground := Ground.phase }, { on := 6, ground := Ground.phase }, { on := 7, ground := Ground.phase }, { on := 8, ground := Ground.phase }, { on := 9, ground := Ground.phase }, { on := 10, ground := Ground.phase }, { on := 11, ground := Ground.phase }, { on := 12, ground := Ground.phase }, { on := 13, ground := Ground.phase }, { on := 14, ground := Ground.phase }], guard := none } : Oper)) (v := ?vtc12) rfl (by kernel_rfl) (by kernel_rfl) (by kernel_rfl) (fun _ _ _ h => h) (Or.inl ⟨by rfl, ?hytc12⟩) (by assumption) ?resttc12
                    case hytc12 => intro w hSw; (try dsimp only at hSw); go_simp; all_goals (with_reducible rfl)
                    try simp only [Act.put, List.setIfInBounds_toArray, List.set_cons_zero, List.set_cons_succ]
                    refine wpAnyH_done (by kernel_rfl) ?_ _
                    go_wp2_with fail
                    go_roundg (s - (j + 1))
                    case rel => exact ⟨j + 1, _, HJT.out, rfl, by go_num, hR8, by rw [HPS.out], by rw [List.length_append, HZ.out]; have := HPB.out; simp; omega, hB8⟩
                    case measure => have := HJT.out; omega
            · obtain rfl : j = s := by omega
              have t3 : decide (j < j) = false := by simp
              have hkD : k < D.length := by rw [HQ.out]; exact HLK.out
              have HP2 : Hid (P = nextP C i R D (k + 1)) := Lib.hid (by
                rw [hP, next_succ hkD, List.take_of_length_le (by rw [HS.out]; exact Nat.le_refl _)]
                simp [List.getD, hkD])
              have HROW := Lib.hid hrow; have HBR := Lib.hid hbr
              clear hrow hP hbr hjt hkD
              go_wp2_with fail
              go_roundg (q - (k + 1))
              case rel => exact ⟨k + 1, P, HLK.out, rfl, by go_num, HROW.out, HP2.out, by omega, HBR.out⟩
              case measure => have := HLK.out; omega
        · obtain rfl : k = q := by omega
          have t2 : decide (k < k) = false := by simp
          have hb2 : Below w.heap.size w wr := HW1.out.trans (hb.mono HW1.out.size)
          have hrow : RowsOwn wr w.heap.size (.slice Az O.length cz) (prefP C (i + 1)) := by
            rw [HRP.out, ← HO.out]
            exact hown.base HW1.out.size
          have HROW := Lib.hid hrow; have HB2 := Lib.hid hb2
          clear hown hO hb hlk hb2 hrow
          go_wp2_with fail
          go_roundg (n - (i + 1))
          case rel => exact ⟨i + 1, HLT.out, rfl, by go_num, HROW.out, HB2.out⟩
          case measure => have := HLT.out; omega
    · obtain rfl : i = n := by omega
      have t1 : decide (i < i) = false := by simp
      have HF := Lib.hid hown.lists; have HB := Lib.hid hb
      clear hlt hown hb
      go_wp2_with fail
      go_ret
      exact ⟨_, rfl, HF.out, HB.out⟩
end Go.Proofs.YtgphdngfbcjmcaaGreatDoor
