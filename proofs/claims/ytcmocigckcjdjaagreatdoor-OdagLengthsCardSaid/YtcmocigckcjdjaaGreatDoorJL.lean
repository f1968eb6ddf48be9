/- odag: Paths: the function that it hands over, as an iterator. Lists of two numbers in turn, all of them: their rows, links, counts. Numbers and values appended at a step of a region that draws; lists that are the same. A law's one result, kept in a cell of its own. OdagLengths: the walk. -/
import Derived.Test.YtcmocigckcjdjaaGreatDoorPWalk13
import Derived.Test.YtcmocigckcjdjaaGreatDoorOpen13
import Derived.Test.YtcmocigckcjdjaaGreatDoorPathN13
import Derived.Deep.RegionWith
import Derived.Test.YtcmocigckcjdjaaGreatDoorCost13
import Derived.Test.YtcmocigckcjdjaaGreatDoorPthP13
import Derived.Test.YtcmocigckcjdjaaGreatDoorAppVals
import Derived.Test.YtcmocigckcjdjaaGreatDoorSameInts
import Derived.RegionTactic
import Derived.Deep.AppendLies
import Derived.Test.YtcmocigckcjdjaaGreatDoorMem
import Derived.Test.YtcmocigckcjdjaaGreatDoorAlive13
import Derived.Deep.DeepCutAuto
import Derived.Deep.CutBlock
import Derived.Deep.QuietTactic
import Derived.BigQuiet
import Derived.WalkSmall
import Derived.Sort.LoopGhostIn
import Derived.LoopNIn
import Derived.LoopIn
namespace Go.Proofs.YtcmocigckcjdjaaGreatDoor
section
open Go.RowKit
attribute [local go_sem] Oper.semAt_some

/-- A function's value is stored. -/
theorem run_store_fn (P : Program) (w : World) (a : Addr) (m : Mode) (f : Fn) (xs ys : Array Value) : (store a (.func f xs ys) m).run P w = stored P w a (.func f xs ys) m := run_store P w a _ m rfl
attribute [local go_sem] run_store_fn
/-- What becomes of all paths. -/
def PEnd (J Jx : (Nat → Prop) → Nat → World → Prop) (B N : Nat) (w' : World) : Prop := ∃ G, (∀ b, G b → B ≤ b) ∧ (J G N w' ∨ ∃ k, 0 < k ∧ k ≤ N ∧ Jx G k w')
set_option maxRecDepth 100000 in
set_option maxHeartbeats 4000000 in
theorem paths_iter {Wo w : World} {vo : Value} {n Bo : Nat} {C : List (List Int)} (h : OdagC Wo vo n C) (hcells : ∀ b, b < Wo.heap.size → w.heap[b]? = Wo.heap[b]?) (hs : Wo.heap.size ≤ w.heap.size) (hn : 1 ≤ n) (hn8 : n ≤ 8) (hC : C.length ≤ 100000)
    (hr : w.cell? ⟨Bo, 0, none⟩ = some vo) : IterW Tryz.prog 37 #[.pointer (some ⟨Bo, 0, none⟩)] (fun b => b < Wo.heap.size ∨ b = Bo) 3 (allP n C).length (fun i => (allP n C).getD i []) w := by
  intro l J Jx W hW hJ hJx hT hY h0
  obtain ⟨N, hN⟩ : ∃ N, (allP n C).length = N := ⟨_, rfl⟩
  obtain ⟨L, hL⟩ : ∃ L, (fun i => (allP n C).getD i []) = L := ⟨_, rfl⟩
  rw [hN, hL] at hY
  rw [hN]
  have hBo : Bo < w.heap.size := World.block_lt_of_cell? _ _ hr
  have hWs := hW.size
  have hsW : Wo.heap.size ≤ W.heap.size := Nat.le_trans hs hWs
  have hcW : ∀ b, b < Wo.heap.size → W.heap[b]? = Wo.heap[b]? := fun b hb => (hW.block b (Nat.lt_of_lt_of_le hb hs)).trans (hcells b hb)
  have cBo : W.cell? ⟨Bo, 0, none⟩ = some vo := (hW.cell (p := ⟨Bo, 0, none⟩) hBo).trans hr
  -- the box of yield
  obtain ⟨W1, hW1⟩ : ∃ X, W.alloc (.cells #[.func (.yield l) #[] #[]] 69) = X := ⟨_, rfl⟩
  have hb1 : Below W.heap.size W W1 := by rw [← hW1]; exact (Below.refl _ _).alloc (Nat.le_refl _) _
  have hyb : Whole W1 W.heap.size 69 #[.func (.yield l) #[] #[]] := by rw [← hW1]; exact Whole.new _ _ _
  have cBo1 := (hb1.cell (p := ⟨Bo, 0, none⟩) (by show Bo < _; omega)).trans cBo
  have hO1 := h.heap (fun b hb => (hb1.block b (by omega)).trans (hcW b hb)) (Nat.le_trans hsW hb1.size)
  have LN := Lib.hid (len_any hO1)
  have OP := Lib.hid (open_any h (fun b hb => (hb1.block b (by omega)).trans (hcW b hb)) (Nat.le_trans hsW hb1.size) hn hn8 hC)
  have HW1 := Lib.hid hW1; have HB1 := Lib.hid hb1; have HYB := Lib.hid hyb
  have HJ := Lib.hid hJ; have HJX := Lib.hid hJx; have HT := Lib.hid hT; have HY := Lib.hid hY; have H0 := Lib.hid h0; have HO := Lib.hid h; have HL := Lib.hid hL; have HN := Lib.hid hN
  have HCW := Lib.hid hcW; have HSW := Lib.hid hsW; have HBO := Lib.hid (show Bo < W.heap.size by omega); have CB := Lib.hid cBo
  obtain ⟨ob, vr, vk, rfl, hw, hrr, _⟩ := h
  obtain ⟨rb, roff, u0, e1, cru, hru⟩ : ∃ rb roff u0, vr = .slice (some ⟨rb, roff, none⟩) n (match vr with | .slice _ _ c => c | _ => 0) ∧ Wo.cell? ⟨rb, roff, none⟩ = some u0 ∧ SeqC Wo u0 (rowP C 0) := by
    obtain ⟨A, c, rfl⟩ := hrr.form
    rw [rowsP_len] at hrr
    obtain ⟨rb, off, u, rfl, cu, hu⟩ := hrr.pos (i := 0) (by rw [rowsP_len]; exact hn)
    exact ⟨rb, off, u, by rw [rowsP_len], cu, by simpa [rowsP] using hu⟩
  obtain ⟨cr, hcr⟩ : ∃ c, (match vr with | .slice _ _ c => c | _ => 0) = c := ⟨_, rfl⟩
  rw [hcr] at e1
  subst e1
  have C0 := Lib.hid (hw.cell 0); have CRU := Lib.hid cru; have HRU := Lib.hid hru
  have t1 : ((n : Int) == 0) = false := by simp; omega
  have i1 : (1 : Int) ≤ n := by omega
  have i2 : (0 : Int) < n := by omega
  clear hcells hs hr hJ hJx hT hY h0 hN hL hBo hWs hsW hcW cBo hW hW1 hb1 hyb hO1 hw hrr cru hru hcr
  refine callsIn_wide.2 ?_
  show Calls Tryz.prog 37 #[.func (.yield l) #[] #[], .pointer (some ⟨Bo, 0, none⟩)] W _
  go_enter Tryz.func37, Tryz.ntmps37
  go_upto_region 1 with fail
  rw [HW1.out]
  go_wp2_with fail
  refine LN.out.mono ?_; rintro e w2 ⟨rfl, hw2⟩
  obtain rfl := hw2.symm
  go_wp2_with fail
  refine OP.out.mono ?_; rintro e w2 ⟨ov, rfl, hb2, hf2⟩
  obtain ⟨Aov, cov, hov⟩ := hf2.here.form
  rw [rowsP_len] at hov
  subst hov
  -- the boxes of the open rows, the path, the walk
  obtain ⟨W3, hW3⟩ : ∃ X, w2.alloc (.cells #[.slice Aov n cov] 22) = X := ⟨_, rfl⟩
  obtain ⟨W4, hW4⟩ : ∃ X, W3.alloc (.cells #[.slice none 0 0] 44) = X := ⟨_, rfl⟩
  have hs3 : W3.heap.size = w2.heap.size + 1 := by rw [← hW3]; simp
  have hs4 : W4.heap.size = w2.heap.size + 2 := by rw [← hW4]; simp [hs3]
  obtain ⟨fv, hfv⟩ : ∃ x, x = Value.func (.func 39) #[] #[.pointer (some ⟨W3.heap.size, 0, none⟩), .pointer (some ⟨w2.heap.size, 0, none⟩), .pointer (some ⟨Bo, 0, none⟩), .pointer (some ⟨W.heap.size, 0, none⟩), .pointer (some ⟨W4.heap.size, 0, none⟩)] := ⟨_, rfl⟩
  obtain ⟨Wa, hWa⟩ : ∃ X, W4.alloc (.cells #[.nilFunc] 69) = X := ⟨_, rfl⟩
  have ka : Whole Wa W4.heap.size 69 #[.nilFunc] := by rw [← hWa]; exact Whole.new _ _ _
  have ca := ka.cell 0
  have fa := ka.free 0
  obtain ⟨W5, hW5⟩ : ∃ X, Wa.setCell ⟨W4.heap.size, 0, none⟩ fv = X := ⟨_, rfl⟩
  have hb3 : Below w2.heap.size w2 W3 := by rw [← hW3]; exact (Below.refl _ _).alloc (Nat.le_refl _) _
  have hb4 : Below W3.heap.size W3 W4 := by rw [← hW4]; exact (Below.refl _ _).alloc (Nat.le_refl _) _
  have hba : Below W4.heap.size W4 Wa := by rw [← hWa]; exact (Below.refl _ _).alloc (Nat.le_refl _) _
  have hb5 : Below W4.heap.size W4 W5 := by rw [← hW5]; exact hba.setCell (Nat.le_refl _) _
  have k3 : Whole W3 w2.heap.size 22 #[.slice Aov n cov] := by rw [← hW3]; exact Whole.new _ _ _
  have k4 : Whole W4 W3.heap.size 44 #[.slice none 0 0] := by rw [← hW4]; exact Whole.new _ _ _
  have k5 : Whole W5 W4.heap.size 69 #[fv] := by rw [← hW5]; exact ka.put 0 fv
  have hsa : Wa.heap.size = w2.heap.size + 3 := by rw [← hWa]; simp [hs4]
  have hs5 : W5.heap.size = w2.heap.size + 3 := by rw [← hW5, size_put]; exact hsa
  have hb25 : Below w2.heap.size w2 W5 := (hb3.trans (hb4.mono hb3.size)).trans (hb5.mono (Nat.le_trans hb3.size hb4.size))
  have hbW : Below W.heap.size W W5 := (HB1.out.trans (hb2.mono HB1.out.size)).trans (hb25.mono (Nat.le_trans HB1.out.size hb2.size))
  have h1s := HB1.out.size
  have h2s := hb2.size
  have hyl := HYB.out.lt
  have k5y : Whole W5 W.heap.size 69 #[.func (.yield l) #[] #[]] := (HYB.out.below hb2 hyl).below hb25 (by omega)
  have hPS : PSet Wo W5 (.pointer (some ⟨ob, 0, none⟩)) (.slice Aov n cov) n C (fun b => b < Wo.heap.size ∨ b = Bo) W.heap.size W3.heap.size w2.heap.size Bo W.heap.size W4.heap.size l :=
    { odag := HO.out, few := hC, len := hn8, cp := fun b hb => Or.inl hb, cpo := Or.inr rfl, old := HSW.out, obl := HBO.out, pb0 := by omega, pb1 := by omega, qb0 := by omega, yb0 := Nat.le_refl _, wb0 := by omega, qbp := by omega, ybp := by omega, wbp := by omega
      same := fun b hb => (hbW.block b (Nat.lt_of_lt_of_le hb HSW.out)).trans (HCW.out b hb)
      os := Nat.le_trans HSW.out hbW.size
      cO := (hbW.cell (p := ⟨Bo, 0, none⟩) HBO.out).trans CB.out
      cQ := ((k3.below hb4 k3.lt).below hb5 (Nat.lt_of_lt_of_le k3.lt hb4.size)).cell 0
      cY := k5y.cell 0
      cW := by rw [k5.cell 0, hfv]; rfl
      opn := ((hf2.wider (S' := fun b => (b < Wo.heap.size ∨ W.heap.size ≤ b) ∧ b ≠ W3.heap.size) (fun b hb hS => ⟨hS.imp id (fun h => Nat.le_trans h1s h), by omega⟩)).below hb25) }
  have hG : ∀ b, (W.heap.size ≤ b ∧ b < W5.heap.size) → W.heap.size ≤ b := fun b hb => hb.1
  have hj5 : J (fun b => W.heap.size ≤ b ∧ b < W5.heap.size) 0 W5 := HJ.out _ 0 W W5 none hG (fun r hr => by cases hr) (HT.out (fun _ => False) _ 0 W hG (fun b hb => Or.inr hb.1) H0.out) (grown_of_below hbW none)
  have hwy : WayAt J (fun b => b < Wo.heap.size ∨ b = Bo) W.heap.size W5 W3.heap.size (fun b => W.heap.size ≤ b ∧ b < W5.heap.size) 0 (.slice none 0 0) [] W5 :=
    { inv := hj5, bound := fun b hb => hb, old := fun b k1 k2 => ⟨k1, k2⟩, size := Nat.le_refl _, kept := fun _ _ _ _ => rfl, box := k4.below hb5 k4.lt, own := World.ownsRow_nil _ _ _ _, mine := fun b hb => by simp [Value.ownBlock] at hb }
  have hwy' := hwy.below HJ.out (show Below W5.heap.size W5 W5.drew from below_drewN' (Below.refl _ _) 1)
  have PW := (pwalk_any hPS HJ.out HT.out HY.out (n - 1) 0 (by omega) [] (rowP C 0) u0 _ _ 0 _ rfl (by have := row_len C 0; omega) (fun a ha => ha) HRU.out hwy' (fun i Y hi => by
    rw [sub_all C hn] at hi
    refine ⟨by rw [← HN.out, Nat.zero_add]; exact (List.getElem?_eq_some_iff.1 hi).1, ?_⟩
    rw [← HL.out, Nat.zero_add]
    simp [List.getD, hi])).mono (R' := fun e w' => ∃ x, e = .returned x ∧ PEnd J Jx W.heap.size N w') (by
      rintro e w' (⟨rfl, G, v, hw⟩ | ⟨rfl, G, k, g1, g2, g3, g4⟩)
      · refine ⟨_, rfl, G, fun b hb => (hw.bound b hb).1, Or.inl ?_⟩
        have := hw.inv
        rw [Nat.zero_add, sub_all C hn, HN.out] at this
        exact this
      · exact ⟨_, rfl, G, g1, Or.inr ⟨k, g2, g3, g4⟩⟩)
  have HPW := Lib.hid PW
  have cB5 : W5.cell? ⟨Bo, 0, none⟩ = some (.pointer (some ⟨ob, 0, none⟩)) := hPS.cO
  have cV5 : W5.cell? ⟨W4.heap.size, 0, none⟩ = some fv := k5.cell 0
  have c05 : W5.cell? ⟨ob, 0, none⟩ = some (.slice (some ⟨rb, roff, none⟩) n cr) := (World.cell?_of_block (a := ⟨ob, 0, none⟩) (hPS.same ob (World.block_lt_of_cell? _ _ C0.out))).trans C0.out
  have cR5 : W5.cell? ⟨rb, roff, none⟩ = some u0 := (World.cell?_of_block (a := ⟨rb, roff, none⟩) (hPS.same rb (World.block_lt_of_cell? _ _ CRU.out))).trans CRU.out
  rw [hfv] at cV5 hW5
  have HW3 := Lib.hid hW3; have HW4 := Lib.hid hW4; have HW5 := Lib.hid hW5; have HWA := Lib.hid hWa; have HS3 := Lib.hid hs3; have HS4 := Lib.hid hs4
  clear hb2 hf2 hW3 hW4 hfv hW5 hb3 hb4 hb5 k3 k4 k5 hs3 hs4 hs5 hb25 hbW h1s h2s hyl k5y hPS hG hj5 hwy hwy' PW cBo1 hWa ka hba hsa
  go_upto_region 3 with fail
  rw [HW3.out]
  go_upto_region 4 with fail
  rw [HW4.out]
  go_upto_region 5 with fail
  rw [HWA.out]
  go_upto_region 6 with fail
  rw [HW5.out]
  clear ca fa
  go_region_with (refine HPW.out.mono ?_; rintro e' wR ⟨x, rfl, hx⟩; have HX := Lib.hid hx; clear hx)
  all_goals
    go_end0
    exact ⟨⟨_, rfl⟩, HX.out⟩
end

section
open Go.RowKit

/-- Two numbers in turn. -/
def altL (n : Nat) (a b : Int) : List Int := (List.range n).map fun i => if i % 2 = 1 then b else a
theorem alt_len (n : Nat) (a b : Int) : (altL n a b).length = n := by simp [altL]
theorem alt_at {n i : Nat} (h : i < n) (a b : Int) : (altL n a b).getD i 0 = if i % 2 = 1 then b else a := by simp [altL, List.getD, h]
/-- What is laid behind a rounds of the outer loop and b of the inner one. -/
def preA (n w a b : Nat) : List (List Int) := ((List.range a).flatMap fun x : Nat => (List.range w).map fun y : Nat => altL n x y) ++ (List.range b).map fun y : Nat => altL n a y
def allA (n w : Nat) : List (List Int) := preA n w w 0
theorem pre_zero (n w : Nat) : preA n w 0 0 = [] := by simp [preA]
theorem pre_snoc (n w a b : Nat) : preA n w a (b + 1) = preA n w a b ++ [altL n a b] := by
  unfold preA
  rw [List.range_succ, List.map_append, List.append_assoc]; rfl
theorem pre_next (n w a : Nat) : preA n w a w = preA n w (a + 1) 0 := by
  unfold preA
  rw [List.range_succ, List.flatMap_append]; simp
theorem pre_mem {n w a b : Nat} {l : List Int} (h : l ∈ preA n w a b) : ∃ x y : Nat, l = altL n x y ∧ (x < a ∧ y < w ∨ x = a ∧ y < b) := by
  unfold preA at h
  rcases List.mem_append.1 h with h | h
  · obtain ⟨x, hx, h⟩ := List.mem_flatMap.1 h
    obtain ⟨y, hy, rfl⟩ := List.mem_map.1 h
    exact ⟨x, y, rfl, Or.inl ⟨List.mem_range.1 hx, List.mem_range.1 hy⟩⟩
  · obtain ⟨y, hy, rfl⟩ := List.mem_map.1 h
    exact ⟨a, y, rfl, Or.inr ⟨rfl, List.mem_range.1 hy⟩⟩
theorem pre_len (n w b : Nat) : ∀ a, (preA n w a b).length = a * w + b := by
  intro a
  have : ∀ a, ((List.range a).flatMap fun x : Nat => (List.range w).map fun y : Nat => altL n x y).length = a * w := by
    intro a
    induction a with
    | zero => simp
    | succ a ih => rw [List.range_succ, List.flatMap_append, List.length_append, ih, Nat.succ_mul]; simp
  unfold preA
  rw [List.length_append, this]; simp
theorem alt_in {n x y w : Nat} (hx : x < w) (hy : y < w) {z : Int} (h : z ∈ altL n x y) : 0 ≤ z ∧ z < w := by
  simp only [altL, List.mem_map, List.mem_range] at h
  obtain ⟨i, _, rfl⟩ := h
  split <;> omega
def numsW (w : Nat) : List Int := (List.range w).map fun x : Nat => (x : Int)
def chkA (n w : Nat) : Bool :=
  ((List.range n).all fun i => rowP (allA n w) i == numsW w) && ((List.range (n - 1)).all fun i => (numsW w).all fun x => linkP (allA n w) i x == numsW w) && (costP n (allA n w) == n * w + (n - 1) * w * w)
def chkB (n : Nat) : Bool := (allP n [altL n 0 0] == [altL n 0 0]) && (costP n [] == 0)
set_option maxRecDepth 100000 in
theorem chk_all : ((List.range 8).all fun k => (List.range 4).all fun v => chkA (k + 1) (v + 1)) = true := by kernel_rfl
set_option maxRecDepth 100000 in
theorem chk_one : ((List.range 8).all fun k => chkB (k + 1)) = true := by kernel_rfl
theorem chk_at {n w : Nat} (hn : 1 ≤ n) (hn8 : n ≤ 8) (hw : 1 ≤ w) (hw4 : w ≤ 4) : chkA n w = true := by
  have h1 := List.all_eq_true.1 chk_all (n - 1) (List.mem_range.2 (by omega))
  have h2 := List.all_eq_true.1 h1 (w - 1) (List.mem_range.2 (by omega))
  rwa [Nat.sub_add_cancel hn, Nat.sub_add_cancel hw] at h2
theorem chk1_at {n : Nat} (hn : 1 ≤ n) (hn8 : n ≤ 8) : allP n [altL n 0 0] = [altL n 0 0] ∧ costP n [] = 0 := by
  have h1 := List.all_eq_true.1 chk_one (n - 1) (List.mem_range.2 (by omega))
  rw [Nat.sub_add_cancel hn, chkB, Bool.and_eq_true, beq_iff_eq, beq_iff_eq] at h1
  exact h1
theorem sum_const (k : Nat) (f : Int → Nat) : ∀ L : List Int, (∀ x ∈ L, f x = k) → (L.map f).sum = L.length * k
  | [], _ => by simp
  | a :: t, h => by
    rw [List.map_cons, List.sum_cons, sum_const k f t (fun x hx => h x (List.mem_cons_of_mem _ hx)), h a (List.mem_cons_self ..), List.length_cons, Nat.succ_mul, Nat.add_comm]
theorem tabs_of {n w : Nat} (h : chkA n w = true) : (∀ i, i < n → rowP (allA n w) i = numsW w) ∧ (∀ i, i < n - 1 → ∀ x ∈ numsW w, linkP (allA n w) i x = numsW w) ∧ costP n (allA n w) = n * w + (n - 1) * w * w := by
  unfold chkA at h
  rw [Bool.and_eq_true, Bool.and_eq_true, beq_iff_eq] at h
  obtain ⟨⟨h1, h2⟩, h3⟩ := h
  refine ⟨fun i hi => ?_, fun i hi x hx => ?_, h3⟩
  · have := List.all_eq_true.1 h1 i (List.mem_range.2 hi)
    exact beq_iff_eq.1 this
  · have := List.all_eq_true.1 (List.all_eq_true.1 h2 i (List.mem_range.2 hi)) x hx
    exact beq_iff_eq.1 this
theorem cnt_allA {n w : Nat} (h : chkA n w = true) : ∀ (r i : Nat) (x : Int), i + r + 1 ≤ n → x ∈ numsW w → cntP (allA n w) r i x = w ^ r
  | 0, _, _, _, _ => by simp [cntP]
  | r + 1, i, x, hi, hx => by
    rw [cntP, (tabs_of h).2.1 i (by omega) x hx, sum_const (w ^ r) _ (numsW w) (fun y hy => cnt_allA h r (i + 1) y (by omega) hy)]
    rw [show (numsW w).length = w by simp [numsW], Nat.pow_succ, Nat.mul_comm]
theorem tot_allA {n w : Nat} (h : chkA n w = true) (hn : 1 ≤ n) : ((rowP (allA n w) 0).map (cntP (allA n w) (n - 1) 0)).sum = w ^ n := by
  rw [(tabs_of h).1 0 (by omega), sum_const (w ^ (n - 1)) _ (numsW w) (fun y hy => cnt_allA h (n - 1) 0 y (by omega) hy)]
  rw [show (numsW w).length = w by simp [numsW]]
  obtain ⟨k, rfl⟩ : ∃ k, n = k + 1 := ⟨n - 1, by omega⟩
  rw [Nat.add_sub_cancel, Nat.pow_succ, Nat.mul_comm]
theorem pow_le8 {n w : Nat} (hn : n ≤ 8) (hw : w ≤ 4) (hw1 : 1 ≤ w) : w ^ n ≤ 65536 :=
  Nat.le_trans (Nat.pow_le_pow_left hw n) (Nat.le_trans (Nat.pow_le_pow_right (by omega) hn) (by decide))
end

section
open Go.RowKit

section
variable {P : Program}
/-- Numbers behind a row of the call's own: the run. -/
theorem run_appInts (w : World) (t ty : TypeId) (base : Nat) (i : TypeInfo) (ht : P.underlying t = some (.slice 3)) (hi : P.info? 3 = some i) (hz : i.zero = some (.int .i64 0))
    (hsize : i.size = 1) (hby : i.bytes = 8) (v : Value) (n : Nat) (xs : List Value) (hown : w.ownsRow base 3 1 v n xs)
    (u : Value) (l : List Int) (hu : SeqV w u l) (hn : n + l.length ≤ 1000000000) (hbase : base ≤ w.heap.size) :
    ∃ A' c' w', (Builtin.append_ #[t, t] ty #[v, u]).run P w = .ok (.slice A' (n + l.length) c') w' ∧ w'.ownsRow base 3 1 (.slice A' (n + l.length) c') (n + l.length) (xs ++ intCells l) ∧ w.grownBy w' v.ownBlock := by
  obtain ⟨A, c, rfl⟩ := IntsV.form hu
  have key : ∀ ad : Addr, A = some ad → ∃ A' c' w', (Builtin.append_ #[t, t] ty #[v, .slice A l.length c]).run P w = .ok (.slice A' (n + l.length) c') w' ∧ w'.ownsRow base 3 1 (.slice A' (n + l.length) c') (n + l.length) (xs ++ intCells l) ∧ w.grownBy w' v.ownBlock := by
    intro ad hA
    subst hA
    obtain ⟨v', w', hr, h2, h3, _⟩ := run_append_own_at (P := P) w base t ty 3 i (.int .i64 0) 1 8 ht hi hz hsize hby rfl (by decide) v n xs hown ad l.length c (intCells l) (by simp [intCells])
      (by
        rcases hu with ⟨h0, _⟩ | ⟨_, b, off, c', e, hc⟩
        · intro j u hj
          rw [List.eq_nil_of_length_eq_zero h0] at hj
          simp [intCells] at hj
        · injection e with e1 e2 e3
          injection e1 with e1
          subst e1
          exact seq_cells (c := l.length) hc rfl (Nat.le_refl _)) (fun u hu => by simp [intCells] at hu; obtain ⟨z, _, rfl⟩ := hu; rfl) (by unfold maxLen; omega) (by omega) hbase
    obtain ⟨A', c', rfl⟩ := own_form h2
    exact ⟨A', c', w', hr, h2, h3⟩
  rcases A with _ | ad
  · have hl0 : l = [] := by
      rcases hu with ⟨h0, _⟩ | ⟨_, b, off, c', e, _⟩
      · exact List.eq_nil_of_length_eq_zero h0
      · cases e
    subst hl0
    obtain ⟨A', c', rfl⟩ := own_form hown
    have hr : (Builtin.append_ #[t, t] ty #[.slice A' n c', .slice none 0 c]).run P w = .ok (.slice A' n c') w := by
      rcases hown.2 with ⟨h1, h2⟩ | ⟨g, cap, cur, h1, _, _, hnc, _⟩
      · injection h1 with e1 e2 e3
        subst e1 e2 e3
        simp [Builtin.append_, run_underlying ht, sizeOf, typeInfo, hi, Builtin.lenOf, Builtin.firstCells]
      · injection h1 with e1 e2 e3
        subst e1 e3
        simp [Builtin.append_, run_underlying ht, sizeOf, typeInfo, hi, Builtin.lenOf, Builtin.firstCells, hnc, storeCells]
    exact ⟨A', c', w, hr, by simpa [intCells] using hown, (Grew.refl w (.slice A' n c')).1⟩
  · exact key ad rfl
/-- At a step of a region that draws. -/
theorem step_appInts {ops : Array Oper} {o : Oper} {a : Act} {w : World} {K : Act → World → Prop} {Q : Exit → Act → World → Prop} {E : Prop} (hw : Region.wanted o (yielded ops a.tmps) = true) (s x : Operand) (t : TypeId)
    (ho : o.op = .call { callee := .builtin .append, args := #[s, x], argTypes := #[t, t] })
    (base : Nat) (i : TypeInfo) (ht : P.underlying t = some (.slice 3)) (hi : P.info? 3 = some i) (hz : i.zero = some (.int .i64 0))
    (hsize : i.size = 1) (hby : i.bytes = 8) (v : Value) (n : Nat) (xs : List Value) (hs : a.eval s = v) (hown : w.ownsRow base 3 1 v n xs)
    (u : Value) (l : List Int) (hx : a.eval x = u) (hu : SeqV w u l) (hn : n + l.length ≤ 1000000000) (hbase : base ≤ w.heap.size)
    (h : ∀ A' c' w', w'.ownsRow base 3 1 (.slice A' (n + l.length) c') (n + l.length) (xs ++ intCells l) → w.grownBy w' v.ownBlock → K (a.put o.dst (.slice A' (n + l.length) c')) w') :
    if Region.wanted o (yielded ops a.tmps) = true then Oper.wp P o a w K Q else E := by
  rw [if_pos hw]
  obtain ⟨A', c', w', hr, h2, h3⟩ := run_appInts (P := P) w t o.type base i ht hi hz hsize hby v n xs hown u l hu hn hbase
  unfold Oper.wp execOp
  simp only [ho, resolve, invoke, builtin, Sem.run_bind, Sem.run_pure, Result.andThen_ok, List.map_toArray, List.map_cons, List.map_nil, hs, hx, hr]
  exact h A' c' w' h2 h3
end
/-- One number in a block of its own. -/
theorem seq_cell1 {w : World} {b : Nat} {x : Int} (h : w.cell? ⟨b, 0, none⟩ = some (.int .i64 x)) : SeqV w (.slice (some ⟨b, 0, none⟩) 1 1) [x] := by
  refine Or.inr ⟨Nat.zero_lt_one, b, 0, 1, rfl, fun i hi => ?_⟩
  obtain rfl : i = 0 := by simpa using hi
  exact h
theorem own_empty (W : World) (base : Nat) (hb : base ≤ W.heap.size) : (W.alloc (.cells #[] 3)).ownsRow base 3 1 (.slice (some ⟨W.heap.size, 0, none⟩) 0 0) 0 [] :=
  World.ownsRow_lit (size := 1) W #[] 0 hb (by decide) rfl
theorem cell_new1 (W : World) (x : Int) : (W.alloc (.cells #[.int .i64 x] 3)).cell? ⟨W.heap.size, 0, none⟩ = some (.int .i64 x) := (Whole.new W 3 #[.int .i64 x]).cell 0
theorem sameI_self (L : List Int) : sameI (fun i => L.getD i 0) L.length (fun i => L.getD i 0) L.length = true := by
  unfold sameI
  rw [Bool.and_eq_true, eqUpto_iff]
  exact ⟨by simp, fun i _ => rfl⟩
theorem sameI_iff {L M : List Int} : sameI (fun i => L.getD i 0) L.length (fun i => M.getD i 0) M.length = true ↔ L = M := by
  constructor
  · intro h
    unfold sameI at h
    rw [Bool.and_eq_true, eqUpto_iff, decide_eq_true_eq] at h
    apply List.ext_getElem h.1
    intro i h1 h2
    have := h.2 i h1
    simpa [List.getD, h1, h2] using this
  · rintro rfl
    exact sameI_self L
theorem same_dec {A B : List Int} {u v : Value} {w : World} (h : SeqV w u A) (k : SeqV w v B) (hl : A.length ≤ 1000000000) :
    Calls Tryz.prog 24 #[u, v] w fun e w' => e = .returned (.bool (decide (A = B))) ∧ Below w.heap.size w w' := by
  refine (sameInts_any A.length B.length _ _ u v w h k hl).mono ?_
  rintro e w' ⟨rfl, d, rfl⟩
  refine ⟨?_, below_drewN' (Below.refl _ _) d⟩
  congr 2
  rw [Bool.eq_iff_iff, sameI_iff, decide_eq_true_eq]
/-- One value appended at a step of a region that draws. -/
theorem step_app1 {P : Program} {ops : Array Oper} {o : Oper} {a : Act} {w : World} {K : Act → World → Prop} {Q : Exit → Act → World → Prop} {E : Prop} (hw : Region.wanted o (yielded ops a.tmps) = true) (s x : Operand) (t : TypeId)
    (ho : o.op = .call { callee := .builtin .append, args := #[s, x], argTypes := #[t, t] })
    (base : Nat) (e : TypeId) (i : TypeInfo) (z : Value) (bytes : Nat) (ht : P.underlying t = some (.slice e)) (hi : P.info? e = some i) (hz : i.zero = some z)
    (hsize : i.size = 1) (hby : i.bytes = bytes) (hzs : z.cells.size = 1) (v : Value) (n : Nat) (xs : List Value) (hs : a.eval s = v) (hown : w.ownsRow base e 1 v n xs)
    (u : Value) (hu : u.oneCell' = true) (b : Nat) (hx : a.eval x = .slice (some ⟨b, 0, none⟩) 1 1) (hc : w.cell? ⟨b, 0, none⟩ = some u) (hn : n ≤ 1000000000) (hbytes : bytes ≤ 128) (hbase : base ≤ w.heap.size)
    (h : ∀ A' c' w', w'.ownsRow base e 1 (.slice A' (n + 1) c') (n + 1) (xs ++ [u]) → Grew w v w' (.slice A' (n + 1) c') → K (a.put o.dst (.slice A' (n + 1) c')) w') :
    if Region.wanted o (yielded ops a.tmps) = true then Oper.wp P o a w K Q else E := by
  rw [if_pos hw]
  have hb2 : (n + 1) * bytes ≤ 140737488355328 := Nat.le_trans (Nat.mul_le_mul (show n + 1 ≤ 1000000001 by omega) hbytes) (by decide)
  obtain ⟨v', w', hr, h2, h3, _, h5⟩ := run_append_own_at (P := P) w base t o.type e i z 1 bytes ht hi hz hsize hby hzs (by decide) v n xs hown ⟨b, 0, none⟩ 1 1 [u] rfl
    (by
      intro j y hj
      match j, hj with
      | 0, hj =>
        simp at hj; subst hj
        exact hc) (by intro y hy; rw [List.mem_singleton] at hy; subst hy; exact hu) (by unfold maxLen; omega) hb2 hbase
  obtain ⟨A', c', rfl⟩ := own_form h2
  unfold Oper.wp execOp
  simp only [ho, resolve, invoke, builtin, Sem.run_bind, Sem.run_pure, Result.andThen_ok, List.map_toArray, List.map_cons, List.map_nil, hs, hx, hr]
  refine h A' c' w' h2 ⟨h3, ?_⟩
  rcases h5 with h5 | h5
  · exact Or.inl h5
  · exact Or.inr ⟨_, h5, Nat.le_refl _⟩
end

section
open Go.RowKit

theorem results_bool {fn : Func} {p : Tmp} (h : fn.results = #[.cell p 4]) (tmps : Array Value) (w : World) (g : Nat) (v : Value) (hp : tmps.getD p undef = .pointer (some ⟨g, 0, none⟩)) (hc : Whole w g 4 #[v]) :
    (results fn tmps).run Tryz.prog w = .ok v w := by
  have hp' : tmps[p]?.getD undef = .pointer (some ⟨g, 0, none⟩) := by simpa using hp
  have hcell := hc.cell 0
  have hcell' : w.cell? ⟨g, 0, none⟩ = some v := hcell
  simp [results, h, hp', asAddr, loadVar, go_sem, hcell']
end

section
open Go.RowKit
attribute [local go_sem] Oper.semAt_some

/-- Numbers in a block of their own, the first t of them laid. -/
def NumsI (wo : World) (g : Nat) (L : List Int) (t : Nat) (wr : World) : Prop :=
  (∃ cs : Array Value, Whole wr g 3 cs ∧ cs.size = L.length ∧ ∀ s, s < t → cs[s]? = some (.int .i64 (L.getD s 0))) ∧ Below wo.heap.size wo wr ∧ wo.heap.size ≤ g
theorem NumsI.below {wo wr w' : World} {g t : Nat} {L : List Int} (h : NumsI wo g L t wr) (hb : Below wr.heap.size wr w') : NumsI wo g L t w' := by
  obtain ⟨⟨cs, h1, h2, h3⟩, h4, h5⟩ := h
  exact ⟨⟨cs, h1.below hb h1.lt, h2, h3⟩, h4.trans (hb.mono h4.size), h5⟩
theorem NumsI.put {wo wr : World} {g t : Nat} {L : List Int} {x : Int} (h : NumsI wo g L t wr) (ht : t < L.length) (hx : L.getD t 0 = x) : NumsI wo g L (t + 1) (wr.setCell ⟨g, t, none⟩ (.int .i64 x)) := by
  obtain ⟨⟨cs, h1, h2, h3⟩, h4, h5⟩ := h
  refine ⟨⟨_, h1.put t _, by simp [h2], fun s hs => ?_⟩, h4.setCell h5 _, h5⟩
  rw [Array.getElem?_setIfInBounds]
  by_cases hts : t = s
  · subst hts
    rw [if_pos rfl, if_pos (by omega), hx]
  · rw [if_neg hts]; exact h3 s (by omega)
theorem NumsI.cell {wo wr : World} {g t s : Nat} {L : List Int} (h : NumsI wo g L t wr) (hs : s < L.length) : (∃ z, wr.cell? ⟨g, s, none⟩ = some z) ∧ wr.frozen? ⟨g, s, none⟩ = false := by
  obtain ⟨⟨cs, h1, h2, _⟩, _⟩ := h
  exact ⟨⟨_, by rw [h1.cell s]; exact Array.getElem?_eq_getElem (by omega)⟩, h1.free s⟩
theorem numsI_made (w : World) (L : List Int) (m : Nat) (hm : L.length = m) : NumsI w w.heap.size L 0 (w.alloc (.cells (madeCells #[.int .i64 0] m) 3)) :=
  ⟨⟨_, Whole.new _ _ _, by rw [size_madeCells, hm], fun s hs => absurd hs (Nat.not_lt_zero _)⟩, (Below.refl _ _).alloc (Nat.le_refl _) _, Nat.le_refl _⟩

theorem NumsI.put2 {wo wr : World} {g t : Nat} {L : List Int} {x y : Int} (h : NumsI wo g L t wr) (ht : t < L.length) (hx : L.getD t 0 = x) : NumsI wo g L (t + 1) ((wr.setCell ⟨g, t, none⟩ (.int .i64 y)).setCell ⟨g, t, none⟩ (.int .i64 x)) := by
  obtain ⟨⟨cs, h1, h2, h3⟩, h4, h5⟩ := h
  refine ⟨⟨_, (h1.put t _).put t _, by simp [h2], fun s hs => ?_⟩, (h4.setCell h5 _).setCell h5 _, h5⟩
  rw [Array.getElem?_setIfInBounds]
  by_cases hts : t = s
  · subst hts
    rw [if_pos rfl, if_pos (by simp; omega), hx]
  · rw [if_neg hts, Array.getElem?_setIfInBounds, if_neg hts]; exact h3 s (by omega)
theorem NumsI.own {wo wr : World} {g base : Nat} {L : List Int} (h : NumsI wo g L L.length wr) (hb : base ≤ g) (hL : L.length ≤ 1000000) : wr.ownsRow base 3 1 (.slice (some ⟨g, 0, none⟩) L.length L.length) L.length (intCells L) := by
  obtain ⟨⟨cs, h1, h2, h3⟩, _⟩ := h
  have e : cs = (intCells L).toArray := by
    apply Array.ext_getElem?
    intro i
    by_cases hi : i < L.length
    · rw [h3 i hi]; simp [intCells, hi, List.getD]
    · rw [Array.getElem?_eq_none (by omega), Array.getElem?_eq_none (by simp [intCells]; omega)]
  subst e
  refine ⟨by simp [intCells], Or.inr ⟨g, L.length, _, rfl, hb, h1, Nat.le_refl _, by unfold maxLen; omega, by simp [intCells], ?_⟩⟩
  rw [List.toList_toArray, List.take_of_length_le (by simp [intCells])]
theorem infoInt : (Tryz.prog.info? 3).map (fun i => (i.zero, i.size, i.bytes)) = some (some (.int .i64 0), 1, 8) := by kernel_rfl
theorem run_ints (n : Nat) (hn : n ≤ 1000000) (V : World) : (Instr.makeSlice 44 (.int .i64 (n : Nat)) (.int .i64 (n : Nat))).run Tryz.prog V = .ok (.slice (some ⟨V.heap.size, 0, none⟩) n n) (V.alloc (.cells (madeCells #[.int .i64 0] n) 3)) := by
  obtain ⟨j1, hi1, ky0, ky1, ky2⟩ := info_parts infoInt
  have h := run_make (P := Tryz.prog) V 44 3 j1 (.int .i64 0) Tryz.underlying44 hi1 ky0 .i64 .i64 (n : Int) (n : Int) (by omega) (by omega) (by rw [ky2]; omega) (by omega)
  rw [h, ky1, Int.toNat_natCast, Nat.mul_one]
  rfl
/-- A number kept in a box. -/
def CntF (w8 : World) (kB : Nat) (g : Nat → Nat) (_G : Nat → Prop) (i : Nat) (W : World) : Prop := w8.grownBy W (some kB) ∧ Whole W kB 3 #[.int .i64 (g i : Nat)]
section
variable {w8 A A' W W4 : World} {D kB i : Nat} {g : Nat → Nat} {G : Nat → Prop} {row : Option Nat}
theorem CntF.grown (h : CntF w8 kB g G i A) (h0 : w8.heap.size ≤ D) (ho : kB < D) (hG : ∀ b, G b → D + 2 ≤ b) (hrow : ∀ r, row = some r → r = D ∨ r = D + 1 ∨ G r) (hg : A.grownBy A' row) : CntF w8 kB g G i A' := by
  obtain ⟨h1, h2⟩ := h
  have far : ∀ b, b < D → some b ≠ row := fun b hb e => by
    rcases hrow b e.symm with h | h | h
    · omega
    · omega
    · have := hG b h; omega
  exact ⟨⟨hg.os.trans h1.os, hg.tape.trans h1.tape, hg.output.trans h1.output, Nat.le_trans h1.size hg.size, fun b hb hne => (hg.block b (by have := h1.size; omega) (far b (by omega))).trans (h1.block b hb hne)⟩, h2.grown hg (far _ ho)⟩
theorem grown_trans {W0 W1 W2 : World} {row : Option Nat} (h : W0.grownBy W1 row) (k : W1.grownBy W2 row) : W0.grownBy W2 row :=
  ⟨k.os.trans h.os, k.tape.trans h.tape, k.output.trans h.output, Nat.le_trans h.size k.size, fun b hb hne => (k.block b (by have := h.size; omega) hne).trans (h.block b hb hne)⟩
theorem grown_set (W0 : World) (b : Nat) (u : Value) : W0.grownBy (W0.setCell ⟨b, 0, none⟩ u) (some b) := by
  have hpg : Below b W0 (W0.setCell ⟨b, 0, none⟩ u) := (Below.refl b W0).setCell (Nat.le_refl _) _
  exact ⟨hpg.os, hpg.tape, hpg.output, hpg.size, fun k _ hk => Below.heap_setCell W0 _ _ k (fun e => hk (by rw [e]))⟩
theorem CntF.round {Cp : Nat → Prop} (h : CntF w8 kB g G i W) (ho : kB < D) (hG : ∀ b, G b → D + 2 ≤ b ∧ b < W.heap.size) (hCp : ∀ b, Cp b → b ≠ kB ∧ b < D) (hD : D + 2 ≤ W.heap.size) (h4 : W.grownBy W4 (some kB)) (hk4 : Whole W4 kB 3 #[.int .i64 (g (i + 1) : Nat)]) (a : Act) (I : (Nat → Prop) → Nat → World → Prop) (hI : I = fun G k W => CntF w8 kB g G k W) :
    roundW Cp I (fun _ _ _ _ => False) D G i W .normal a W4 := by
  subst hI
  refine ⟨⟨h4.size, fun b hb => ?_⟩, grown_trans h.1 h4, hk4⟩
  have hb' : b < W.heap.size ∧ b ≠ kB := by
    rcases hb with h | h | h | h
    · omega
    · omega
    · have := hG b h; omega
    · have := hCp b h; omega
  exact h4.block b hb'.1 (fun e => hb'.2 (Option.some.inj e))
end
theorem ListsV.heap {Wo A : World} {v : Value} {C : List (List Int)} (h : ListsV Wo v C) (hb : ∀ b, b < Wo.heap.size → A.heap[b]? = Wo.heap[b]?) (hs : Wo.heap.size ≤ A.heap.size) : ListsV A v C := by
  have k := ListsV.below h (worldOf_below hb hs) (Nat.le_refl _)
  exact k
theorem pre_first {n w : Nat} (h1 : 1 ≤ w) (h4 : w ≤ 4) : (preA n w w 0)[0]? = some (altL n 0 0) := by
  rcases (by omega : w = 1 ∨ w = 2 ∨ w = 3 ∨ w = 4) with rfl | rfl | rfl | rfl <;> rfl
/-- Lists in a row of their own, the row in a box. -/
def LenI (w2 : World) (oB : Nat) (C : List (List Int)) (wr : World) : Prop := Below oB w2 wr ∧ oB < wr.heap.size ∧ ∃ v, Whole wr oB 22 #[v] ∧ RowsOwn wr (oB + 1) v C
theorem LenI.below {w2 wr w' : World} {oB : Nat} {C : List (List Int)} (h : LenI w2 oB C wr) (hb : Below wr.heap.size wr w') : LenI w2 oB C w' := by
  obtain ⟨h1, h2, v, h3, h4⟩ := h
  exact ⟨h1.trans (hb.mono (Nat.le_of_lt h2)), Nat.lt_of_lt_of_le h2 hb.size, v, h3.below hb h3.lt, h4.below hb (Nat.le_refl _)⟩

set_option maxRecDepth 100000 in
set_option maxHeartbeats 16000000 in
theorem lengths_law (u v : Nat) (w : World) (hg : ErrT w) (hu : u < 256) (hv : v < 256) :
    Calls Tryz.prog 7 #[.int .u8 u, .int .u8 v] w fun e w' => e = .returned (.bool true) ∧ Below w.heap.size w w' := by
  obtain ⟨j1, hi1, ky0, ky1, ky2⟩ := info_parts Tryz.infoRow
  obtain ⟨w1, hw1⟩ : ∃ W, w.alloc (.cells #[.bool false] 4) = W := ⟨_, rfl⟩
  have hb0 : Below w.heap.size w w1 := by rw [← hw1]; exact (Below.refl _ _).alloc (Nat.le_refl _) _
  have hR1 : Whole w1 w.heap.size 4 #[.bool false] := by rw [← hw1]; exact Whole.new _ _ _
  have HG := Lib.hid (hg.below hb0 (Nat.le_refl _)); have HB0 := Lib.hid hb0; have HR := Lib.hid hR1; have HW1 := Lib.hid hw1
  clear hg hb0 hR1 hw1
  obtain ⟨K, hK⟩ : ∃ K, u % 8 = K := ⟨_, rfl⟩
  have hK8 : K < 8 := by omega
  have hKI : (u : Int) % 8 = (K : Int) := by omega
  obtain ⟨M, hM⟩ : ∃ M, v % 4 = M := ⟨_, rfl⟩
  have hM4 : M < 4 := by omega
  have hMI : (v : Int) % 4 = (M : Int) := by omega
  clear hM hK
  refine (callsIn_wide (n := 6)).1 ?_
  refine callsIn_of_wp_marks Tryz.func7 rfl trivial ?_ rfl
  simp only [Tryz.ntmps7, List.size_toArray, List.length_cons, List.length_nil, Nat.reduceAdd, Nat.reduceSub, Array.replicate_succ, Array.replicate_zero, List.push_toArray, List.append_toArray, List.nil_append, List.cons_append]
  refine wpIn_wide.2 ?_
  go_upto_region 1 with fail
  rw [HW1.out]
  go_wp2_with fail
  refine (alive13_ok w1 HG.out).mono ?_; rintro e w2 ⟨rfl, hb2⟩
  have HG2 := Lib.hid (HG.out.below hb2 (Nat.le_refl _))
  have HB2 := Lib.hid hb2
  -- the box of the lists
  obtain ⟨w3, hw3⟩ : ∃ W, w2.alloc (.cells #[.slice none 0 0] 22) = W := ⟨_, rfl⟩
  have HW3 := Lib.hid hw3
  obtain ⟨oB, hoB⟩ : ∃ x, w2.heap.size = x := ⟨_, rfl⟩
  have HOB := Lib.hid hoB
  have hl0 : LenI w2 oB [] w3 := by
    rw [← hw3, ← hoB]
    exact ⟨(Below.refl _ _).alloc (Nat.le_refl _) _, by simp, _, Whole.new _ _ _, RowsOwn.nil _ _⟩
  have HL0 := Lib.hid hl0
  have HRO : Hid (w.heap.size < oB) := Lib.hid (by
    have h1 := HR.out.lt
    have h2 := hb2.size
    omega)
  clear hb2 HW1 hw3 hoB hl0
  go_upto_region 4 with fail
  obtain ⟨N, hN⟩ : ∃ N, K + 1 = N := ⟨_, rfl⟩
  obtain ⟨W, hW⟩ : ∃ W, M + 1 = W := ⟨_, rfl⟩
  rw [show (1 : Int) + (K : Int) = ((K + 1 : Nat) : Int) by omega, hN, show (1 : Int) + (M : Int) = ((M + 1 : Nat) : Int) by omega, hW]
  have HWN : Hid (1 ≤ W ∧ W ≤ 4 ∧ 1 ≤ N ∧ N ≤ 8) := Lib.hid (by omega)
  have w3' : (W : Int) ≤ 4 := by omega
  have w4 : (1 : Int) ≤ W := by omega
  have n3 : (N : Int) ≤ 8 := by omega
  have n4 : (1 : Int) ≤ N := by omega
  clear hW hN hM4 hMI hK8 hKI
  go_upto_region 5 with fail
  rw [HW3.out, HOB.out]
  go_wp2_with fail
  go_loopg [8] W (fun gh y wr => ∃ a, a ≤ W ∧ gh = W - a ∧ y = .int .i64 (a : Nat) ∧ LenI w2 oB (preA N W a 0) wr)
  case atStart => exact ⟨0, Nat.zero_le _, rfl, rfl, by rw [pre_zero]; exact HL0.out⟩
  case round =>
    obtain ⟨a, ha, rfl, rfl, hI⟩ := hrel
    have HI := Lib.hid hI
    by_cases haW : a < W
    · have t1 : decide (a < W) = true := decide_eq_true haW
      have t1' : decide ((a : Int) < W) = true := decide_eq_true (by omega)
      have a1 : (a : Int) < W := by omega
      have a2 : (0 : Int) ≤ a := by omega
      have HAW := Lib.hid haW
      clear hI haW
      go_wp2_with fail
      go_loopg [9] W (fun gh y wr => ∃ b, b ≤ W ∧ gh = W - b ∧ y = .int .i64 (b : Nat) ∧ LenI w2 oB (preA N W a b) wr)
      case atStart => exact ⟨0, Nat.zero_le _, rfl, rfl, HI.out⟩
      case round =>
        obtain ⟨b, hbW, rfl, rfl, hI2⟩ := hrel
        have b2' : (0 : Int) ≤ b := by omega
        by_cases hlt : b < W
        · have t2 : decide (b < W) = true := decide_eq_true hlt
          have t2' : decide ((b : Int) < W) = true := decide_eq_true (by omega)
          have b1' : (b : Int) < W := by omega
          have hmk := fun V => run_ints N (by have := HWN.out; omega) V
          have hAl : (altL N a b).length = N := alt_len N a b
          obtain ⟨wa, hwa⟩ : ∃ V, wr.alloc (.cells (madeCells #[.int .i64 0] N) 3) = V := ⟨_, rfl⟩
          have hNa : NumsI wr wr.heap.size (altL N a b) 0 wa := by rw [← hwa]; exact numsI_made _ _ _ hAl
          have HWA := Lib.hid hwa; have HNA := Lib.hid hNa; have HAL := Lib.hid hAl; have HLT := Lib.hid hlt; have HI2 := Lib.hid hI2
          clear hI2 hlt hwa hNa hAl
          go_upto_region 12 with fail
          rw [HWA.out]
          clear hmk
          obtain ⟨wi, hwi⟩ : ∃ x, x = wr := ⟨_, rfl⟩
          subst hwi
          go_wp2_with fail
          go_loopg [11] N (fun gh y wt => ∃ i, i ≤ N ∧ gh = N - i ∧ y = .int .i64 (i : Nat) ∧ NumsI wi wi.heap.size (altL N a b) i wt)
          case atStart => exact ⟨0, Nat.zero_le _, rfl, rfl, HNA.out⟩
          case round =>
            obtain ⟨i, hi, rfl, rfl, hN⟩ := hrel
            by_cases hiN : i < N
            · obtain ⟨⟨z, hz⟩, hf⟩ := hN.cell (s := i) (by rw [HAL.out]; exact hiN)
              have hval := alt_at hiN a b
              have t4 : decide (i < N) = true := decide_eq_true hiN
              have t4' : decide ((i : Int) < N) = true := decide_eq_true (by omega)
              have i1 : (i : Int) < N := by omega
              have i2 : (0 : Int) ≤ i := by omega
              have HIN := Lib.hid hiN
              by_cases ho : i % 2 = 1
              · have t5 : (i : Int) % 2 = 1 := by omega
                rw [if_pos ho] at hval
                have HP := Lib.hid (hN.put2 (y := a) (by rw [HAL.out]; exact hiN) hval)
                clear hN hiN hval ho
                go_wp2_with fail
                go_roundg (N - (i + 1))
                case rel => exact ⟨i + 1, HIN.out, rfl, by go_num, HP.out⟩
                case measure => have := HIN.out; omega
              · have t5 : (i : Int) % 2 = 0 := by omega
                rw [if_neg ho] at hval
                have HP := Lib.hid (hN.put (by rw [HAL.out]; exact hiN) hval)
                clear hN hiN hval ho
                go_wp2_with fail
                go_roundg (N - (i + 1))
                case rel => exact ⟨i + 1, HIN.out, rfl, by go_num, HP.out⟩
                case measure => have := HIN.out; omega
            · obtain rfl : i = N := by omega
              have t4 : decide (i < i) = false := by simp
              have hbw := hN.2.1
              have hNf : NumsI wi wi.heap.size (altL i a b) (altL i a b).length wr := by rw [HAL.out]; exact hN
              obtain ⟨g1, g2, vv, g3, g4⟩ := HI2.out.below hbw
              have hown3 := hNf.own (base := oB + 1) HI2.out.2.1 (by rw [HAL.out]; have := HWN.out; omega)
              obtain ⟨Ad, cd, rfl⟩ := g4.form
              obtain ⟨us, hus, hrs⟩ := g4
              have hCl : (preA i W a b).length ≤ 16 := by
                rw [pre_len]
                have h1 := Nat.mul_le_mul (show a ≤ 3 by have := HWN.out; have := HAW.out; omega) (show W ≤ 4 by have := HWN.out; omega)
                have := HWN.out; have := HLT.out; omega
              obtain ⟨z, hz⟩ : ∃ z, (preA i W a b).length = z := ⟨_, rfl⟩
              rw [hz] at hus hCl g3 
              have c3 : wr.cell? ⟨oB, 0, none⟩ = some (.slice Ad z cd) := g3.cell 0
              have HUS := Lib.hid hus; have HRS := Lib.hid hrs; have HO3 := Lib.hid hown3; have HZ := Lib.hid hz; have HG1 := Lib.hid g1; have HG3 := Lib.hid g3
              have hs4 : oB + 1 ≤ wr.heap.size := g2
              clear hN hbw hNf hown3 hus hrs hiN hz g1 g3
              go_wp2_with (at_builtin; refine wpList_app1g _ rfl _ _ 22 rfl (oB + 1) 44 j1 (.slice none 0 0) 24 Tryz.underlying22 hi1 ky0 ky1 ky2 rfl _ z _ rfl HUS.out _ rfl rfl (by omega) (by omega) hs4 ?_)
              intro A7 c7 w7 hown7 hgrow7
              have hb7 := hgrow7.below HUS.out HG1.out (Nat.le_succ _) hs4
              have hg7 : Whole w7 oB 22 #[.slice Ad z cd] := HG3.out.grown hgrow7.1 (fun e => by have := (HUS.out.lt oB e.symm).1; omega)
              have hro : RowsOwn w7 (oB + 1) (.slice A7 (z + 1) c7) (preA i W a b ++ [altL i a b]) := RowsOwn.more (by rw [HZ.out]; exact HUS.out) HRS.out (by have := HO3.out; rw [HAL.out] at this ⊢; exact this) (by rw [HZ.out]; exact hown7) hgrow7
              rw [← pre_snoc] at hro
              have k7 := hg7.cell 0
              have f7 := hg7.free 0
              have hl7 : LenI w2 oB (preA i W a (b + 1)) (w7.setCell ⟨oB, 0, none⟩ (.slice A7 (z + 1) c7)) := ⟨hb7.setCell (Nat.le_refl _) _, by simp; exact hg7.lt, _, hg7.put 0 _, hro.put hg7 (by decide) (by decide) _⟩
              have HL7 := Lib.hid hl7
              clear hown7 hgrow7 hb7 hro hg7 hl7
              go_wp2_with fail
              go_roundg (W - (b + 1))
              case rel => exact ⟨b + 1, HLT.out, rfl, by go_num, HL7.out⟩
              case measure => have := HLT.out; omega
        · obtain rfl : b = W := by omega
          have t2 : decide (b < b) = false := by simp
          rw [pre_next] at hI2
          have HI2 := Lib.hid hI2
          clear hI2 hlt
          go_wp2_with fail
          go_roundg (b - (a + 1))
          case rel => exact ⟨a + 1, HAW.out, rfl, by go_num, HI2.out⟩
          case measure => have := HAW.out; omega
    · obtain rfl : a = W := by omega
      have t1 : decide (a < a) = false := by simp
      obtain ⟨hw2, hw3', hn1, hn8⟩ := HWN.out
      obtain ⟨g1, g2, vv, g3, g4⟩ := hI
      obtain ⟨Ad, cd, rfl⟩ := g4.form
      have hCl : (preA N a a 0).length = a * a := by rw [pre_len]; omega
      obtain ⟨z, hz⟩ : ∃ z, a * a = z := ⟨_, rfl⟩
      have z16 : z ≤ 16 := by rw [← hz]; exact Nat.mul_le_mul hw3' hw3'
      have z1 : 1 ≤ z := by rw [← hz]; exact Nat.mul_le_mul hw2 hw2
      rw [hz] at hCl
      have hcd : z ≤ cd := by
        obtain ⟨us, hus, _⟩ := id g4
        rcases hus.2 with ⟨_, h⟩ | ⟨g, cap, cur, e, _, _, hc, _⟩
        · omega
        · injection e with e1 e2 e3
          omega
      have HCD := Lib.hid hcd
      rw [hCl] at g3
      have c3 : wr.cell? ⟨oB, 0, none⟩ = some (.slice Ad z cd) := g3.cell 0
      have hlen : ∀ l ∈ preA N a a 0, l.length = N := fun l hl => by
        obtain ⟨x, y, rfl, _⟩ := pre_mem hl
        exact alt_len _ _ _
      have hrng : ∀ l ∈ preA N a a 0, ∀ y ∈ l, 0 ≤ y ∧ y ≤ 2147483647 := fun l hl y hy => by
        obtain ⟨p, q, rfl, h⟩ := pre_mem hl
        have := alt_in (w := a) (by omega) (by omega) hy
        omega
      have hlv := g4.lists
      have OF := Lib.hid (of_any N (preA N a a 0) _ wr hn1 hn8 hlv (by omega) hlen hrng)
      rw [hCl] at OF hlv
      have hck := chk_at hn1 hn8 hw2 hw3'
      obtain ⟨wq, hwq⟩ : ∃ x, x = wr := ⟨_, rfl⟩
      subst hwq
      have HQ := Lib.hid (And.intro g1 g2); have HG3 := Lib.hid g3; have HLV := Lib.hid hlv; have HCL := Lib.hid hCl; have HCK := Lib.hid hck; have HZ := Lib.hid hz
      clear ha haW g1 g2 g3 g4 hcd hCl hlen hrng hlv hck hw2 hw3' hn1 hn8 hz HI
      go_wp2_with fail
      refine OF.out.mono ?_; rintro e w4 ⟨p, rfl, ho, hb4⟩
      have ho' : OdagC w4 p N (preA N a a 0) := ho
      have hbd : ∀ r i y, r + i + 1 = N → y ∈ rowP (preA N a a 0) i → cntP (preA N a a 0) r i y ≤ 9223372036854775807 := fun r i y e hy => by
        rw [show preA N a a 0 = allA N a from rfl] at hy ⊢
        rw [(tabs_of HCK.out).1 i (by omega)] at hy
        rw [cnt_allA HCK.out r i y (by omega) hy]
        exact Nat.le_trans (pow_le8 (by have := HWN.out; omega) HWN.out.2.1 HWN.out.1) (by decide)
      have htot := tot_allA HCK.out HWN.out.2.2.1
      have hpw := pow_le8 HWN.out.2.2.2 HWN.out.2.1 HWN.out.1
      have CN := count_any ho' HWN.out.2.2.1 HWN.out.2.2.2 (by rw [HCL.out]; omega) hbd (by rw [show preA N a a 0 = allA N a from rfl, htot]; omega)
      rw [show preA N a a 0 = allA N a from rfl, htot] at CN
      obtain ⟨T, hT⟩ : ∃ T, a ^ N = T := ⟨_, rfl⟩
      rw [hT] at CN hpw
      have HT := Lib.hid hT
      have HO := Lib.hid ho'; have HB4 := Lib.hid hb4; have HCN := Lib.hid CN; have HPW := Lib.hid hpw
      obtain ⟨ob, _, _, rfl, _⟩ := ho
      clear ho' hb4 CN htot hbd OF hT
      go_wp2_with fail
      refine HCN.out.mono ?_; rintro e w5 ⟨rfl, hb5⟩
      have HB5 := Lib.hid hb5
      clear hb5
      go_wp2_with fail
      go_loopg [16, 17] N (fun gh x y wr => ∃ i, i ≤ N ∧ gh = N - i ∧ x = .int .i64 ((a ^ i : Nat) : Int) ∧ y = .int .i64 (i : Nat) ∧ Below w5.heap.size w5 wr)
      case atStart => exact ⟨0, Nat.zero_le _, rfl, by simp, rfl, Below.refl _ _⟩
      case round =>
        obtain ⟨i, hi, rfl, rfl, rfl, hbr⟩ := hrel
        have HBR := Lib.hid hbr
        clear hbr
        have hq := pow_le8 (n := i) (by have := HWN.out; omega) HWN.out.2.1 HWN.out.1
        by_cases hiN : i < N
        · obtain ⟨q, hqe⟩ : ∃ q, a ^ i = q := ⟨_, rfl⟩
          obtain ⟨q2, hqe2⟩ : ∃ q, a ^ (i + 1) = q := ⟨_, rfl⟩
          have hqs : q * a = q2 := by rw [← hqe, ← hqe2, Nat.pow_succ]
          have hq2 := pow_le8 (n := i + 1) (by have := HWN.out; omega) HWN.out.2.1 HWN.out.1
          rw [hqe] at hq ⊢
          rw [hqe2] at hq2
          have hqI : (q : Int) * (a : Int) = (q2 : Int) := by rw [← hqs]; simp
          have t4 : decide (i < N) = true := decide_eq_true hiN
          have t4' : decide ((i : Int) < N) = true := decide_eq_true (by omega)
          have i1 : (i : Int) < N := by omega
          have i2 : (0 : Int) ≤ i := by omega
          have k1 : (q2 : Int) ≤ 65536 := by omega
          have k2 : (0 : Int) ≤ q2 := by omega
          have HIN := Lib.hid hiN; have HQE := Lib.hid hqe2
          clear hiN hqe hqe2 hqs hi
          go_wp2_with fail
          go_roundg (N - (i + 1))
          case rel => exact ⟨i + 1, HIN.out, rfl, by rw [HQE.out], by go_num, HBR.out⟩
          case measure => have := HIN.out; omega
        · obtain rfl : i = N := by omega
          have t4 : decide (i < i) = false := by simp
          rw [HT.out]
          obtain ⟨w6, hw6⟩ : ∃ x, x = wr := ⟨_, rfl⟩
          subst hw6
          have OF := Lib.hid (of_any i [] (.slice none 0 0) w6 HWN.out.2.2.1 HWN.out.2.2.2 (RowsOwn.nil _ 0).lists (by simp) (by simp) (by simp))
          clear hiN hi hq
          go_wp2_with fail
          refine OF.out.mono ?_; rintro e w7 ⟨p7, rfl, ho, hb7⟩
          have ho' : OdagC w7 p7 i [] := ho
          have CN := Lib.hid (count_any ho' HWN.out.2.2.1 HWN.out.2.2.2 (by simp) (fun r j y _ hy => by simp [rowP, ofR] at hy) (by simp [rowP, ofR]))
          have HO7 := Lib.hid ho'; have HB7 := Lib.hid hb7
          obtain ⟨ob7, _, _, rfl, _⟩ := ho
          clear ho' hb7 OF
          go_wp2_with fail
          refine CN.out.mono ?_; rintro e w8 ⟨rfl, hb8⟩
          rw [show ((rowP [] 0).map (cntP [] (i - 1) 0)).sum = 0 from rfl]
          have HB8 := Lib.hid hb8
          have b48 : Below wq.heap.size wq w8 := HB4.out.trans ((HB5.out.trans ((HBR.out.trans ((HB7.out.trans (hb8.mono HB7.out.size)).mono HBR.out.size)).mono HB5.out.size)).mono HB4.out.size)
          have HB48 := Lib.hid b48
          have c38 : w8.cell? ⟨oB, 0, none⟩ = some (.slice Ad z cd) := (b48.cell (p := ⟨oB, 0, none⟩) HQ.out.2).trans (HG3.out.cell 0)
          have LV := HLV.out.below b48 (Nat.le_refl _)
          obtain ⟨g0, o0, u0, e0, c0, k0⟩ := LV.pos (i := 0) (by rw [HCL.out]; omega)
          obtain ⟨hcl0, e1⟩ := List.getElem?_eq_some_iff.1 (pre_first (n := i) HWN.out.1 HWN.out.2.1)
          rw [e1] at k0
          subst e0
          have LV1 : ListsV w8 (.slice (some ⟨g0, o0, none⟩) 1 cd) [altL i 0 0] := ⟨[u0], rfl, fun j x L hx hL => by
            cases j with
            | zero => simp at hx hL; subst hx hL; exact k0
            | succ j => simp at hx, Or.inr ⟨by simp, g0, o0, cd, rfl, fun j hj => by
              obtain rfl : j = 0 := by simpa using hj
              exact c0⟩⟩
          have OF := Lib.hid (of_any i [altL i 0 0] _ w8 HWN.out.2.2.1 HWN.out.2.2.2 LV1 (by simp) (fun l hl => by rw [List.mem_singleton.1 hl]; exact alt_len _ _ _) (fun l hl y hy => by rw [List.mem_singleton.1 hl] at hy; have := alt_in (w := 1) (x := 0) (y := 0) (by omega) (by omega) hy; omega))
          have hcd := HCD.out
          have d1 : (1 : Int) ≤ cd := by omega
          have d2 : (1 : Int) ≤ z := by omega
          have d3 : 1 ≤ cd := by omega
          have HK0 := Lib.hid k0; have HC0 := Lib.hid c0; have HC38 := Lib.hid c38
          clear hb8 b48 LV c0 k0 hcl0 e1 LV1 hcd CN
          go_wp2_with fail
          refine OF.out.mono ?_; rintro e w9 ⟨p9, rfl, ho, hb9⟩
          have ho' : OdagC w9 p9 i [altL i 0 0] := ho
          have HO9 := Lib.hid ho'; have HB9 := Lib.hid hb9
          obtain ⟨ob9, _, _, rfl, _⟩ := ho
          clear ho' hb9 OF
          obtain ⟨w10, hw10⟩ : ∃ X, w9.alloc (.cells #[.int .i64 0] 3) = X := ⟨_, rfl⟩
          obtain ⟨kB, hkB⟩ : ∃ x, w9.heap.size = x := ⟨_, rfl⟩
          have HW10 := Lib.hid hw10; have HKB := Lib.hid hkB
          clear hw10 hkB
          go_upto_region 30 with fail
          rw [HW10.out, HKB.out]
          go_wp2_with fail
          refine (paths_make _ _).mono ?_; rintro e w11 ⟨rfl, hw11⟩
          have hs10 : w10.heap.size = kB + 1 := by rw [← HW10.out, ← HKB.out]; simp
          have hs11 : w11.heap.size = kB + 2 := by rw [hw11]; simp [hs10]
          have b10 : Below w9.heap.size w9 w10 := by rw [← HW10.out]; exact (Below.refl _ _).alloc (Nat.le_refl _) _
          have b11 : Below w10.heap.size w10 w11 := by rw [hw11]; exact (Below.refl _ _).alloc (Nat.le_refl _) _
          have hk10 : Whole w10 kB 3 #[.int .i64 0] := by rw [← HW10.out, ← HKB.out]; exact Whole.new _ _ _
          have b911 : Below w9.heap.size w9 w11 := b10.trans (b11.mono b10.size)
          have cBo : w11.cell? ⟨w10.heap.size, 0, none⟩ = some (.pointer (some ⟨ob9, 0, none⟩)) := by rw [hw11]; simp
          have b8kB : w8.heap.size ≤ kB := by rw [← HKB.out]; exact HB9.out.size
          have b810 : Below w8.heap.size w8 w10 := HB9.out.trans (b10.mono HB9.out.size)
          have holt : oB < kB := by
            have h1 := HQ.out.2
            have h2 := HB48.out.size
            omega
          obtain ⟨LL, hLL⟩ : ∃ LL : Nat → List Int, LL = fun j => (allP i [altL i 0 0]).getD j [] := ⟨_, rfl⟩
          have ha1 := (chk1_at HWN.out.2.2.1 HWN.out.2.2.2).1
          have hLL0 : ∀ j, j < 1 → LL j = altL i 0 0 := fun j hj => by
            obtain rfl : j = 0 := by omega
            rw [hLL, ha1]; rfl
          have HIT := Lib.hid (paths_iter HO9.out b911.block b911.size HWN.out.2.2.1 HWN.out.2.2.2 (by simp) cBo)
          rw [← hLL, ha1, show ([altL i 0 0] : List (List Int)).length = 1 from rfl] at HIT
          have h0 : CntF w10 kB (fun j => j) (fun _ => False) 0 w11 := ⟨grown_of_below b11 _, hk10.below b11 hk10.lt⟩
          have HLL := Lib.hid hLL0; have H0 := Lib.hid h0; have HS := Lib.hid (And.intro hs10 hs11); have HB8K := Lib.hid b8kB; have HB810 := Lib.hid b810; have HOL := Lib.hid holt; have HB911 := Lib.hid b911; have HB11 := Lib.hid b11
          clear hw11 hs10 hs11 b10 b11 hk10 b911 cBo b8kB b810 holt hLL ha1 hLL0 h0
          go_wp2_with fail
          refine range_ways (gf := 37) (lb := #[.pointer (some ⟨w10.heap.size, 0, none⟩)]) rfl (enters_of Tryz.func37 (by kernel_rfl) rfl) HIT.out (fun b hb => by have := HS.out; have := HKB.out; rcases hb with h | h <;> omega) rfl
            (fun G k W => CntF w10 kB (fun j => j) G k W) (fun _ _ _ _ => False)
            (fun G k A A' row hG hrow h hg => h.grown (by have := HS.out; omega) (by have := HS.out; omega) hG hrow hg) (fun _ _ _ _ _ _ _ _ h _ => h) (fun _ _ _ _ _ _ h => h) H0.out ?a1 ?assign ?body ?done ?stop
          case assign =>
            intro l v W K hK
            gi_wp2
            exact hK
          case stop =>
            rintro c G k W _ _ _ h _
            exact h.elim
          case body => as_aux_lemma =>
            rintro l G j v W hG hj hcnt hsz hrow hvG
            obtain rfl : j = 0 := by omega
            have hcg := hcnt.1
            have hss := HS.out
            have NX := fun (W4 : World) (a : Act) (h4 : W.grownBy W4 (some kB)) (hk4 : Whole W4 kB 3 #[.int .i64 ((0 + 1 : Nat) : Int)]) => hcnt.round (Cp := fun b => b < w9.heap.size ∨ b = w10.heap.size) (by omega) (fun b hb => hG b hb) (fun b hb => by have := HKB.out; rcases hb with h | h <;> omega) hsz h4 hk4 a _ rfl
            have k1 : ∀ b, b < kB → W.heap[b]? = w10.heap[b]? := fun b hb => hcg.block b (by omega) (by simp; omega)
            have k8 : ∀ b, b < w8.heap.size → W.heap[b]? = w8.heap[b]? := fun b hb => (k1 b (by have := HB8K.out; omega)).trans (HB810.out.block b hb)
            have s8 : w8.heap.size ≤ W.heap.size := by have := HB8K.out; omega
            have olt : oB < w8.heap.size := World.block_lt_of_cell? _ _ HC38.out
            have glt : g0 < w8.heap.size := World.block_lt_of_cell? _ _ HC0.out
            have co : W.cell? ⟨oB, 0, none⟩ = some (.slice (some ⟨g0, o0, none⟩) z cd) := (World.cell?_of_block (a := ⟨oB, 0, none⟩) (k8 oB olt)).trans HC38.out
            have cg : W.cell? ⟨g0, o0 + 0, none⟩ = some u0 := (World.cell?_of_block (a := ⟨g0, o0 + 0, none⟩) (k8 g0 glt)).trans HC0.out
            have cg' : W.cell? ⟨g0, o0, none⟩ = some u0 := cg
            have ku : SeqC W u0 (altL i 0 0) := seqC_heap (SeqC.below HK0.out (worldOf_below k8 s8) (Nat.le_refl _))
            rw [HLL.out 0 (by omega)] at hrow
            have kv := own_seqC hrow
            have SD := same_dec kv.1 ku.1 (by rw [alt_len]; have := HWN.out; omega)
            rw [decide_eq_true (show altL i 0 0 = altL i 0 0 from rfl)] at SD
            have hwk := hcnt.2
            have HSD := Lib.hid SD; have HNX := Lib.hid NX; have HWK := Lib.hid hwk
            obtain ⟨_, A1, x1, e1, _⟩ := kv
            obtain ⟨_, A2, x2, e2, _⟩ := ku
            subst e1 e2
            have hz0 : (0 : Int) < z := by omega
            clear hG hsz hrow hvG NX SD hcnt hcg hss k1 k8 s8 olt glt hwk hj
            gi_wp2_with fail
            refine ⟨trivial, ?_⟩
            refine (CallsIn.inRound l (callsIn_wide.2 HSD.out)).mono ?_
            rintro e W5 ⟨rfl, hb5⟩
            have hwk5 := HWK.out.below hb5 HWK.out.lt
            have ck5 : W5.cell? ⟨kB, 0, none⟩ = some (.int .i64 0) := hwk5.cell 0
            have fk5 := hwk5.free 0
            have HN := Lib.hid (fun a => HNX.out _ a (grown_trans (grown_of_below hb5 _) (grown_set W5 kB (.int .i64 1))) (hwk5.put 0 (.int .i64 1)))
            clear hb5 hwk5 co cg cg'
            gi_wp2_with fail
            exact HN.out _
          case done =>
            rintro G1 X1 hG1 ⟨hgr1, hk1⟩ hD1
            have hss := HS.out
            have Bk : Below kB w10 X1 := ⟨hgr1.os, hgr1.tape, hgr1.output, hgr1.size, fun b hb => hgr1.block b (by omega) (by simp; omega)⟩
            have B8X : Below w8.heap.size w8 X1 := HB810.out.trans (Bk.mono HB8K.out)
            have B48' : Below w4.heap.size w4 w8 := HB5.out.trans ((HBR.out.trans ((HB7.out.trans (HB8.out.mono HB7.out.size)).mono HBR.out.size)).mono HB5.out.size)
            have s48 := B48'.size
            have C0 := cost_any (HO7.out.below (HB8.out.trans (B8X.mono HB8.out.size)) (Nat.le_refl _)) HWN.out.2.2.2 (by simp)
            rw [(chk1_at HWN.out.2.2.1 HWN.out.2.2.2).2] at C0
            have C1 := cost_any (HO.out.below (B48'.trans (B8X.mono s48)) (Nat.le_refl _)) HWN.out.2.2.2 (by rw [HCL.out]; omega)
            rw [show preA i a a 0 = allA i a from rfl, (tabs_of HCK.out).2.2] at C1
            obtain ⟨q1, hq1⟩ : ∃ q, i * a = q := ⟨_, rfl⟩
            obtain ⟨q2, hq2⟩ : ∃ q, (i - 1) * a = q := ⟨_, rfl⟩
            obtain ⟨q3, hq3⟩ : ∃ q, q2 * a = q := ⟨_, rfl⟩
            rw [hq1, hq2, hq3] at C1
            obtain ⟨Q, hQ⟩ : ∃ Q, q1 + q3 = Q := ⟨_, rfl⟩
            rw [hQ] at C1
            have m1 : q1 ≤ 32 := by rw [← hq1]; exact Nat.mul_le_mul HWN.out.2.2.2 HWN.out.2.1
            have m2 : q2 ≤ 28 := by rw [← hq2]; exact Nat.mul_le_mul (show i - 1 ≤ 7 by have := HWN.out; omega) HWN.out.2.1
            have m3 : q3 ≤ 112 := by rw [← hq3]; exact Nat.mul_le_mul m2 HWN.out.2.1
            have e1 : (i : Int) * (a : Int) = (q1 : Int) := by rw [← hq1]; simp
            have e2 : ((i : Int) - 1) * (a : Int) = (q2 : Int) := by rw [← hq2, Int.natCast_mul]; congr 1; omega
            have e3 : (q2 : Int) * (a : Int) = (q3 : Int) := by rw [← hq3]; simp
            have e4 : (q1 : Int) + (q3 : Int) = (Q : Int) := by omega
            have e5 : ((Q : Int) == Q) = true := by simp
            have e6 : ((T : Int) == T) = true := by simp
            have hrb := (((HR.out.below HB2.out HR.out.lt).below HQ.out.1 HRO.out).below HB48.out (Nat.lt_of_lt_of_le HRO.out (Nat.le_of_lt HQ.out.2))).below B8X (Nat.lt_of_lt_of_le (Nat.lt_trans HRO.out HQ.out.2) HB48.out.size)
            have hbf : Below w.heap.size w X1 := (((HB0.out.trans (HB2.out.mono HB0.out.size)).trans (HQ.out.1.mono (Nat.le_of_lt HRO.out))).trans (HB48.out.mono (Nat.le_of_lt (Nat.lt_trans HRO.out HQ.out.2)))).trans (B8X.mono (Nat.le_of_lt (Nat.lt_of_lt_of_le (Nat.lt_trans HRO.out HQ.out.2) HB48.out.size)))
            have ck : X1.cell? ⟨kB, 0, none⟩ = some (.int .i64 1) := hk1.cell 0
            have cr : X1.cell? ⟨w.heap.size, 0, none⟩ = some (.bool false) := hrb.cell 0
            have fr := hrb.free 0
            have hne : w11.heap.size ≠ w.heap.size := by have := HRO.out; have := HOL.out; omega
            have HC0' := Lib.hid C0; have HC1' := Lib.hid C1; have HRB := Lib.hid hrb; have HBF := Lib.hid hbf; have HD1 := Lib.hid hD1; have HNE := Lib.hid hne
            have m1' : (q1 : Int) ≤ 32 := by omega
            have m2' : (q2 : Int) ≤ 28 := by omega
            have m3' : (q3 : Int) ≤ 112 := by omega
            clear hG1 hgr1 hk1 hD1 hss Bk B8X B48' s48 C0 C1 hq1 hq2 hq3 hQ m1 m2 m3 hrb hbf hne
            go_wp2_with fail
            refine HC0'.out.mono ?_; rintro e W6 ⟨rfl, rfl⟩
            go_wp2_with fail
            refine HC1'.out.mono ?_; rintro e W7 ⟨rfl, rfl⟩
            go_wp2_with fail
            have k2 := HRB.out.put 0 (.bool true)
            have k3 := HBF.out.setCell (p := ⟨w.heap.size, 0, none⟩) (Nat.le_refl _) (.bool true)
            refine ⟨by simp, .inl ⟨_, _, rfl, run_takeDeferred ((Below.heap_setCell _ _ _ _ HNE.out).trans HD1.out), ?_⟩⟩
            have gg := k2.grown (grownBy_putObj' _ w11.heap.size (.deferred none)) (by have := HNE.out; simp; omega)
            exact ⟨_, results_bool rfl _ _ _ _ rfl gg, rfl, k3.grown (grownBy_putObj' _ w11.heap.size (.deferred none)) k3.size (fun j hj => by cases hj; have := HRO.out; have := HOL.out; have := HS.out; omega)⟩
end
end Go.Proofs.YtcmocigckcjdjaaGreatDoor
