/- rank: the function that walks along the paths of a part: its contract. Written by gen_ewalk14.py. rank: Each: the function that it hands over, as an iterator. Lists compared: the document's Compare, by contract. rank: parts: Each in one form; paths rise. -/
import Derived.Test.YtgphdngfbcjmcaaGreatDoorJW
import Derived.Test.YtgphdngfbcjmcaaGreatDoorJK
import Derived.Test.YtgphdngfbcjmcaaGreatDoorRows1
import Derived.Deep.CutBlock
import Derived.Deep.DeepCutAuto
import Derived.RegionIn
import Derived.TacticsInMore
import Derived.OwnWalkIn
import Derived.Test.YtgphdngfbcjmcaaGreatDoorEach14
import Derived.Deep.RegionWith
import Derived.Test.YtgphdngfbcjmcaaGreatDoorSeq
import Derived.Deep.QuietTactic
import Derived.BigQuiet
import Derived.WalkSmall
namespace Go.Proofs.YtgphdngfbcjmcaaGreatDoor
section
open Go.RowKit
attribute [local go_sem] Oper.semAt_some
attribute [local go_sem ↓] app_alias

theorem SeqV.heap {Wo A : World} {v : Value} {L : List Int} (h : SeqV Wo v L) (hb : ∀ b, b < Wo.heap.size → A.heap[b]? = Wo.heap[b]?) (hs : Wo.heap.size ≤ A.heap.size) : SeqV A v L := by
  have k := SeqV.below h (worldOf_below hb hs) (Nat.le_refl _)
  exact k
/-- What the walk is made with. -/
structure RSet (Wo W1 : World) (rb n : Nat) (C : List (List Int)) (Cp : Nat → Prop) (B pb ob yb wb l : Nat) : Prop where
  rk : ∀ j, j < n → RkLev Wo rb n C j
  few : C.length ≤ 100000
  len : n ≤ 8
  cp : ∀ b, b < Wo.heap.size → Cp b
  cpo : Cp ob
  old : Wo.heap.size ≤ B
  obl : ob < B
  pb0 : B ≤ pb
  pb1 : pb < W1.heap.size
  yb0 : B ≤ yb
  wb0 : B ≤ wb
  ybp : yb ≠ pb
  wbp : wb ≠ pb
  same : ∀ b, b < Wo.heap.size → W1.heap[b]? = Wo.heap[b]?
  os : Wo.heap.size ≤ W1.heap.size
  cO : W1.cell? ⟨ob, 0, none⟩ = some (.pointer (some ⟨rb, 0, none⟩))
  cY : W1.cell? ⟨yb, 0, none⟩ = some (.func (.yield l) #[] #[])
  cW : W1.cell? ⟨wb, 0, none⟩ = some (.func (.func 37) #[] #[.pointer (some ⟨pb, 0, none⟩), .pointer (some ⟨ob, 0, none⟩), .pointer (some ⟨yb, 0, none⟩), .pointer (some ⟨wb, 0, none⟩)])
section
variable {Wo W1 A : World} {v : Value} {rb n q : Nat} {C : List (List Int)} {Cp G : Nat → Prop} {B pb ob yb wb l : Nat} {J : (Nat → Prop) → Nat → World → Prop} {pre : List Int}
theorem RSet.blk (_h : RSet Wo W1 rb n C Cp B pb ob yb wb l) (k : WayAt J Cp B W1 pb G q v pre A) {b : Nat} (hb : b < W1.heap.size) (hp : b ≠ pb) (hc : B ≤ b ∨ Cp b) {x : Value} (hx : W1.cell? ⟨b, 0, none⟩ = some x) : A.cell? ⟨b, 0, none⟩ = some x :=
  (World.cell?_of_block (a := ⟨b, 0, none⟩) (k.kept b hb hp hc)).trans hx
theorem RSet.heap (h : RSet Wo W1 rb n C Cp B pb ob yb wb l) (k : WayAt J Cp B W1 pb G q v pre A) : (∀ b, b < Wo.heap.size → A.heap[b]? = Wo.heap[b]?) ∧ Wo.heap.size ≤ A.heap.size :=
  ⟨fun b hb => (k.kept b (Nat.lt_of_lt_of_le hb h.os) (by have := h.pb0; have := h.old; omega) (Or.inr (h.cp b hb))).trans (h.same b hb), Nat.le_trans h.os k.size⟩
/-- What it reads. -/
theorem RSet.read (h : RSet Wo W1 rb n C Cp B pb ob yb wb l) (k : WayAt J Cp B W1 pb G q v pre A) :
    A.cell? ⟨ob, 0, none⟩ = some (.pointer (some ⟨rb, 0, none⟩)) ∧ A.cell? ⟨yb, 0, none⟩ = some (.func (.yield l) #[] #[]) ∧ A.cell? ⟨wb, 0, none⟩ = some (.func (.func 37) #[] #[.pointer (some ⟨pb, 0, none⟩), .pointer (some ⟨ob, 0, none⟩), .pointer (some ⟨yb, 0, none⟩), .pointer (some ⟨wb, 0, none⟩)]) := by
  exact ⟨h.blk k (b := ob) (World.block_lt_of_cell? _ _ h.cO) (by have := h.obl; have := h.pb0; omega) (Or.inr h.cpo) h.cO, h.blk k (b := yb) (World.block_lt_of_cell? _ _ h.cY) h.ybp (Or.inl h.yb0) h.cY,
    h.blk k (b := wb) (World.block_lt_of_cell? _ _ h.cW) h.wbp (Or.inl h.wb0) h.cW⟩
/-- What a place's branches are, in a later world. -/
theorem RSet.beh (h : RSet Wo W1 rb n C Cp B pb ob yb wb l) (k : WayAt J Cp B W1 pb G q v pre A) {i : Nat} (hi : i < n) {a : Int} (ha : a ∈ rowP C i) :
    Calls Tryz.prog 34 #[.pointer (some ⟨rb, 0, none⟩), .int .i64 i, .int .i64 a] A fun e w' => ∃ tt ends, e = .returned (.agg #[tt, ends]) ∧ SeqV Wo tt (nxt n C i a) ∧ SeqV Wo ends (nxE n C i a) ∧ Below A.heap.size A w' := by
  obtain ⟨h1, h2⟩ := h.heap k
  have k0 : RkLev (worldOf A Wo) rb n C i := h.rk i hi
  have kb : Below (worldOf A Wo).heap.size (worldOf A Wo) A := ⟨rfl, rfl, rfl, h2, h1⟩
  exact behind_from k0 kb hi h.few ha
end

/-- What the walk ends in. -/
def EWTo (J Jx : (Nat → Prop) → Nat → World → Prop) (Cp : Nat → Prop) (B : Nat) (W1 : World) (pb N : Nat) (X : Nat → Prop) (R : World) (q : Nat) (pre : List Int) (e : Ending) (w' : World) : Prop :=
  (e = .returned (.bool true) ∧ ∃ G v, WayK J Cp B W1 pb X R G q v pre w') ∨ (e = .returned (.bool false) ∧ ∃ G k, (∀ b, G b → B ≤ b) ∧ 0 < k ∧ k ≤ N ∧ Jx G k w')
/-- What a round ends in. -/
def EWCut (J Jx : (Nat → Prop) → Nat → World → Prop) (Cp : Nat → Prop) (B : Nat) (W1 : World) (pb N : Nat) (X : Nat → Prop) (R : World) (q : Nat) (pre : List Int) (x : Value) (w' : World) : Prop :=
  (x = .bool true ∧ ∃ G v, WayK J Cp B W1 pb X R G q v pre w') ∨ (x = .bool false ∧ ∃ G k, (∀ b, G b → B ≤ b) ∧ 0 < k ∧ k ≤ N ∧ Jx G k w')
theorem cell_drewK {w w' : World} {p : Addr} {v : Value} (h : w.cell? p = some v) (hb : Below w.drew.heap.size w.drew w') : w'.cell? p = some v :=
  (hb.cell (p := p) (World.block_lt_of_cell? w p h)).trans h
theorem cell_belowK {w w' : World} {p : Addr} {v : Value} (h : w.cell? p = some v) (hb : Below w.heap.size w w') : w'.cell? p = some v :=
  (hb.cell (p := p) (World.block_lt_of_cell? _ _ h)).trans h
theorem ew_low {M k s : Nat} {f : Int} (h : -((M : Int) * k) ≤ f) (hs : s ≤ M) : -((M : Int) * (k + 1 : Nat)) ≤ f - s := by
  have hm1 : (M : Int) * (k + 1 : Nat) = M * k + M := by rw [show ((k + 1 : Nat) : Int) = (k : Int) + 1 by omega, Int.mul_add, Int.mul_one]
  omega
theorem ew_high {M s : Nat} {f : Int} (h : f ≤ M) : f - s ≤ M := by omega
theorem ew_pos {s : Nat} {t : Int} (h : (s : Int) < t) : 0 < t - s := by omega
theorem ew_cnt {x y s c M : Nat} (h : x = s + c) (h2 : x ≤ y) (h3 : y ≤ M) : c ≤ M := by omega
theorem ew_wrap {a : Int} {s M : Nat} (h0 : -8000000000000000000 ≤ a) (h1 : a ≤ 1000000000000000000) (hs : s ≤ M) (hM : M ≤ 1000000000000000000) : IntKind.i64.wrap (a - (s : Int)) = a - s := by rw [IntKind.wrap_i64]; omega
/-- Ahead of the j-th number. -/
def EWLoop (J : (Nat → Prop) → Nat → World → Prop) (Cp : Nat → Prop) (B : Nat) (W1 : World) (pb : Nat) (X : Nat → Prop) (R : World) (q : Nat) (pre : List Int) (w' : World) : Prop := ∃ G v, WayK J Cp B W1 pb X R G q v pre w'
theorem len_of_eqK {Ap : Option Addr} {pre : List Int} {k c : Nat} (h : pre.length = k) : Value.slice Ap pre.length c = .slice Ap k c := by rw [h]

set_option maxRecDepth 100000 in
set_option maxHeartbeats 4000000 in
theorem ewalk_one {Wo W1 : World} {rb n N M : Nat} {C : List (List Int)} {Cp : Nat → Prop} {B pb ob yb wb l : Nat} {LL : Nat → List Int} {J Jx : (Nat → Prop) → Nat → World → Prop}
    (hS : RSet Wo W1 rb n C Cp B pb ob yb wb l) (hJ : StaysW J B) (hT : TakesW J B) (hY : RoundW Tryz.prog Cp 3 N LL l J Jx B) (hM : M ≤ 1000000000000000000) (k : Nat) (hk : k < n)
    (IH : k + 1 < n → ∀ (X : Nat → Prop) (R : World) (pre L : List Int) (tt ends v : Value) (f t : Int) (G : Nat → Prop) (q : Nat) (A : World), pre.length = k + 1 → L.length ≤ 100000 → (∀ a ∈ L, a ∈ rowP C (k + 1)) → SeqV Wo tt L → SeqV Wo ends (endsL (cntP C (n - 1 - (k + 1)) (k + 1)) L) →
      (L.map (cntP C (n - 1 - (k + 1)) (k + 1))).sum ≤ M → -((M : Int) * (k + 1 : Nat)) ≤ f → f ≤ M → 0 < t → t ≤ M → WayK J Cp B W1 pb X R G q v pre A →
      (∀ i Y, (cutZ (subP n C (k + 1) L) f t)[i]? = some Y → q + i < N ∧ LL (q + i) = pre ++ Y) →
      Calls Tryz.prog 37 #[.agg #[tt, ends], .int .i64 f, .int .i64 t, .pointer (some ⟨pb, 0, none⟩), .pointer (some ⟨ob, 0, none⟩), .pointer (some ⟨yb, 0, none⟩), .pointer (some ⟨wb, 0, none⟩)] A
        (EWTo J Jx Cp B W1 pb N X R (q + (cutZ (subP n C (k + 1) L) f t).length) pre))
    (X : Nat → Prop) (R : World) (pre L : List Int) (tt ends v : Value) (f t : Int) (G : Nat → Prop) (q : Nat) (A : World) (hp : pre.length = k) (hLl : L.length ≤ 100000) (hLr : ∀ a ∈ L, a ∈ rowP C k) (htt : SeqV Wo tt L) (hen : SeqV Wo ends (endsL (cntP C (n - 1 - k) k) L))
      (hsum : (L.map (cntP C (n - 1 - k) k)).sum ≤ M) (hf0 : -((M : Int) * k) ≤ f) (hf1 : f ≤ M) (ht0 : 0 < t) (ht1 : t ≤ M) (hA : WayK J Cp B W1 pb X R G q v pre A)
    (hL : ∀ i Y, (cutZ (subP n C k L) f t)[i]? = some Y → q + i < N ∧ LL (q + i) = pre ++ Y) :
      Calls Tryz.prog 37 #[.agg #[tt, ends], .int .i64 f, .int .i64 t, .pointer (some ⟨pb, 0, none⟩), .pointer (some ⟨ob, 0, none⟩), .pointer (some ⟨yb, 0, none⟩), .pointer (some ⟨wb, 0, none⟩)] A
        (EWTo J Jx Cp B W1 pb N X R (q + (cutZ (subP n C k L) f t).length) pre) := by
  obtain ⟨i0, hi0, hz0, hz1, hz2⟩ := info_parts Tryz.infoInt6
  obtain ⟨At, ct, rfl⟩ := IntsV.form htt
  obtain ⟨Ae, ce, rfl⟩ := IntsV.form hen
  obtain ⟨m, hm⟩ : ∃ m, L.length = m := ⟨_, rfl⟩
  have hen' := hen
  rw [endsL_len] at hen
  obtain ⟨z, hz⟩ : ∃ z : Bool, ((k : Int) == (n : Int) - 1) = z := ⟨_, rfl⟩
  have hzk : z = true ↔ k + 1 = n := by rw [← hz, beq_iff_eq]; omega
  -- the box of the branch
  obtain ⟨A1, hA1⟩ : ∃ x, A.alloc (.cells #[.slice At L.length ct, .slice Ae (endsL (cntP C (n - 1 - k) k) L).length ce] 65) = x := ⟨_, rfl⟩
  have hbx := hA.box hJ hT hS.pb0 hS.pb1 (.cells #[.slice At L.length ct, .slice Ae (endsL (cntP C (n - 1 - k) k) L).length ce] 65)
  have hwb : Whole A1 A.heap.size 65 #[.slice At L.length ct, .slice Ae (endsL (cntP C (n - 1 - k) k) L).length ce] := by rw [← hA1]; exact Whole.new _ _ _
  have hXR : ∀ b, X b → (X b ∨ b = A.heap.size) ∧ A1.heap[b]? = R.heap[b]? := fun b hb => ⟨Or.inl hb, by
    rw [← hA1, Below.heap_alloc A _ b (hA.way.bound b (hA.lev b hb).1).2]; exact (hA.lev b hb).2.1⟩
  rw [hA1] at hbx
  obtain ⟨bb, hbb⟩ : ∃ x, A.heap.size = x := ⟨_, rfl⟩
  rw [hbb] at hbx hwb hXR
  obtain ⟨X1, hX1⟩ : ∃ X1, X1 = fun b => X b ∨ b = bb := ⟨_, rfl⟩
  rw [← hX1] at hbx
  have hX2 : ∀ b, X b → X1 b ∧ A1.heap[b]? = R.heap[b]? := fun b hb => by rw [hX1]; exact hXR b hb
  have hX3 : X1 bb := by rw [hX1]; exact Or.inr rfl
  rw [endsL_len, hm] at hA1 hwb
  rw [hm] at htt hen
  have hAv := hbx.way
  obtain ⟨Ap, cp, rfl⟩ := own_form hAv.own
  rw [len_of_eqK hp] at hbx
  have cpb : A1.cell? ⟨pb, 0, none⟩ = some (.slice Ap k cp) := hbx.way.box.cell 0
  have cb1 : A1.cell? ⟨bb, 1, none⟩ = some (.slice Ae m ce) := hwb.cell 1
  have hMk : (M : Int) * k ≤ M * 8 := Int.mul_le_mul_of_nonneg_left (by have := hS.len; omega) (by omega)
  have hfl : -8000000000000000000 ≤ f := by omega
  have hfu : f ≤ 1000000000000000000 := by omega
  have htu : t ≤ 1000000000000000000 := by omega
  have htl : -8000000000000000000 ≤ t := by omega
  have BS0 := bs64_any (hen'.heap (hS.heap hbx.way).1 (hS.heap hbx.way).2) (ends_sorted _ _) (by rw [endsL_len]; omega) (f + 1)
  rw [endsL_len, hm] at BS0
  obtain ⟨j0, hj0⟩ : ∃ j0, skipP (endsL (cntP C (n - 1 - k) k) L) f = j0 := ⟨_, rfl⟩
  have hj0m : j0 ≤ m := by rw [← hj0, ← hm]; exact skip_le _ _ _
  have hstart := cut_start C (n := n) k L f t
  rw [hj0] at hstart
  rw [show (endsL (cntP C (n - 1 - k) k) L).countP (· < f + 1) = j0 from hj0] at BS0
  have HBS := Lib.hid BS0; have HA1 := Lib.hid hA1; have HBB := Lib.hid hbb; have HWB := Lib.hid hwb; have HX2 := Lib.hid hX2; have HX3 := Lib.hid hX3
  have HS := Lib.hid hS; have HJ := Lib.hid hJ; have HT := Lib.hid hT; have HY := Lib.hid hY; have HIH := Lib.hid IH; have HMB := Lib.hid hM
  have HP := Lib.hid hp; have HLR := Lib.hid hLr; have HTT := Lib.hid htt; have HEN := Lib.hid hen'; have HL := Lib.hid hL; have HM := Lib.hid hm; have HZK := Lib.hid hzk; have HSUM := Lib.hid hsum
  have HF0 := Lib.hid hf0; have HF1 := Lib.hid hf1; have HT0 := Lib.hid ht0; have HT1 := Lib.hid ht1; have HLL := Lib.hid hLl
  have HK := Lib.hid hk; have HJ0 := Lib.hid hj0
  have HA : Hid (∀ d, EWLoop J Cp B W1 pb X1 A1 (q + (cutZ (fmTo (pthP C (n - 1 - k) k) L j0) f t).length) pre (A1.drewN d)) := Lib.hid (fun d => ⟨_, _, by rw [hstart]; exact hbx.below hJ (below_drewN' (Below.refl _ _) d)⟩)
  have hn8 : (n : Int) ≤ 8 := by have := hS.len; omega
  have hkn : (k : Int) < n := by omega
  rw [endsL_len, hm]
  clear hS hJ hT hY IH hM hp hLr htt hen hen' hL hm hzk hsum hf0 hf1 ht0 ht1 hA hbx hAv hA1 hbb hwb hXR hX1 hX2 hX3 BS0 hj0 hstart hk hMk
  go_enter Tryz.func37, Tryz.ntmps37
  go_upto_region 1 with fail
  rw [HA1.out, HBB.out]
  go_wp2_with fail
  refine HBS.out.mono ?_; rintro e w2 ⟨ok, rfl, dq, hw2⟩
  have HAW : Hid (EWLoop J Cp B W1 pb X1 A1 (q + (cutZ (fmTo (pthP C (n - 1 - k) k) L j0) f t).length) pre w2) := Lib.hid (by rw [hw2]; exact HA.out dq)
  clear hw2 cpb cb1
  go_wp2_with fail
  go_loopg [12] (m - j0) (fun gh x wr => ∃ j, j ≤ m ∧ j0 ≤ j ∧ gh = m - j ∧ x = .int .i64 (j : Nat) ∧ EWLoop J Cp B W1 pb X1 A1 (q + (cutZ (fmTo (pthP C (n - 1 - k) k) L j) f t).length) pre wr)
  case atStart => exact ⟨j0, hj0m, Nat.le_refl _, rfl, rfl, HAW.out⟩
  case round =>
    obtain ⟨j, hj, hjj, rfl, rfl, hw⟩ := hrel
    obtain ⟨G1, v1, hw⟩ := hw
    obtain ⟨Ap, cp, rfl⟩ := own_form hw.way.own
    rw [len_of_eqK HP.out] at hw
    obtain ⟨cO, cY, cW⟩ := HS.out.read hw.way
    obtain ⟨hh1, hh2⟩ := HS.out.heap hw.way
    have hbx : Whole wr bb 65 #[.slice At m ct, .slice Ae m ce] := (hw.lev bb HX3.out).2.1.trans HWB.out
    have cb0 : wr.cell? ⟨bb, 0, none⟩ = some (.slice At m ct) := hbx.cell 0
    have cb1 : wr.cell? ⟨bb, 1, none⟩ = some (.slice Ae m ce) := hbx.cell 1
    have i2 : (0 : Int) ≤ j := by omega
    have i3 : (0 : Int) ≤ k := by omega
    by_cases hlt : j < m
    · have hjL : j < L.length := by rw [HM.out]; exact hlt
      have t1 : decide (j < m) = true := decide_eq_true hlt
      have t1' : decide ((j : Int) < m) = true := decide_eq_true (by omega)
      have ST := start_any (vt := .slice At m ct) (HEN.out.heap hh1 hh2) (by rw [endsL_len]; have := HLL.out; omega) j (by rw [endsL_len]; omega)
      rw [startE_ends _ (Nat.le_of_lt hjL), endsL_len, HM.out, show ((L.take j).map (cntP C (n - 1 - k) k)).sum = aheadP n C k L j from rfl] at ST
      obtain ⟨s, hs⟩ : ∃ s, aheadP n C k L j = s := ⟨_, rfl⟩
      rw [hs] at ST
      have hsM : s ≤ M := by rw [← hs]; exact Nat.le_trans (ahead_le n C k L j) HSUM.out
      have HST := Lib.hid ST; have HSE := Lib.hid hs
      have i1 : (j : Int) < m := by omega
      by_cases hst : (s : Int) < t
      · have t2 : decide ((s : Int) < t) = true := decide_eq_true hst
        have HW := Lib.hid hw; have HLT := Lib.hid hlt; have HSTT := Lib.hid hst; have HSM := Lib.hid hsM; have HJJ := Lib.hid hjj
        clear hw hh1 hh2 hbx ST hs hsM hst
        go_wp2_with fail
        refine HST.out.mono ?_; rintro e w3 ⟨rfl, hb3⟩
        have hw3 := HW.out.below HJ.out hb3
        have HW3 := Lib.hid hw3
        obtain ⟨cO, cY, cW⟩ := HS.out.read hw3.way
        obtain ⟨hh1, hh2⟩ := HS.out.heap hw3.way
        have hbx : Whole w3 bb 65 #[.slice At m ct, .slice Ae m ce] := (hw3.lev bb HX3.out).2.1.trans HWB.out
        have cb0 : w3.cell? ⟨bb, 0, none⟩ = some (.slice At m ct) := hbx.cell 0
        obtain ⟨bt, offt, rfl, ct0⟩ := HTT.out.pos hjL
        have ctj : w3.cell? ⟨bt, offt + j, none⟩ = some (.int .i64 (L.getD j 0)) := (World.cell?_of_block (a := ⟨bt, offt + j, none⟩) (hh1 bt (World.block_lt_of_cell? _ _ ct0))).trans ct0
        have haL : L.getD j 0 ∈ L := by simp [List.getD, hjL]
        have hcs := cut_step C (n := n) HK.out hjL f t
        have hcix := fun i Y => cut_idx C (n := n) HK.out hjL f t (i := i) (Y := Y)
        have hsuc := ahead_succ C (n := n) k hjL
        have hnx := fun h => nx_sum C (n := n) (k := k) h (L.getD j 0)
        obtain ⟨a, ha⟩ : ∃ a, L.getD j 0 = a := ⟨_, rfl⟩
        rw [ha] at ctj ct0 haL hcs hcix hsuc hnx
        rw [HSE.out] at hcs hcix hsuc
        have cpb : w3.cell? ⟨pb, 0, none⟩ = some (.slice Ap k cp) := hw3.way.box.cell 0
        have hown : w3.ownsRow W1.heap.size 3 1 (.slice Ap k cp) k (intCells pre) := by have := hw3.way.own; rw [HP.out] at this; exact this
        have HCS := Lib.hid hcs; have HCIX := Lib.hid hcix; have HSUC := Lib.hid hsuc; have HNXS := Lib.hid hnx; have HAL := Lib.hid haL
        have hk6 : k ≤ 1000000 := by have := HK.out; have := HS.out.len; omega
        obtain ⟨A4, c4, w4, ha4, hown4, hgrew4⟩ := app_num hw3.way.size hown hk6 a
        have hwd := hw3.below HJ.out (show Below w3.heap.size w3 w3.drew from below_drewN' (Below.refl _ _) 1)
        have hlen : (pre ++ [a]).length = k + 1 := by rw [List.length_append, HP.out]; rfl
        have hw5 := hwd.store HJ.out HT.out HS.out.pb0 HS.out.pb1 (pre' := pre ++ [a]) hgrew4 (by rw [hlen, intCells_app]; exact hown4)
        have hpw : Whole w4 pb 23 #[.slice Ap k cp] := hwd.way.box.grown hgrew4.1 (fun e => by have := (hwd.way.own.lt pb e.symm).1; have := HS.out.pb1; omega)
        have HW5 := Lib.hid hw5
        obtain ⟨w5, hw5e⟩ : ∃ x, w4.setCell ⟨pb, 0, none⟩ (.slice A4 (k + 1) c4) = x := ⟨_, rfl⟩
        rw [hw5e] at HW5
        have HE5 := Lib.hid hw5e
        have hA0 : Below w3.heap.size w3 (w3.alloc (.cells #[.int .i64 a] 3)).drew := ((Below.refl _ _).alloc (Nat.le_refl _) _).drew
        have Y1 := Lib.hid (cell_belowK cpb hA0)
        have Y2 := Lib.hid (cell_belowK cb0 hA0)
        have Y3 := Lib.hid (cell_belowK ctj hA0)
        have CP4 := Lib.hid (hpw.cell 0); have FP4 := Lib.hid (hpw.free 0)
        have hvb : (Value.slice Ap k cp).ownBlock ≠ some bb := (hwd.lev bb HX3.out).2.2.1
        have hvt : (Value.slice Ap k cp).ownBlock ≠ some bt := fun e => by
          have h1 := (hwd.way.own.lt bt e).1
          have h2 := World.block_lt_of_cell? _ _ ct0
          have h3 := HS.out.os
          simp at h2
          omega
        have h4b : ∀ b, b < w3.heap.size → (Value.slice Ap k cp).ownBlock ≠ some b → w4.heap[b]? = w3.heap[b]? := fun b hb hne => hgrew4.1.block b hb (fun e => hne e.symm)
        have Z2 := Lib.hid ((World.cell?_of_block (a := ⟨bb, 0, none⟩) (h4b bb hbx.lt hvb)).trans cb0)
        have Z3 := Lib.hid ((World.cell?_of_block (a := ⟨bt, offt + j, none⟩) (h4b bt (World.block_lt_of_cell? _ _ ctj) hvt)).trans ctj)
        have CT0 := Lib.hid ct0
        clear hb3 hvb hvt h4b hw3 hh1 hh2 hbx ct0 ha haL hcs hcix hsuc hnx hown hown4 hgrew4 hwd hw5 hpw hw5e hA0 cO cY cW cb1
        go_wp2_with fail
        refine region_reads3 [0,1,2,3,4,5] 6 7 8 (by kernel_rfl) (by kernel_rfl) (fun w' => w'.cell? ⟨pb, 0, none⟩ = some (.slice Ap k cp) ∧ w'.cell? ⟨bb, 0, none⟩ = some (.slice (some ⟨bt, offt, none⟩) m ct) ∧ w'.cell? ⟨bt, offt + j, none⟩ = some (.int .i64 a)) ⟨cpb, cb0, ctj⟩ (by kernel_rfl) (by kernel_rfl) (by kernel_rfl) (by kernel_rfl) (by kernel_rfl) (by kernel_rfl) rfl rfl rfl rfl rfl rfl (by kernel_rfl) ?_
        refine ⟨_, ?v1_0, rfl, Or.inl ⟨by rfl, ?hy1_0⟩, fun _ _ _ h => h, ?rest1_0⟩
        case hy1_0 => (intro w' hSw; obtain ⟨s1, s2, s3⟩ := hSw; go_simp; try with_reducible rfl)
        try dsimp only [Act.put]
        refine ⟨_, ?v1_1, rfl, Or.inl ⟨by rfl, ?hy1_1⟩, fun _ _ _ h => h, ?rest1_1⟩
        case hy1_1 => (intro w' hSw; obtain ⟨s1, s2, s3⟩ := hSw; go_simp; try with_reducible rfl)
        try dsimp only [Act.put]
        refine ⟨_, ?v1_2, rfl, Or.inl ⟨by rfl, ?hy1_2⟩, fun _ _ _ h => h, ?rest1_2⟩
        case hy1_2 => (intro w' hSw; obtain ⟨s1, s2, s3⟩ := hSw; go_simp; try with_reducible rfl)
        try dsimp only [Act.put]
        refine ⟨_, ?v1_3, rfl, Or.inl ⟨by rfl, ?hy1_3⟩, fun _ _ _ h => h, ?rest1_3⟩
        case hy1_3 => (intro w' hSw; obtain ⟨s1, s2, s3⟩ := hSw; go_simp; try with_reducible rfl)
        try dsimp only [Act.put]
        refine ⟨_, ?v1_4, rfl, Or.inl ⟨by rfl, ?hy1_4⟩, fun _ _ _ h => h, ?rest1_4⟩
        case hy1_4 => (intro w' hSw; obtain ⟨s1, s2, s3⟩ := hSw; go_simp; try with_reducible rfl)
        try dsimp only [Act.put]
        refine ⟨_, ?v1_5, rfl, Or.inl ⟨by rfl, ?hy1_5⟩, fun _ _ _ h => h, ?rest1_5⟩
        case hy1_5 => (intro w' hSw; obtain ⟨s1, s2, s3⟩ := hSw; go_simp; try with_reducible rfl)
        try dsimp only [Act.put]
        refine reads_nil ?_
        refine wp_bare (fun K1 hK1 => ?_)
        go_simp
        refine hK1.out _ _ ⟨⟨Y1.out, Y2.out, Y3.out⟩, ?_⟩
        refine wp_bare (fun K2 hK2 => ?_)
        go_simp
        refine hK2.out _ _ ⟨⟨CP4.out, Z2.out, Z3.out⟩, ?_⟩
        have cp4 := CP4.out
        have fp4 := FP4.out
        refine wp_bare (fun K3 hK3 => ?_)
        go_simp
        refine hK3.out _ _ ?_
        clear cpb cb0 ctj ha4 cp4 fp4
        go_upto_region 6 with fail
        rw [HE5.out]
        obtain ⟨G5, hG5⟩ : ∃ G5, G5 = fun b => G1 b ∨ (w3.drew.heap.size ≤ b ∧ b < w4.heap.size) := ⟨_, rfl⟩
        rw [← hG5] at HW5
        obtain ⟨cO, cY, cW⟩ := HS.out.read HW5.out.way
        obtain ⟨hh1, hh2⟩ := HS.out.heap HW5.out.way
        have hbx : Whole w5 bb 65 #[.slice (some ⟨bt, offt, none⟩) m ct, .slice Ae m ce] := (HW5.out.lev bb HX3.out).2.1.trans HWB.out
        have cb0 : w5.cell? ⟨bb, 0, none⟩ = some (.slice (some ⟨bt, offt, none⟩) m ct) := hbx.cell 0
        have cb1 : w5.cell? ⟨bb, 1, none⟩ = some (.slice Ae m ce) := hbx.cell 1
        have ctj : w5.cell? ⟨bt, offt + j, none⟩ = some (.int .i64 a) := (World.cell?_of_block (a := ⟨bt, offt + j, none⟩) (hh1 bt (World.block_lt_of_cell? _ _ CT0.out))).trans CT0.out
        obtain ⟨Bk, _, _, r0, _⟩ := HS.out.rk k HK.out
        have c0r : w5.cell? ⟨rb, 0, none⟩ = some (.slice (some ⟨Bk, 0, none⟩) n n) := (World.cell?_of_block (a := ⟨rb, 0, none⟩) (hh1 rb (World.block_lt_of_cell? _ _ r0))).trans r0
        have cpb : w5.cell? ⟨pb, 0, none⟩ = some (.slice A4 (k + 1) c4) := HW5.out.way.box.cell 0
        have HH1 := Lib.hid hh1; have HH2 := Lib.hid hh2
        clear hG5 hh1 hh2 hbx r0
        go_upto_if 54 with fail
        go_cut [14] (fun x wx => EWCut J Jx Cp B W1 pb N X1 A1 (q + (cutZ (fmTo (pthP C (n - 1 - k) k) L (j + 1)) f t).length) (pre ++ [a]) x wx)
        case first => as_aux_lemma =>
          cases z with
          | true =>
            have hkn1 := HZK.out.1 rfl
            have hfs : f - (s : Int) ≤ 0 := by
              have h1 := skip_high (cntP C (n - 1 - k) k) hjL (x := f) (by rw [HJ0.out]; exact HJJ.out)
              rw [show ((L.take (j + 1)).map (cntP C (n - 1 - k) k)).sum = aheadP n C k L (j + 1) from rfl, HSUC.out, show n - 1 - k = 0 by omega] at h1
              have h2 : cntP C 0 k a = 1 := rfl
              rw [h2] at h1
              omega
            have hts : 1 ≤ t - (s : Int) := by have := HSTT.out; omega
            have hlast : cutZ (subP n C (k + 1) (nxt n C k a)) (f - (s : Int)) (t - (s : Int)) = [[]] := by
              rw [show subP n C (k + 1) (nxt n C k a) = [[]] by rw [subP, if_neg (by omega)]]
              exact cut_one hfs hts
            obtain ⟨hqN, hLq⟩ := HL.out _ _ (HCIX.out 0 [] (by rw [hlast]; rfl))
            rw [Nat.add_zero] at hqN hLq
            have hcn : q + (cutZ (fmTo (pthP C (n - 1 - k) k) L (j + 1)) f t).length = q + (cutZ (fmTo (pthP C (n - 1 - k) k) L j) f t).length + 1 := by
              rw [HCS.out, hlast, List.length_append]
              rfl
            have hS5 : SeqV w5.drew (.slice A4 (k + 1) c4) (pre ++ [a]) := own_seq (w := w5) HW5.out.way.own
            have hlen : (pre ++ [a]).length = k + 1 := by rw [List.length_append, HP.out]; rfl
            have CL := clone_any hS5 (by rw [hlen]; have := HK.out; have := HS.out.len; omega)
            rw [hlen] at CL
            replace CL := Lib.hid CL
            have HQN := Lib.hid hqN; have HLQ := Lib.hid hLq
            have HCUT : Hid (∀ u w7, w7.ownsRow w5.drew.heap.size 3 1 u (k + 1) (intCells (pre ++ [a])) → Below w5.drew.heap.size w5.drew w7 → YieldAt Fence.wide 2 Tryz.prog l #[u] w7 fun en A' => ∃ x, en = .returned x ∧ EWCut J Jx Cp B W1 pb N X1 A1 (q + (cutZ (fmTo (pthP C (n - 1 - k) k) L (j + 1)) f t).length) (pre ++ [a]) x A') := Lib.hid (by
              intro u w7 ho hb
              have hw7 := HW5.out.below HJ.out (show Below w5.heap.size w5 w7 from ⟨hb.os, hb.tape, hb.output, hb.size, hb.block⟩)
              have hBs : B ≤ w5.heap.size := by have := HS.out.pb0; have := HS.out.pb1; have := HW5.out.way.size; omega
              obtain ⟨fn, tmps, assign, body, hy, hR⟩ := HY.out G5 (q + (cutZ (fmTo (pthP C (n - 1 - k) k) L j) f t).length) u w7 hw7.way.bound HQN.out hw7.way.inv (Nat.le_trans hBs hb.size) (by rw [HLQ.out, hlen]; exact own_base ho hBs) (fun b hb1 hb2 => by
                have h1 := (ho.lt b hb1).1
                have h2 := (HW5.out.way.bound b hb2).2
                have h3 : w5.drew.heap.size = w5.heap.size := rfl
                omega)
              refine ⟨fn, tmps, assign, body, hy, hR.mono ?_⟩
              rw [hcn]
              rintro en A' (⟨rfl, h1, h2⟩ | ⟨rfl, h1⟩)
              · exact ⟨_, rfl, Or.inl ⟨rfl, G5, _, hw7.round HS.out.pb0 HS.out.pb1 h2 h1⟩⟩
              · exact ⟨_, rfl, Or.inr ⟨rfl, G5, _, fun b hb => (HW5.out.way.bound b hb).1, Nat.succ_pos _, HQN.out, h1⟩⟩)
            clear hS5 hqN hLq hlast hkn1 hlen hcn hfs hts cO cW cb0 cb1 ctj c0r
            go_wp2_with fail
            refine (wpIn_wide (n := 3)).1 ?_
            refine wpIn_region_any (by kernel_rfl) ?_
            change wpAnyIn _ _ _ _ _ _ _ _ _ (World.drew _)
            refine wpAnyIn_ready (rs := [0, 1]) (by kernel_rfl) (by simp) ?_
            refine AllReadyIn.cons rfl (fun K hK => ?_) (AllReadyIn.cons rfl (fun K hK => ?_) AllReadyIn.nil)
            · go_simp
              refine hK _ _ ?_
              clear hK K
              refine wpAnyIn_ready (rs := [1]) (by kernel_rfl) (by simp) ?_
              refine AllReadyIn.cons rfl (fun K hK => ?_) AllReadyIn.nil
              go_simp
              refine hK _ _ ?_
              clear hK K
              refine wpAnyIn_ready (rs := [2]) (by kernel_rfl) (by simp) ?_
              refine AllReadyIn.cons rfl (fun K hK => ?_) AllReadyIn.nil
              go_simp
              refine ⟨trivial, (callsIn_wide.2 CL.out).mono ?_⟩
              rintro e w7 ⟨u, rfl, ho7, hb7⟩
              obtain ⟨Au7, cu7, rfl⟩ := own_form ho7
              have cY7 : w7.cell? ⟨yb, 0, none⟩ = some (.func (.yield l) #[] #[]) := cell_drewK cY hb7
              obtain ⟨fn, tmps, assign, body, hy, hR⟩ := HCUT.out _ w7 ho7 hb7
              have HRR := Lib.hid hR
              clear ho7 hb7 hR
              refine hK _ _ ?_
              clear hK K
              refine wpAnyIn_ready (rs := [3]) (by kernel_rfl) (by simp) ?_
              refine AllReadyIn.cons rfl (fun K hK => ?_) AllReadyIn.nil
              go_simp
              refine HRR.out.mono ?_
              rintro e w8 ⟨x, rfl, hx⟩
              have HX := Lib.hid hx
              clear hx
              refine hK _ _ ?_
              clear hK K
              refine wpAnyIn_ready (rs := [4]) (by kernel_rfl) (by simp) ?_
              refine AllReadyIn.cons rfl (fun K hK => ?_) AllReadyIn.nil
              go_simp
              refine hK _ _ ?_
              clear hK K
              refine wpAnyIn_done (by kernel_rfl) ?_ _
              go_wp2_with fail
              go_meet
              exact HX.out
            · go_simp
              refine hK _ _ ?_
              clear hK K
              refine wpAnyIn_ready (rs := [0, 2]) (by kernel_rfl) (by simp) ?_
              refine AllReadyIn.cons rfl (fun K hK => ?_) (AllReadyIn.cons rfl (fun K hK => ?_) AllReadyIn.nil)
              · go_simp
                refine hK _ _ ?_
                clear hK K
                refine wpAnyIn_ready (rs := [2]) (by kernel_rfl) (by simp) ?_
                refine AllReadyIn.cons rfl (fun K hK => ?_) AllReadyIn.nil
                go_simp
                refine ⟨trivial, (callsIn_wide.2 CL.out).mono ?_⟩
                rintro e w7 ⟨u, rfl, ho7, hb7⟩
                obtain ⟨Au7, cu7, rfl⟩ := own_form ho7
                have cY7 : w7.cell? ⟨yb, 0, none⟩ = some (.func (.yield l) #[] #[]) := cell_drewK cY hb7
                obtain ⟨fn, tmps, assign, body, hy, hR⟩ := HCUT.out _ w7 ho7 hb7
                have HRR := Lib.hid hR
                clear ho7 hb7 hR
                refine hK _ _ ?_
                clear hK K
                refine wpAnyIn_ready (rs := [3]) (by kernel_rfl) (by simp) ?_
                refine AllReadyIn.cons rfl (fun K hK => ?_) AllReadyIn.nil
                go_simp
                refine HRR.out.mono ?_
                rintro e w8 ⟨x, rfl, hx⟩
                have HX := Lib.hid hx
                clear hx
                refine hK _ _ ?_
                clear hK K
                refine wpAnyIn_ready (rs := [4]) (by kernel_rfl) (by simp) ?_
                refine AllReadyIn.cons rfl (fun K hK => ?_) AllReadyIn.nil
                go_simp
                refine hK _ _ ?_
                clear hK K
                refine wpAnyIn_done (by kernel_rfl) ?_ _
                go_wp2_with fail
                go_meet
                exact HX.out
              · go_simp
                refine ⟨trivial, (callsIn_wide.2 CL.out).mono ?_⟩
                rintro e w7 ⟨u, rfl, ho7, hb7⟩
                obtain ⟨Au7, cu7, rfl⟩ := own_form ho7
                have cY7 : w7.cell? ⟨yb, 0, none⟩ = some (.func (.yield l) #[] #[]) := cell_drewK cY hb7
                obtain ⟨fn, tmps, assign, body, hy, hR⟩ := HCUT.out _ w7 ho7 hb7
                have HRR := Lib.hid hR
                clear ho7 hb7 hR
                refine hK _ _ ?_
                clear hK K
                refine wpAnyIn_ready (rs := [0]) (by kernel_rfl) (by simp) ?_
                refine AllReadyIn.cons rfl (fun K hK => ?_) AllReadyIn.nil
                go_simp
                refine hK _ _ ?_
                clear hK K
                refine wpAnyIn_ready (rs := [3]) (by kernel_rfl) (by simp) ?_
                refine AllReadyIn.cons rfl (fun K hK => ?_) AllReadyIn.nil
                go_simp
                refine HRR.out.mono ?_
                rintro e w8 ⟨x, rfl, hx⟩
                have HX := Lib.hid hx
                clear hx
                refine hK _ _ ?_
                clear hK K
                refine wpAnyIn_ready (rs := [4]) (by kernel_rfl) (by simp) ?_
                refine AllReadyIn.cons rfl (fun K hK => ?_) AllReadyIn.nil
                go_simp
                refine hK _ _ ?_
                clear hK K
                refine wpAnyIn_done (by kernel_rfl) ?_ _
                go_wp2_with fail
                go_meet
                exact HX.out
          | false =>
            have hkn1 : k + 1 < n := by
              have h1 := HK.out
              have h2 := HZK.out
              rcases Nat.lt_or_ge (k + 1) n with h | h
              · exact h
              · have := h2.2 (by omega); cases this
            have BEH := Lib.hid (fun W (hW : Below w5.heap.size w5 W) => HS.out.beh (HW5.out.below HJ.out hW).way HK.out (HLR.out a HAL.out))
            have ST5 : Hid (∀ W, Below w5.heap.size w5 W → Calls Tryz.prog 33 #[.agg #[.slice (some ⟨bt, offt, none⟩) m ct, .slice Ae m ce], .int .i64 j] W fun e w' => e = .returned (.int .i64 (s : Nat)) ∧ Below W.heap.size W w') := Lib.hid (fun W hW => by
              obtain ⟨k1, k2⟩ := HS.out.heap (HW5.out.below HJ.out hW).way
              have ST := start_any (vt := .slice (some ⟨bt, offt, none⟩) m ct) (HEN.out.heap k1 k2) (by rw [endsL_len]; have := HLL.out; omega) j (by rw [endsL_len]; omega)
              rw [startE_ends _ (Nat.le_of_lt hjL), endsL_len, HM.out, show ((L.take j).map (cntP C (n - 1 - k) k)).sum = aheadP n C k L j from rfl, HSE.out] at ST
              exact ST)
            have HWK : Hid (∀ u1 u2 W, SeqV Wo u1 (nxt n C k a) → SeqV Wo u2 (nxE n C k a) → Below w5.heap.size w5 W → Calls Tryz.prog 37 #[.agg #[u1, u2], .int .i64 (f - s), .int .i64 (t - s), .pointer (some ⟨pb, 0, none⟩), .pointer (some ⟨ob, 0, none⟩), .pointer (some ⟨yb, 0, none⟩), .pointer (some ⟨wb, 0, none⟩)] W fun e w' => ∃ x, e = .returned x ∧ EWCut J Jx Cp B W1 pb N X1 A1 (q + (cutZ (fmTo (pthP C (n - 1 - k) k) L (j + 1)) f t).length) (pre ++ [a]) x w') := Lib.hid (by
              intro u1 u2 W hu1 hu2 hW
              rw [nxE_eq] at hu2
              have hcnt : cntP C (n - 1 - k) k a ≤ M := ew_cnt HSUC.out (ahead_le n C k L (j + 1)) HSUM.out
              refine (HIH.out hkn1 X1 A1 (pre ++ [a]) (nxt n C k a) u1 u2 _ (f - s) (t - s) G5 (q + (cutZ (fmTo (pthP C (n - 1 - k) k) L j) f t).length) W (by rw [List.length_append, HP.out]; rfl) (by have := nxt_len n C k a; have := HS.out.few; omega) (fun x hx => by
                unfold nxt at hx
                rw [if_pos hkn1] at hx
                exact link_row hx) hu1 hu2 (by rw [HNXS.out hkn1]; exact hcnt) (ew_low HF0.out HSM.out) (ew_high HF1.out) (ew_pos HSTT.out) (ew_high HT1.out) (HW5.out.below HJ.out hW) (fun i Y h => by
                have := HL.out _ _ (HCIX.out i Y h)
                rw [← Nat.add_assoc] at this
                refine ⟨this.1, this.2.trans ?_⟩
                simp)).mono ?_
              rintro e w' h
              have hcn : q + (cutZ (fmTo (pthP C (n - 1 - k) k) L (j + 1)) f t).length = q + (cutZ (fmTo (pthP C (n - 1 - k) k) L j) f t).length + (cutZ (subP n C (k + 1) (nxt n C k a)) (f - s) (t - s)).length := by
                rw [HCS.out, List.length_append, List.length_map, Nat.add_assoc]
              rw [← hcn] at h
              rcases h with ⟨rfl, h⟩ | ⟨rfl, h⟩
              · exact ⟨_, rfl, Or.inl ⟨rfl, h⟩⟩
              · exact ⟨_, rfl, Or.inr ⟨rfl, h⟩⟩)
            have wf : IntKind.i64.wrap (f - (s : Int)) = f - s := ew_wrap hfl hfu HSM.out HMB.out
            have wt : IntKind.i64.wrap (t - (s : Int)) = t - s := ew_wrap htl htu HSM.out HMB.out
            have KS := Lib.hid (fun X (hX : Below w5.heap.size w5 X) => And.intro hX (And.intro (cell_belowK cW hX) (And.intro (cell_belowK cO hX) (And.intro (cell_belowK cb0 hX) (And.intro (cell_belowK cb1 hX) (cell_belowK ctj hX))))))
            clear hkn1 cY cpb c0r
            go_wp2_with fail
            refine region_readsT [(0, []), (1, [8]), (2, [8]), (3, [8, 7, 6, 4]), (4, [8, 7, 6]), (5, [8, 7, 6]), (6, [8, 7]), (7, [8]), (9, [13]), (10, [13, 12]), (11, [13, 12]), (14, [18]), (15, [18, 17]), (16, [18, 17])] 19 7 (by kernel_rfl) (by kernel_rfl) (fun Z => Below w5.heap.size w5 Z ∧ Z.cell? ⟨wb, 0, none⟩ = some (.func (.func 37) #[] #[.pointer (some ⟨pb, 0, none⟩), .pointer (some ⟨ob, 0, none⟩), .pointer (some ⟨yb, 0, none⟩), .pointer (some ⟨wb, 0, none⟩)]) ∧ Z.cell? ⟨ob, 0, none⟩ = some (.pointer (some ⟨rb, 0, none⟩)) ∧ Z.cell? ⟨bb, 0, none⟩ = some (.slice (some ⟨bt, offt, none⟩) m ct) ∧ Z.cell? ⟨bb, 1, none⟩ = some (.slice Ae m ce) ∧ Z.cell? ⟨bt, offt + j, none⟩ = some (.int .i64 a)) (KS.out _ (below_drewN' (Below.refl _ _) 1)) (by kernel_rfl) (by kernel_rfl) ?_
            clear cO cW cb0 cb1 ctj
            refine ⟨({ dst := some 59, op := Op.load 85 (Operand.tmp 6), type := 85, pos := "rank.go:170", after := #[], guard := none } : Oper), ?v2_0, rfl, Or.inl ⟨by rfl, ?hy2_0⟩, fun _ _ _ h => h, ?rest2_0⟩
            case hy2_0 => (intro w' hSw; obtain ⟨s0, s1, s2, s3, s4, s5⟩ := hSw; go_simp; try with_reducible rfl)
            try simp only [Act.put, List.setIfInBounds_toArray, List.set_cons_zero, List.set_cons_succ]
            refine ⟨({ dst := some 60, op := Op.load 28 (Operand.tmp 4), type := 28, pos := "rank.go:170", after := #[], guard := none } : Oper), ?v2_1, rfl, Or.inl ⟨by rfl, ?hy2_1⟩, fun _ _ _ h => h, ?rest2_1⟩
            case hy2_1 => (intro w' hSw; obtain ⟨s0, s1, s2, s3, s4, s5⟩ := hSw; go_simp; try with_reducible rfl)
            try simp only [Act.put, List.setIfInBounds_toArray, List.set_cons_zero, List.set_cons_succ]
            refine ⟨({ dst := some 61, op := Op.move (Operand.tmp 11), type := 3, pos := "rank.go:170", after := #[], guard := none } : Oper), ?v2_2, rfl, Or.inl ⟨by rfl, ?hy2_2⟩, fun _ _ _ h => h, ?rest2_2⟩
            case hy2_2 => (intro w' hSw; obtain ⟨s0, s1, s2, s3, s4, s5⟩ := hSw; go_simp; try with_reducible rfl)
            try simp only [Act.put, List.setIfInBounds_toArray, List.set_cons_zero, List.set_cons_succ]
            refine ⟨({ dst := some 62, op := Op.fieldAddr 65 (Operand.tmp 7) 0, type := 0, pos := "rank.go:170", after := #[], guard := none } : Oper), ?v2_3, rfl, Or.inl ⟨by rfl, ?hy2_3⟩, fun _ _ _ h => h, ?rest2_3⟩
            case hy2_3 => (intro w' hSw; obtain ⟨s0, s1, s2, s3, s4, s5⟩ := hSw; go_simp; try with_reducible rfl)
            try simp only [Act.put, List.setIfInBounds_toArray, List.set_cons_zero, List.set_cons_succ]
            refine ⟨({ dst := some 63, op := Op.load 23 (Operand.tmp 62), type := 23, pos := "rank.go:170", after := #[{ on := 3, ground := Ground.data }], guard := none } : Oper), ?v2_4, rfl, Or.inl ⟨by rfl, ?hy2_4⟩, fun _ _ _ h => h, ?rest2_4⟩
            case hy2_4 => (intro w' hSw; obtain ⟨s0, s1, s2, s3, s4, s5⟩ := hSw; go_simp; try with_reducible rfl)
            try simp only [Act.put, List.setIfInBounds_toArray, List.set_cons_zero, List.set_cons_succ]
            refine ⟨({ dst := some 64, op := Op.move (Operand.tmp 12), type := 3, pos := "rank.go:170", after := #[], guard := none } : Oper), ?v2_5, rfl, Or.inl ⟨by rfl, ?hy2_5⟩, fun _ _ _ h => h, ?rest2_5⟩
            case hy2_5 => (intro w' hSw; obtain ⟨s0, s1, s2, s3, s4, s5⟩ := hSw; go_simp; try with_reducible rfl)
            try simp only [Act.put, List.setIfInBounds_toArray, List.set_cons_zero, List.set_cons_succ]
            refine ⟨({ dst := some 65, op := Op.indexAddr 23 (Operand.tmp 63) (Operand.tmp 64), type := 0, pos := "rank.go:170", after := #[{ on := 4, ground := Ground.data }, { on := 5, ground := Ground.data }], guard := none } : Oper), ?v2_6, rfl, Or.inl ⟨by rfl, ?hy2_6⟩, fun _ _ _ h => h, ?rest2_6⟩
            case hy2_6 => (intro w' hSw; obtain ⟨s0, s1, s2, s3, s4, s5⟩ := hSw; go_simp; try with_reducible rfl)
            try simp only [Act.put, List.setIfInBounds_toArray, List.set_cons_zero, List.set_cons_succ]
            refine ⟨({ dst := some 66, op := Op.load 3 (Operand.tmp 65), type := 3, pos := "rank.go:170", after := #[{ on := 6, ground := Ground.data }], guard := none } : Oper), ?v2_7, rfl, Or.inl ⟨by rfl, ?hy2_7⟩, fun _ _ _ h => h, ?rest2_7⟩
            case hy2_7 => (intro w' hSw; obtain ⟨s0, s1, s2, s3, s4, s5⟩ := hSw; go_simp; try with_reducible rfl)
            try simp only [Act.put, List.setIfInBounds_toArray, List.set_cons_zero, List.set_cons_succ]
            refine ⟨({ dst := some 68, op := Op.move (Operand.tmp 1), type := 2, pos := "rank.go:170", after := #[], guard := none } : Oper), ?v2_9, rfl, Or.inl ⟨by rfl, ?hy2_9⟩, fun _ _ _ h => h, ?rest2_9⟩
            case hy2_9 => (intro w' hSw; obtain ⟨s0, s1, s2, s3, s4, s5⟩ := hSw; go_simp; try with_reducible rfl)
            try simp only [Act.put, List.setIfInBounds_toArray, List.set_cons_zero, List.set_cons_succ]
            refine ⟨({ dst := some 69, op := Op.load 65 (Operand.tmp 7), type := 65, pos := "rank.go:170", after := #[], guard := none } : Oper), ?v2_10, rfl, Or.inl ⟨by rfl, ?hy2_10⟩, fun _ _ _ h => h, ?rest2_10⟩
            case hy2_10 => (intro w' hSw; obtain ⟨s0, s1, s2, s3, s4, s5⟩ := hSw; go_simp; try with_reducible rfl)
            try simp only [Act.put, List.setIfInBounds_toArray, List.set_cons_zero, List.set_cons_succ]
            refine ⟨({ dst := some 70, op := Op.move (Operand.tmp 12), type := 3, pos := "rank.go:170", after := #[], guard := none } : Oper), ?v2_11, rfl, Or.inl ⟨by rfl, ?hy2_11⟩, fun _ _ _ h => h, ?rest2_11⟩
            case hy2_11 => (intro w' hSw; obtain ⟨s0, s1, s2, s3, s4, s5⟩ := hSw; go_simp; try with_reducible rfl)
            try simp only [Act.put, List.setIfInBounds_toArray, List.set_cons_zero, List.set_cons_succ]
            refine ⟨({ dst := some 73, op := Op.move (Operand.tmp 2), type := 2, pos := "rank.go:170", after := #[], guard := none } : Oper), ?v2_14, rfl, Or.inl ⟨by rfl, ?hy2_14⟩, fun _ _ _ h => h, ?rest2_14⟩
            case hy2_14 => (intro w' hSw; obtain ⟨s0, s1, s2, s3, s4, s5⟩ := hSw; go_simp; try with_reducible rfl)
            try simp only [Act.put, List.setIfInBounds_toArray, List.set_cons_zero, List.set_cons_succ]
            refine ⟨({ dst := some 74, op := Op.load 65 (Operand.tmp 7), type := 65, pos := "rank.go:170", after := #[], guard := none } : Oper), ?v2_15, rfl, Or.inl ⟨by rfl, ?hy2_15⟩, fun _ _ _ h => h, ?rest2_15⟩
            case hy2_15 => (intro w' hSw; obtain ⟨s0, s1, s2, s3, s4, s5⟩ := hSw; go_simp; try with_reducible rfl)
            try simp only [Act.put, List.setIfInBounds_toArray, List.set_cons_zero, List.set_cons_succ]
            refine ⟨({ dst := some 75, op := Op.move (Operand.tmp 12), type := 3, pos := "rank.go:170", after := #[], guard := none } : Oper), ?v2_16, rfl, Or.inl ⟨by rfl, ?hy2_16⟩, fun _ _ _ h => h, ?rest2_16⟩
            case hy2_16 => (intro w' hSw; obtain ⟨s0, s1, s2, s3, s4, s5⟩ := hSw; go_simp; try with_reducible rfl)
            try simp only [Act.put, List.setIfInBounds_toArray, List.set_cons_zero, List.set_cons_succ]
            refine reads_nil (fun _ => ?_)
            refine until_one (i := 8) (by kernel_rfl) rfl rfl ?_
            refine wp_bare (fun K1 hK1 => ?_)
            go_simp
            refine (BEH.out _ (below_drewN' (Below.refl _ _) 1)).mono ?_
            rintro e1 w6 ⟨u1x, u2x, rfl, hu1, hu2, hb6⟩
            have hB6 : Below w5.heap.size w5 w6 := (below_drewN' (Below.refl w5.heap.size w5) 1).trans hb6
            refine hK1.out _ _ ⟨fun _ _ => KS.out _ hB6, ?_⟩
            clear hK1 K1 hb6
            refine until_one (i := 12) (by kernel_rfl) rfl rfl ?_
            refine wp_bare (fun K1 hK1 => ?_)
            go_simp
            refine (ST5.out _ hB6).mono ?_
            rintro e2 w7 ⟨rfl, hb7⟩
            have hB7 : Below w5.heap.size w5 w7 := hB6.trans (hb7.mono hB6.size)
            refine hK1.out _ _ ⟨fun _ _ => KS.out _ hB7, ?_⟩
            clear hK1 K1 hb7 hB6
            refine until_more (i := 13) (oi := ({ dst := some 72, op := Op.binOp BinOp.sub 2 (Operand.tmp 68) (Operand.tmp 71) 2, type := 2, pos := "rank.go:170", after := #[{ on := 9, ground := Ground.data }, { on := 12, ground := Ground.data }], guard := none } : Oper)) (v := .int .i64 (f - (s : Int))) (wy := []) rfl (by kernel_rfl) (by kernel_rfl) (closed_of (by kernel_rfl)) (by kernel_rfl) (by kernel_rfl) (by kernel_rfl) (KS.out _ hB7) (Or.inl ⟨by rfl, ?hy13⟩) (fun _ _ _ h => h) ?_
            case hy13 => (intro w' hSw; go_simp)
            simp only [Act.put, List.setIfInBounds_toArray, List.set_cons_zero, List.set_cons_succ]
            refine until_one (i := 17) (by kernel_rfl) rfl rfl ?_
            refine wp_bare (fun K1 hK1 => ?_)
            go_simp
            refine (ST5.out _ hB7).mono ?_
            rintro e2 w8 ⟨rfl, hb8⟩
            have hB8 : Below w5.heap.size w5 w8 := hB7.trans (hb8.mono hB7.size)
            refine hK1.out _ _ ⟨fun _ _ => KS.out _ hB8, ?_⟩
            clear hK1 K1 hb8 hB7
            refine until_one (i := 18) (by kernel_rfl) rfl rfl ?_
            refine wp_bare (fun K1 hK1 => ?_)
            go_simp
            refine hK1.out _ _ ⟨fun _ _ => KS.out _ hB8, ?_⟩
            clear hK1 K1
            refine until_one (i := 19) (by kernel_rfl) rfl rfl ?_
            refine wp_bare (fun K1 hK1 => ?_)
            go_simp
            refine (HWK.out u1x u2x _ hu1 hu2 hB8).mono ?_
            rintro e2 w9 ⟨x, rfl, hx⟩
            have HX := Lib.hid hx
            refine hK1.out _ _ ⟨fun h0 => absurd rfl h0, ?_⟩
            clear hK1 K1 hx hB8 hu1 hu2
            refine Until.of_any (by kernel_rfl) ?_
            refine any_one (i := 20) (by kernel_rfl) rfl rfl ?_
            refine wp_bare (fun K1 hK1 => ?_)
            go_simp
            refine hK1.out _ _ ?_
            clear hK1 K1
            refine wpAny_done (by kernel_rfl) ?_ _
            go_wp2_with fail
            go_meet
            exact HX.out
        case rest =>
          rcases hcut with ⟨rfl, G6, v6, h6⟩ | ⟨rfl, G6, k6, b6, b7, b8, h6⟩
          · obtain ⟨A6, c6, rfl⟩ := own_form h6.way.own
            have hlen : (pre ++ [a]).length = k + 1 := by rw [List.length_append, HP.out]; rfl
            rw [len_of_eqK hlen] at h6
            have ho6 := h6.way.own
            rw [hlen] at ho6
            have hc6 : k + 1 ≤ c6 := by
              rcases ho6.2 with ⟨_, h⟩ | ⟨g, cap, cur, e, _, _, h, _⟩
              · omega
              · injection e with _ _ e3
                omega
            have hop := own_prefix ho6 (Nat.le_succ k)
            rw [intCells_app, show (intCells pre ++ intCells [a]).take k = intCells pre from by rw [List.take_append_of_le_length (by simp [intCells, HP.out]), List.take_of_length_le (by simp [intCells, HP.out])]] at hop
            have hgr : Grew wc (.slice A6 (k + 1) c6) wc (.slice A6 k c6) := ⟨World.grownBy.refl wc _, Or.inl (by cases A6 <;> rfl)⟩
            have hst := h6.store HJ.out HT.out HS.out.pb0 HS.out.pb1 (pre' := pre) hgr (by rw [HP.out]; exact hop)
            have cpb9 := h6.way.box.cell 0
            have fpb9 := h6.way.box.free 0
            have i7 : (k : Int) ≤ c6 := by omega
            have i8 : (k : Int) ≤ (k : Int) + 1 := by omega
            have HST9 := Lib.hid hst; have HC6 := Lib.hid hc6
            clear h6 ho6 hop hgr hst hlen hc6 cO cY cW cb0 cb1 ctj c0r cpb
            go_wp2_with fail
            go_roundg (m - (j + 1))
            case rel => exact ⟨j + 1, HLT.out, Nat.le_succ_of_le HJJ.out, rfl, by go_num, _, _, HST9.out⟩
            case measure => have := HLT.out; omega
          · have H6 := Lib.hid h6; have B6 := Lib.hid b6; have B7 := Lib.hid b7; have B8 := Lib.hid b8
            clear h6 b6 b7 b8 cO cY cW cb0 cb1 ctj c0r cpb
            go_wp2_with fail
            go_ret
            exact Or.inr ⟨rfl, G6, k6, B6.out, B7.out, B8.out, H6.out⟩
      · have t2 : decide ((s : Int) < t) = false := decide_eq_false hst
        have hend := cut_end C (n := n) HK.out (L := L) (j := j) f t (Or.inr (by rw [hs]; omega))
        rw [← hend] at hw
        have HW := Lib.hid (hw.less HX2.out); have HB3 := Lib.hid (fun W (hW : Below wr.heap.size wr W) => (hw.less HX2.out).below HJ.out hW)
        clear hw hh1 hh2 hbx ST hs hsM hst hend hlt hjL
        go_wp2_with fail
        refine HST.out.mono ?_; rintro e w3 ⟨rfl, hb3⟩
        have HW3 := Lib.hid (HB3.out _ hb3)
        clear hb3 cO cY cW cb0 cb1
        go_wp2_with fail
        go_ret
        exact Or.inl ⟨rfl, _, _, HW3.out⟩
    · obtain rfl : j = m := by omega
      have t1 : decide (j < j) = false := by simp
      have t1' : decide ((j : Int) < (j : Int)) = false := by simp
      have hend := cut_end C (n := n) HK.out (L := L) (j := j) f t (Or.inl HM.out.symm)
      rw [← hend] at hw
      have HW := Lib.hid (hw.less HX2.out)
      clear hw hh1 hh2 hbx hend hlt
      go_wp2_with fail
      go_ret
      exact Or.inl ⟨rfl, _, _, HW.out⟩
theorem ewalk_any {Wo W1 : World} {rb n N M : Nat} {C : List (List Int)} {Cp : Nat → Prop} {B pb ob yb wb l : Nat} {LL : Nat → List Int} {J Jx : (Nat → Prop) → Nat → World → Prop}
    (hS : RSet Wo W1 rb n C Cp B pb ob yb wb l) (hJ : StaysW J B) (hT : TakesW J B) (hY : RoundW Tryz.prog Cp 3 N LL l J Jx B) (hM : M ≤ 1000000000000000000) :
    ∀ (d k : Nat), k + (d + 1) = n → ∀ (X : Nat → Prop) (R : World) (pre L : List Int) (tt ends v : Value) (f t : Int) (G : Nat → Prop) (q : Nat) (A : World), pre.length = k → L.length ≤ 100000 → (∀ a ∈ L, a ∈ rowP C k) → SeqV Wo tt L → SeqV Wo ends (endsL (cntP C (n - 1 - k) k) L) →
      (L.map (cntP C (n - 1 - k) k)).sum ≤ M → -((M : Int) * k) ≤ f → f ≤ M → 0 < t → t ≤ M → WayK J Cp B W1 pb X R G q v pre A →
      (∀ i Y, (cutZ (subP n C k L) f t)[i]? = some Y → q + i < N ∧ LL (q + i) = pre ++ Y) →
      Calls Tryz.prog 37 #[.agg #[tt, ends], .int .i64 f, .int .i64 t, .pointer (some ⟨pb, 0, none⟩), .pointer (some ⟨ob, 0, none⟩), .pointer (some ⟨yb, 0, none⟩), .pointer (some ⟨wb, 0, none⟩)] A
        (EWTo J Jx Cp B W1 pb N X R (q + (cutZ (subP n C k L) f t).length) pre)
  | 0, k, hk => ewalk_one hS hJ hT hY hM k (by omega) (fun h => by omega)
  | d + 1, k, hk => ewalk_one hS hJ hT hY hM k (by omega) (fun _ => ewalk_any hS hJ hT hY hM d (k + 1) (by omega))
end

section
open Go.RowKit
attribute [local go_sem] Oper.semAt_some

/-- A function's value is stored. -/
theorem run_store_fn (P : Program) (w : World) (a : Addr) (m : Mode) (f : Fn) (xs ys : Array Value) : (store a (.func f xs ys) m).run P w = stored P w a (.func f xs ys) m := run_store P w a _ m rfl
attribute [local go_sem] run_store_fn
/-- What becomes of all paths of a part. -/
def EEnd (J Jx : (Nat → Prop) → Nat → World → Prop) (B N : Nat) (w' : World) : Prop := ∃ G, (∀ b, G b → B ≤ b) ∧ (J G N w' ∨ ∃ k, 0 < k ∧ k ≤ N ∧ Jx G k w')
theorem RanksV.heap {Wo A : World} {v : Value} {n : Nat} {C : List (List Int)} (h : RanksV Wo v n C) (hb : ∀ b, b < Wo.heap.size → A.heap[b]? = Wo.heap[b]?) (hs : Wo.heap.size ≤ A.heap.size) : RanksV A v n C := by
  have k := RanksV.below h (worldOf_below hb hs) (Nat.le_refl _)
  exact k
set_option maxRecDepth 100000 in
set_option maxHeartbeats 4000000 in
theorem each_iter {Wo w : World} {v : Value} {n Bp Br : Nat} {C : List (List Int)} {f t : Int} (h : RanksV Wo v n C) (hcells : ∀ b, b < Wo.heap.size → w.heap[b]? = Wo.heap[b]?) (hs : Wo.heap.size ≤ w.heap.size) (hn : 1 ≤ n) (hn8 : n ≤ 8) (hC : C.length ≤ 100000) (hM : totP n C ≤ 1000000000000000000)
    (hr : w.cell? ⟨Br, 0, none⟩ = some v) (h0 : w.cell? ⟨Bp, 0, none⟩ = some (.int .i64 f)) (h1 : w.cell? ⟨Bp, 1, none⟩ = some (.int .i64 t)) (hc : max f 0 < min t (totP n C)) :
    IterW Tryz.prog 36 #[.pointer (some ⟨Bp, 0, none⟩), .pointer (some ⟨Br, 0, none⟩)] (fun b => b < Wo.heap.size ∨ b = Br) 3 (min t (totP n C) - max f 0).toNat (fun i => (allP n C).getD ((max f 0).toNat + i) []) w := by
  intro l J Jx W hW hJ hJx hT hY hI0
  obtain ⟨fm, hfm⟩ : ∃ x, max f 0 = x := ⟨_, rfl⟩
  obtain ⟨tm, htm⟩ : ∃ x, min t (totP n C : Int) = x := ⟨_, rfl⟩
  have hf0 : 0 ≤ fm := by rw [← hfm]; omega
  have htt : tm ≤ totP n C := by rw [← htm]; omega
  rw [hfm, htm] at hc hY ⊢
  obtain ⟨N, hN⟩ : ∃ N, (tm - fm).toNat = N := ⟨_, rfl⟩
  obtain ⟨LL, hLL⟩ : ∃ LL, (fun i => (allP n C).getD (fm.toNat + i) []) = LL := ⟨_, rfl⟩
  rw [hN, hLL] at hY
  rw [hN]
  have hBr : Br < w.heap.size := World.block_lt_of_cell? _ _ hr
  have hWs := hW.size
  have hsW : Wo.heap.size ≤ W.heap.size := Nat.le_trans hs hWs
  have hcW : ∀ b, b < Wo.heap.size → W.heap[b]? = Wo.heap[b]? := fun b hb => (hW.block b (Nat.lt_of_lt_of_le hb hs)).trans (hcells b hb)
  obtain ⟨W1, hW1⟩ : ∃ X, W.alloc (.cells #[.func (.yield l) #[] #[]] 84) = X := ⟨_, rfl⟩
  have hb1 : Below W.heap.size W W1 := by rw [← hW1]; exact (Below.refl _ _).alloc (Nat.le_refl _) _
  have hyb : Whole W1 W.heap.size 84 #[.func (.yield l) #[] #[]] := by rw [← hW1]; exact Whole.new _ _ _
  have hbw : Below w.heap.size w W1 := hW.trans (hb1.mono hW.size)
  obtain ⟨rb, tt, ends, rfl, rk, r1, r2, r3, r4⟩ := id h
  have TT : Hid (∀ X, Below W1.heap.size W1 X → Calls Tryz.prog 12 #[.pointer (some ⟨rb, 0, none⟩)] X fun e w' => e = .returned (.int .i64 (totP n C)) ∧ Below X.heap.size X w') := Lib.hid (fun X hX => by
    have hX1 := hb1.trans (hX.mono hb1.size)
    exact rtotal_any (h.heap (fun b hb => (hX1.block b (Nat.lt_of_lt_of_le hb hsW)).trans (hcW b hb)) (Nat.le_trans hsW hX1.size)) hC)
  have KS := Lib.hid (fun X (hX : Below W1.heap.size W1 X) => And.intro hX (And.intro (cell_below (cell_below hr hbw (Nat.le_refl _)) hX (Nat.le_refl _)) (And.intro (cell_below (cell_below h0 hbw (Nat.le_refl _)) hX (Nat.le_refl _)) (cell_below (cell_below h1 hbw (Nat.le_refl _)) hX (Nat.le_refl _)))))
  have t9 : decide (tm ≤ fm) = false := decide_eq_false (by omega)
  have HFM := Lib.hid hfm; have HTM := Lib.hid htm; have HW1 := Lib.hid hW1; have HB1 := Lib.hid hb1; have HYB := Lib.hid hyb; have HC := Lib.hid hc; have HF0 := Lib.hid hf0; have HTT := Lib.hid htt
  have HJ := Lib.hid hJ; have HJX := Lib.hid hJx; have HT := Lib.hid hT; have HY := Lib.hid hY; have HI := Lib.hid hI0; have HN := Lib.hid hN; have HLL := Lib.hid hLL; have HMM := Lib.hid hM
  have HCW := Lib.hid hcW; have HSW := Lib.hid hsW; have HBR := Lib.hid (show Br < W.heap.size by omega); have CB := Lib.hid ((hW.cell (p := ⟨Br, 0, none⟩) hBr).trans hr)
  have RK := Lib.hid rk; have R1 := Lib.hid r1; have R2 := Lib.hid r2; have R3 := Lib.hid r3; have R4 := Lib.hid r4
  clear h hcells hs hr h0 h1 hc hW hJ hJx hT hY hI0 hfm htm hf0 htt hN hLL hBr hWs hsW hcW hW1 hb1 hyb hbw rk r1 r2 r3 r4 hM
  refine callsIn_wide.2 ?_
  show Calls Tryz.prog 36 #[.func (.yield l) #[] #[], .pointer (some ⟨Bp, 0, none⟩), .pointer (some ⟨Br, 0, none⟩)] W _
  go_enter Tryz.func36, Tryz.ntmps36
  go_upto_region 1 with fail
  rw [HW1.out]
  go_region_held3 (fun X => Below W1.heap.size W1 X ∧ X.cell? ⟨Br, 0, none⟩ = some (.pointer (some ⟨rb, 0, none⟩)) ∧ X.cell? ⟨Bp, 0, none⟩ = some (.int .i64 f) ∧ X.cell? ⟨Bp, 1, none⟩ = some (.int .i64 t))
    (exact KS.out _ (by first | assumption | exact below_drewN' (Below.refl _ _) 1))
    ((go_at_call 12; refine (TT.out _ (by first | assumption | exact below_drewN' (Below.refl _ _) 1)).mono ?_; rintro e' wR ⟨rfl, hbR0⟩; have hbR := Below.trans (B := W1.heap.size) (by first | assumption | exact below_drewN' (Below.refl W1.heap.size _) 1) (hbR0.mono (by first | exact Below.size (by assumption) | exact Nat.le_refl _))))
  all_goals
    try rw [HFM.out]
    try rw [HTM.out]
    have hbR1 : Below W1.heap.size W1 wR := hbR
    clear hbR0 hbR
    -- the boxes of the path and the walk
    obtain ⟨W4, hW4⟩ : ∃ X, wR.alloc (.cells #[.slice none 0 0] 23) = X := ⟨_, rfl⟩
    obtain ⟨fv, hfv⟩ : ∃ x, x = Value.func (.func 37) #[] #[.pointer (some ⟨wR.heap.size, 0, none⟩), .pointer (some ⟨Br, 0, none⟩), .pointer (some ⟨W.heap.size, 0, none⟩), .pointer (some ⟨W4.heap.size, 0, none⟩)] := ⟨_, rfl⟩
    obtain ⟨Wa, hWa⟩ : ∃ X, W4.alloc (.cells #[.nilFunc] 85) = X := ⟨_, rfl⟩
    have ka : Whole Wa W4.heap.size 85 #[.nilFunc] := by rw [← hWa]; exact Whole.new _ _ _
    have ca := ka.cell 0
    have fa := ka.free 0
    obtain ⟨W5, hW5⟩ : ∃ X, Wa.setCell ⟨W4.heap.size, 0, none⟩ fv = X := ⟨_, rfl⟩
    have hs4 : W4.heap.size = wR.heap.size + 1 := by rw [← hW4]; simp
    have hb4 : Below wR.heap.size wR W4 := by rw [← hW4]; exact (Below.refl _ _).alloc (Nat.le_refl _) _
    have hba : Below W4.heap.size W4 Wa := by rw [← hWa]; exact (Below.refl _ _).alloc (Nat.le_refl _) _
    have hb5 : Below W4.heap.size W4 W5 := by rw [← hW5]; exact hba.setCell (Nat.le_refl _) _
    have k4 : Whole W4 wR.heap.size 23 #[.slice none 0 0] := by rw [← hW4]; exact Whole.new _ _ _
    have k5 : Whole W5 W4.heap.size 85 #[fv] := by rw [← hW5]; exact ka.put 0 fv
    have hsa : Wa.heap.size = wR.heap.size + 2 := by rw [← hWa]; simp [hs4]
    have hs5 : W5.heap.size = wR.heap.size + 2 := by rw [← hW5, size_put]; exact hsa
    have hb25 : Below wR.heap.size wR W5 := hb4.trans (hb5.mono hb4.size)
    have hbW : Below W.heap.size W W5 := (HB1.out.trans (hbR1.mono HB1.out.size)).trans (hb25.mono (Nat.le_trans HB1.out.size hbR1.size))
    have h1s := HB1.out.size
    have h2s := hbR1.size
    have hyl := HYB.out.lt
    have k5y : Whole W5 W.heap.size 84 #[.func (.yield l) #[] #[]] := (HYB.out.below hbR1 hyl).below hb25 (by omega)
    have hPS : RSet Wo W5 rb n C (fun b => b < Wo.heap.size ∨ b = Br) W.heap.size wR.heap.size Br W.heap.size W4.heap.size l :=
      { rk := RK.out, few := hC, len := hn8, cp := fun b hb => Or.inl hb, cpo := Or.inr rfl, old := HSW.out, obl := HBR.out, pb0 := by omega, pb1 := by omega, yb0 := Nat.le_refl _, wb0 := by omega, ybp := by omega, wbp := by omega
        same := fun b hb => (hbW.block b (Nat.lt_of_lt_of_le hb HSW.out)).trans (HCW.out b hb)
        os := Nat.le_trans HSW.out hbW.size
        cO := (hbW.cell (p := ⟨Br, 0, none⟩) HBR.out).trans CB.out
        cY := k5y.cell 0
        cW := by rw [k5.cell 0, hfv]; rfl }
    have hG : ∀ b, (W.heap.size ≤ b ∧ b < W5.heap.size) → W.heap.size ≤ b := fun b hb => hb.1
    have hj5 : J (fun b => W.heap.size ≤ b ∧ b < W5.heap.size) 0 W5 := HJ.out _ 0 W W5 none hG (fun r hr => by cases hr) (HT.out (fun _ => False) _ 0 W hG (fun b hb => Or.inr hb.1) HI.out) (grown_of_below hbW none)
    have hwy : WayAt J (fun b => b < Wo.heap.size ∨ b = Br) W.heap.size W5 wR.heap.size (fun b => W.heap.size ≤ b ∧ b < W5.heap.size) 0 (.slice none 0 0) [] W5 :=
      { inv := hj5, bound := fun b hb => hb, old := fun b k1 k2 => ⟨k1, k2⟩, size := Nat.le_refl _, kept := fun _ _ _ _ => rfl, box := k4.below hb5 k4.lt, own := World.ownsRow_nil _ _ _ _, mine := fun b hb => by simp [Value.ownBlock] at hb }
    have hwy' : WayK J (fun b => b < Wo.heap.size ∨ b = Br) W.heap.size W5 wR.heap.size (fun _ => False) W5 (fun b => W.heap.size ≤ b ∧ b < W5.heap.size) 0 (.slice none 0 0) [] W5.drew :=
      ⟨hwy.below HJ.out (show Below W5.heap.size W5 W5.drew from below_drewN' (Below.refl _ _) 1), fun b hb => hb.elim⟩
    have hlen : (cutZ (subP n C 0 (rowP C 0)) fm tm).length = N := by
      rw [sub_all C hn, cutZ_len _ HF0.out (Int.le_of_lt HC.out) (by rw [all_len]; exact HTT.out)]
      exact HN.out
    have PW := (ewalk_any hPS HJ.out HT.out HY.out HMM.out (n - 1) 0 (by omega) (fun _ => False) W5 [] (rowP C 0) tt ends _ fm tm _ 0 _ rfl (by have := row_len C 0; omega) (fun a ha => ha) R3.out R4.out (Nat.le_refl _) (by have := HF0.out; omega) (by have := HC.out; have := HTT.out; show fm ≤ (totP n C : Int); omega) (by have := HF0.out; have := HC.out; omega) HTT.out hwy' (fun i Y hi => by
      have hil := (List.getElem?_eq_some_iff.1 hi).1
      rw [hlen] at hil
      refine ⟨by omega, ?_⟩
      have hN2 := HN.out
      rw [sub_all C hn, cutZ_at _ HF0.out i (by omega)] at hi
      rw [← HLL.out, Nat.zero_add]
      simp [List.getD, hi])).mono (R' := fun e w' => ∃ x, e = .returned x ∧ EEnd J Jx W.heap.size N w') (by
        rintro e w' (⟨rfl, G, v, hw⟩ | ⟨rfl, G, k, g1, g2, g3, g4⟩)
        · refine ⟨_, rfl, G, fun b hb => (hw.way.bound b hb).1, Or.inl ?_⟩
          have := hw.way.inv
          rw [Nat.zero_add, hlen] at this
          exact this
        · exact ⟨_, rfl, G, g1, Or.inr ⟨k, g2, g3, g4⟩⟩)
    have HPW := Lib.hid PW
    have cB5 : W5.cell? ⟨Br, 0, none⟩ = some (.pointer (some ⟨rb, 0, none⟩)) := hPS.cO
    have cV5 : W5.cell? ⟨W4.heap.size, 0, none⟩ = some fv := k5.cell 0
    have c15 : W5.cell? ⟨rb, 1, none⟩ = some tt := (World.cell?_of_block (a := ⟨rb, 1, none⟩) (hPS.same rb (World.block_lt_of_cell? _ _ R1.out))).trans R1.out
    have c25 : W5.cell? ⟨rb, 2, none⟩ = some ends := (World.cell?_of_block (a := ⟨rb, 2, none⟩) (hPS.same rb (World.block_lt_of_cell? _ _ R2.out))).trans R2.out
    rw [hfv] at cV5 hW5
    have HW4 := Lib.hid hW4; have HW5 := Lib.hid hW5; have HWA := Lib.hid hWa; have HS4 := Lib.hid hs4
    clear hbR1 hW4 hfv hW5 hb4 hb5 k4 k5 hs4 hs5 hb25 hbW h1s h2s hyl k5y hPS hG hj5 hwy hwy' PW hWa ka hba hsa hlen
    go_upto_region 4 with fail
    rw [HW4.out]
    go_upto_region 5 with fail
    rw [HWA.out]
    go_upto_region 6 with fail
    rw [HW5.out]
    clear ca fa
    go_region_with (refine HPW.out.mono ?_; rintro e' wQ ⟨x, rfl, hx⟩; have HX := Lib.hid hx; clear hx)
    all_goals
      go_end0
      exact ⟨⟨_, rfl⟩, HX.out⟩
end

section
open Go.RowKit

/-- Which list comes first. -/
def cmpL : List Int → List Int → Int
  | [], [] => 0
  | [], _ :: _ => -1
  | _ :: _, [] => 1
  | a :: s, b :: t => if a < b then -1 else if b < a then 1 else cmpL s t
theorem cmpL_step {A B : List Int} {k : Nat} (ha : k < A.length) (hb : k < B.length) :
    cmpL (A.drop k) (B.drop k) = if A.getD k 0 < B.getD k 0 then -1 else if B.getD k 0 < A.getD k 0 then 1 else cmpL (A.drop (k + 1)) (B.drop (k + 1)) := by
  rw [List.drop_eq_getElem_cons ha, List.drop_eq_getElem_cons hb, cmpL]
  simp [List.getD, ha, hb]
theorem cmpL_endA {A B : List Int} {k : Nat} (ha : A.length ≤ k) : cmpL (A.drop k) (B.drop k) = if k < B.length then -1 else 0 := by
  rw [List.drop_of_length_le ha]
  by_cases h : k < B.length
  · rw [if_pos h, List.drop_eq_getElem_cons h]; rfl
  · rw [if_neg h, List.drop_of_length_le (by omega)]; rfl
theorem cmpL_endB {A B : List Int} {k : Nat} (hb : B.length ≤ k) (ha : k < A.length) : cmpL (A.drop k) (B.drop k) = 1 := by
  rw [List.drop_of_length_le hb, List.drop_eq_getElem_cons ha]; rfl
theorem cmpL_self : ∀ A, cmpL A A = 0
  | [] => rfl
  | a :: s => by rw [cmpL, if_neg (by omega), if_neg (by omega)]; exact cmpL_self s
set_option maxRecDepth 100000 in
set_option maxHeartbeats 2000000 in
theorem refCompare_any (A B : List Int) (v u : Value) (w : World) (ha : SeqV w v A) (hb : SeqV w u B) (hl : A.length ≤ 1000000000) (_hm : B.length ≤ 1000000000) :
    Calls Tryz.prog 22 #[v, u] w fun e w' => e = .returned (.int .i64 (cmpL A B)) ∧ ∃ d, w' = w.drewN d := by
  obtain ⟨Aa, ca, rfl⟩ := IntsV.form ha
  obtain ⟨Ab, cb, rfl⟩ := IntsV.form hb
  obtain ⟨n, hn⟩ : ∃ n, A.length = n := ⟨_, rfl⟩
  obtain ⟨m, hm⟩ : ∃ m, B.length = m := ⟨_, rfl⟩
  unfold SeqV at ha hb
  rw [hn] at ha hl ⊢
  rw [hm] at hb _hm ⊢
  have HA := Lib.hid ha; have HB := Lib.hid hb; have HN := Lib.hid hn; have HM := Lib.hid hm
  clear ha hb hn hm
  go_enter Tryz.func22, Tryz.ntmps22
  go_wp2_with fail
  go_loopg [5] n (fun g y wr => ∃ k, k ≤ n ∧ k ≤ m ∧ g = n - k ∧ y = .int .i64 (k : Nat) ∧ cmpL A B = cmpL (A.drop k) (B.drop k) ∧ ∃ d, wr = w.drewN d)
  case atStart => exact ⟨0, by omega, by omega, rfl, rfl, rfl, 0, rfl⟩
  case round =>
    obtain ⟨k, hk, hkm, rfl, rfl, heq, d, rfl⟩ := hrel
    have HE := Lib.hid heq
    clear heq
    by_cases hlt : k < n
    · have t1 : decide (k < n) = true := decide_eq_true hlt
      have i1 : (k : Int) < n := by omega
      have i2 : (0 : Int) ≤ k := by omega
      by_cases hltm : k < m
      · obtain ⟨b, off, rfl, hcell⟩ := HA.out.pos hlt
        have hc := hcell k hlt
        obtain ⟨z, hz⟩ : ∃ z : Int, A.getD k 0 = z := ⟨_, rfl⟩
        have hc1 : w.cell? ⟨b, off + k, none⟩ = some (.int .i64 z) := by rw [← hz]; exact hc
        obtain ⟨b', off', rfl, hcell'⟩ := HB.out.pos hltm
        have hc' := hcell' k hltm
        obtain ⟨y, hy⟩ : ∃ z : Int, B.getD k 0 = z := ⟨_, rfl⟩
        have hc2 : w.cell? ⟨b', off' + k, none⟩ = some (.int .i64 y) := by rw [← hy]; exact hc'
        have t2 : decide (k < m) = true := decide_eq_true hltm
        have i3 : (k : Int) < m := by omega
        have HST : Hid (cmpL A B = if z < y then -1 else if y < z then 1 else cmpL (A.drop (k + 1)) (B.drop (k + 1))) := Lib.hid (by
          rw [HE.out, cmpL_step (by rw [HN.out]; exact hlt) (by rw [HM.out]; exact hltm), hz, hy])
        have HLM := Lib.hid hltm; have HLT := Lib.hid hlt
        clear hcell' hc' hy hltm hcell hc hz hlt
        by_cases h1 : z < y
        · have HF : Hid (cmpL A B = -1) := Lib.hid (by rw [HST.out, if_pos h1])
          have t3 : decide (z < y) = true := decide_eq_true h1
          clear h1
          go_wp2_with fail
          go_quiet (fail)
          go_wp2_with fail
          go_ret
          exact ⟨by rw [HF.out]; rfl, _, by rw [World.drewN_drewN]⟩
        · have t3 : decide (z < y) = false := decide_eq_false h1
          by_cases h2 : y < z
          · have HF : Hid (cmpL A B = 1) := Lib.hid (by rw [HST.out, if_neg h1, if_pos h2])
            have t4 : decide (y < z) = true := decide_eq_true h2
            clear h1 h2
            go_wp2_with fail
            go_quiet (fail)
            go_wp2_with fail
            go_quiet (fail)
            go_wp2_with fail
            go_ret
            exact ⟨by rw [HF.out]; rfl, _, by rw [World.drewN_drewN, World.drewN_drewN]⟩
          · have HF : Hid (cmpL A B = cmpL (A.drop (k + 1)) (B.drop (k + 1))) := Lib.hid (by rw [HST.out, if_neg h1, if_neg h2])
            have t4 : decide (y < z) = false := decide_eq_false h2
            clear h1 h2
            go_wp2_with fail
            go_quiet (fail)
            go_wp2_with fail
            go_quiet (fail)
            go_wp2_with fail
            go_roundg (n - (k + 1))
            case rel => exact ⟨k + 1, HLT.out, HLM.out, rfl, by go_num, HF.out, _, rfl⟩
            case measure => have := HLT.out; omega
      · have t2 : decide (k < m) = false := decide_eq_false hltm
        have t5 : decide (n < m) = false := decide_eq_false (by omega)
        have t6 : decide (m < n) = true := decide_eq_true (by omega)
        have HF : Hid (cmpL A B = 1) := Lib.hid (by rw [HE.out, cmpL_endB (by rw [HM.out]; omega) (by rw [HN.out]; exact hlt)])
        clear hltm hlt
        go_wp2_with fail
        go_ret
        exact ⟨by rw [HF.out]; rfl, _, rfl⟩
    · obtain rfl : k = n := by omega
      have t1 : decide (k < k) = false := by simp
      have HF : Hid (cmpL A B = if k < m then -1 else 0) := Lib.hid (by rw [HE.out, cmpL_endA (by rw [HN.out]; omega), HM.out])
      clear hlt
      by_cases hkm2 : k < m
      · have t2 : decide (k < m) = true := decide_eq_true hkm2
        have HG : Hid (cmpL A B = -1) := Lib.hid (by rw [HF.out, if_pos hkm2])
        clear hkm2
        go_wp2_with fail
        go_ret
        exact ⟨by rw [HG.out]; rfl, _, rfl⟩
      · have t2 : decide (k < m) = false := decide_eq_false hkm2
        have t3 : decide (m < k) = false := decide_eq_false (by omega)
        have HG : Hid (cmpL A B = 0) := Lib.hid (by rw [HF.out, if_neg hkm2])
        clear hkm2
        go_wp2_with fail
        go_ret
        exact ⟨by rw [HG.out]; rfl, _, rfl⟩
end

section
open Go.RowKit

theorem sub_sorted {n : Nat} (C : List (List Int)) : ∀ (d k : Nat) (L : List Int), k + d = n → Rising L → (subP n C k L).Pairwise (fun x y => cmpL x y = -1)
  | 0, k, L, hk, _ => by
    rw [subP, if_neg (by omega)]
    simp
  | d + 1, k, L, hk, hr => by
    rw [subP, if_pos (by omega), List.pairwise_flatMap]
    refine ⟨fun a _ => ?_, hr.imp ?_⟩
    · rw [pth_sub C (by omega), List.pairwise_map]
      have hn : Rising (nxt n C k a) := by
        unfold nxt
        split
        · exact link_rising C k a
        · exact List.Pairwise.nil
      refine (sub_sorted C d (k + 1) _ (by omega) hn).imp fun {x y} h => ?_
      rw [cmpL, if_neg (by omega), if_neg (by omega)]
      exact h
    · intro a b hab x hx y hy
      rw [pth_sub C (by omega)] at hx hy
      obtain ⟨x', _, rfl⟩ := List.mem_map.1 hx
      obtain ⟨y', _, rfl⟩ := List.mem_map.1 hy
      rw [cmpL, if_pos hab]
theorem all_sorted {n : Nat} (C : List (List Int)) (hn : 1 ≤ n) : (allP n C).Pairwise (fun x y => cmpL x y = -1) := by
  rw [← sub_all C hn]
  exact sub_sorted C n 0 _ (Nat.zero_add n) (row_rising C 0)
theorem all_next {n : Nat} {C : List (List Int)} (hn : 1 ≤ n) {i : Nat} (hi : i + 1 < (allP n C).length) : cmpL ((allP n C).getD i []) ((allP n C).getD (i + 1) []) = -1 := by
  have h := List.pairwise_iff_getElem.1 (all_sorted C hn) i (i + 1) (by omega) hi (Nat.lt_succ_self i)
  simpa [List.getD, hi, show i < (allP n C).length by omega] using h
/-- A part's paths, whatever part it is. -/
theorem each_ways {Wo w : World} {v : Value} {n Bp Br : Nat} {C : List (List Int)} {f t : Int} (h : RanksV Wo v n C) (hcells : ∀ b, b < Wo.heap.size → w.heap[b]? = Wo.heap[b]?) (hs : Wo.heap.size ≤ w.heap.size) (hn : 1 ≤ n) (hn8 : n ≤ 8) (hC : C.length ≤ 100000) (hM : totP n C ≤ 1000000000000000000)
    (hr : w.cell? ⟨Br, 0, none⟩ = some v) (h0 : w.cell? ⟨Bp, 0, none⟩ = some (.int .i64 f)) (h1 : w.cell? ⟨Bp, 1, none⟩ = some (.int .i64 t)) {N : Nat} (hN : (min t (totP n C) - max f 0).toNat = N) :
    IterW Tryz.prog 36 #[.pointer (some ⟨Bp, 0, none⟩), .pointer (some ⟨Br, 0, none⟩)] (fun b => b < Wo.heap.size ∨ b = Br) 3 N (fun i => (allP n C).getD ((max f 0).toNat + i) []) w := by
  subst hN
  rcases Int.lt_or_le (max f 0) (min t (totP n C)) with hc | hc
  · exact each_iter h hcells hs hn hn8 hC hM hr h0 h1 hc
  · have e : (min t (totP n C) - max f 0).toNat = 0 := by omega
    rw [e]
    obtain ⟨rb, tt, ends, rfl, _⟩ := id h
    exact (each_none _ _ _ hr h0 h1 (fun W hW => rtotal_any (h.heap (fun b hb => (hW.block b (Nat.lt_of_lt_of_le hb hs)).trans (hcells b hb)) (Nat.le_trans hs hW.size)) hC) hc).ways
end
end Go.Proofs.YtgphdngfbcjmcaaGreatDoor
