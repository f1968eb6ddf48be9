/- odag: the function that walks along paths: its contract. -/
import Derived.Test.YtcmocigckcjdjaaGreatDoorNextF13
import Derived.Test.YtcmocigckcjdjaaGreatDoorPthP13
import Derived.Deep.CutBlock
import Derived.Deep.DeepCutAuto
import Derived.Deep.RegionHeld3
import Derived.RegionIn
import Derived.TacticsInMore
import Derived.OwnWalkIn
namespace Go.Proofs.YtcmocigckcjdjaaGreatDoor
open Go.RowKit
attribute [local go_sem] Oper.semAt_some

/-- What the walk is made with. -/
structure PSet (Wo W1 : World) (vo ov : Value) (n : Nat) (C : List (List Int)) (Cp : Nat → Prop) (B pb qb ob yb wb l : Nat) : Prop where
  odag : OdagC Wo vo n C
  few : C.length ≤ 100000
  len : n ≤ 8
  cp : ∀ b, b < Wo.heap.size → Cp b
  cpo : Cp ob
  old : Wo.heap.size ≤ B
  obl : ob < B
  pb0 : B ≤ pb
  pb1 : pb < W1.heap.size
  qb0 : B ≤ qb
  yb0 : B ≤ yb
  wb0 : B ≤ wb
  qbp : qb ≠ pb
  ybp : yb ≠ pb
  wbp : wb ≠ pb
  same : ∀ b, b < Wo.heap.size → W1.heap[b]? = Wo.heap[b]?
  os : Wo.heap.size ≤ W1.heap.size
  cO : W1.cell? ⟨ob, 0, none⟩ = some vo
  cQ : W1.cell? ⟨qb, 0, none⟩ = some ov
  cY : W1.cell? ⟨yb, 0, none⟩ = some (.func (.yield l) #[] #[])
  cW : W1.cell? ⟨wb, 0, none⟩ = some (.func (.func 39) #[] #[.pointer (some ⟨pb, 0, none⟩), .pointer (some ⟨qb, 0, none⟩), .pointer (some ⟨ob, 0, none⟩), .pointer (some ⟨yb, 0, none⟩), .pointer (some ⟨wb, 0, none⟩)])
  opn : Firm (fun b => (b < Wo.heap.size ∨ B ≤ b) ∧ b ≠ pb) W1 fun X => ListsV X ov (rowsP n C)
section
variable {Wo W1 A : World} {vo ov v : Value} {n q : Nat} {C : List (List Int)} {Cp G : Nat → Prop} {B pb qb ob yb wb l : Nat} {J : (Nat → Prop) → Nat → World → Prop} {pre : List Int}
theorem PSet.blk (_h : PSet Wo W1 vo ov n C Cp B pb qb ob yb wb l) (k : WayAt J Cp B W1 pb G q v pre A) {b : Nat} (hb : b < W1.heap.size) (hp : b ≠ pb) (hc : B ≤ b ∨ Cp b) {x : Value} (hx : W1.cell? ⟨b, 0, none⟩ = some x) : A.cell? ⟨b, 0, none⟩ = some x :=
  (World.cell?_of_block (a := ⟨b, 0, none⟩) (k.kept b hb hp hc)).trans hx
theorem PSet.heap (h : PSet Wo W1 vo ov n C Cp B pb qb ob yb wb l) (k : WayAt J Cp B W1 pb G q v pre A) : (∀ b, b < Wo.heap.size → A.heap[b]? = Wo.heap[b]?) ∧ Wo.heap.size ≤ A.heap.size :=
  ⟨fun b hb => (k.kept b (Nat.lt_of_lt_of_le hb h.os) (by have := h.pb0; have := h.old; omega) (Or.inr (h.cp b hb))).trans (h.same b hb), Nat.le_trans h.os k.size⟩
/-- What it reads. -/
theorem PSet.read (h : PSet Wo W1 vo ov n C Cp B pb qb ob yb wb l) (k : WayAt J Cp B W1 pb G q v pre A) :
    OdagC A vo n C ∧ A.cell? ⟨ob, 0, none⟩ = some vo ∧ A.cell? ⟨qb, 0, none⟩ = some ov ∧ A.cell? ⟨yb, 0, none⟩ = some (.func (.yield l) #[] #[]) ∧
      A.cell? ⟨wb, 0, none⟩ = some (.func (.func 39) #[] #[.pointer (some ⟨pb, 0, none⟩), .pointer (some ⟨qb, 0, none⟩), .pointer (some ⟨ob, 0, none⟩), .pointer (some ⟨yb, 0, none⟩), .pointer (some ⟨wb, 0, none⟩)]) ∧ ListsV A ov (rowsP n C) := by
  obtain ⟨h1, h2⟩ := h.heap k
  exact ⟨h.odag.heap h1 h2, h.blk k (b := ob) (World.block_lt_of_cell? _ _ h.cO) (by have := h.obl; have := h.pb0; omega) (Or.inr h.cpo) h.cO, h.blk k (b := qb) (World.block_lt_of_cell? _ _ h.cQ) h.qbp (Or.inl h.qb0) h.cQ, h.blk k (b := yb) (World.block_lt_of_cell? _ _ h.cY) h.ybp (Or.inl h.yb0) h.cY,
    h.blk k (b := wb) (World.block_lt_of_cell? _ _ h.cW) h.wbp (Or.inl h.wb0) h.cW, (k.firm h.opn (fun b hb => ⟨hb.2, hb.1.symm.imp id (fun h1 => h.cp b h1)⟩)).here⟩
end

/-- What the walk ends in. -/
def PWTo (J Jx : (Nat → Prop) → Nat → World → Prop) (Cp : Nat → Prop) (B : Nat) (W1 : World) (pb N q : Nat) (pre : List Int) (e : Ending) (w' : World) : Prop :=
  (e = .returned (.bool true) ∧ ∃ G v, WayAt J Cp B W1 pb G q v pre w') ∨ (e = .returned (.bool false) ∧ ∃ G k, (∀ b, G b → B ≤ b) ∧ 0 < k ∧ k ≤ N ∧ Jx G k w')
/-- What a round ends in. -/
def PWCut (J Jx : (Nat → Prop) → Nat → World → Prop) (Cp : Nat → Prop) (B : Nat) (W1 : World) (pb N q : Nat) (pre : List Int) (x : Value) (w' : World) : Prop :=
  (x = .bool true ∧ ∃ G v, WayAt J Cp B W1 pb G q v pre w') ∨ (x = .bool false ∧ ∃ G k, (∀ b, G b → B ≤ b) ∧ 0 < k ∧ k ≤ N ∧ Jx G k w')

theorem cell_below7 {w w' : World} {p : Addr} {v : Value} (h : w.cell? p = some v) (hb : Below w.drew.heap.size w.drew w') : w'.cell? p = some v :=
  (hb.cell (p := p) (World.block_lt_of_cell? w p h)).trans h
theorem cell_belowW {w w' : World} {p : Addr} {v : Value} (h : w.cell? p = some v) (hb : Below w.heap.size w w') : w'.cell? p = some v :=
  (hb.cell (p := p) (World.block_lt_of_cell? _ _ h)).trans h
/-- Ahead of the j-th number. -/
def PWLoop (J : (Nat → Prop) → Nat → World → Prop) (Cp : Nat → Prop) (B : Nat) (W1 : World) (pb q : Nat) (pre : List Int) (w' : World) : Prop := ∃ G v, WayAt J Cp B W1 pb G q v pre w'
theorem len_of_eq {Ap : Option Addr} {pre : List Int} {k c : Nat} (h : pre.length = k) : Value.slice Ap pre.length c = .slice Ap k c := by rw [h]

set_option maxRecDepth 100000 in
set_option maxHeartbeats 4000000 in
theorem pwalk_one {Wo W1 : World} {vo ov : Value} {n N : Nat} {C : List (List Int)} {Cp : Nat → Prop} {B pb qb ob yb wb l : Nat} {L : Nat → List Int} {J Jx : (Nat → Prop) → Nat → World → Prop}
    (hS : PSet Wo W1 vo ov n C Cp B pb qb ob yb wb l) (hJ : StaysW J B) (hT : TakesW J B) (hY : RoundW Tryz.prog Cp 3 N L l J Jx B) (k : Nat) (hk : k < n)
    (IH : k + 1 < n → ∀ (pre T : List Int) (u v : Value) (G : Nat → Prop) (q : Nat) (A : World), pre.length = k + 1 → T.length ≤ 100000 → (∀ a ∈ T, a ∈ rowP C (k + 1)) → SeqC Wo u T → WayAt J Cp B W1 pb G q v pre A →
      (∀ i Y, (subP n C (k + 1) T)[i]? = some Y → q + i < N ∧ L (q + i) = pre ++ Y) →
      Calls Tryz.prog 39 #[u, .pointer (some ⟨pb, 0, none⟩), .pointer (some ⟨qb, 0, none⟩), .pointer (some ⟨ob, 0, none⟩), .pointer (some ⟨yb, 0, none⟩), .pointer (some ⟨wb, 0, none⟩)] A
        (PWTo J Jx Cp B W1 pb N (q + (subP n C (k + 1) T).length) pre))
    (pre T : List Int) (u v : Value) (G : Nat → Prop) (q : Nat) (A : World) (hp : pre.length = k) (hTl : T.length ≤ 100000) (hTr : ∀ a ∈ T, a ∈ rowP C k) (hu : SeqC Wo u T) (hA : WayAt J Cp B W1 pb G q v pre A)
    (hL : ∀ i Y, (subP n C k T)[i]? = some Y → q + i < N ∧ L (q + i) = pre ++ Y) :
      Calls Tryz.prog 39 #[u, .pointer (some ⟨pb, 0, none⟩), .pointer (some ⟨qb, 0, none⟩), .pointer (some ⟨ob, 0, none⟩), .pointer (some ⟨yb, 0, none⟩), .pointer (some ⟨wb, 0, none⟩)] A
        (PWTo J Jx Cp B W1 pb N (q + (subP n C k T).length) pre) := by
  obtain ⟨i0, hi0, hz0, hz1, hz2⟩ := info_parts Tryz.infoInt6
  obtain ⟨Ao, co, rfl⟩ := (hS.read hA).2.2.2.2.2.form
  rw [rowsP_len] at hS
  obtain ⟨hus, Au, cu, rfl, _⟩ := hu
  obtain ⟨m, hm⟩ : ∃ m, T.length = m := ⟨_, rfl⟩
  obtain ⟨z, hz⟩ : ∃ z : Bool, ((k : Int) == (n : Int) - 1) = z := ⟨_, rfl⟩
  have hzk : z = true ↔ k + 1 = n := by rw [← hz, beq_iff_eq]; omega
  obtain ⟨Ap, cp, rfl⟩ := own_form hA.own
  rw [len_of_eq hp] at hA
  rw [hm] at hus ⊢
  have cpb : A.cell? ⟨pb, 0, none⟩ = some (.slice Ap k cp) := hA.box.cell 0
  have HS := Lib.hid hS; have HJ := Lib.hid hJ; have HT := Lib.hid hT; have HY := Lib.hid hY; have HIH := Lib.hid IH
  have HP := Lib.hid hp; have HTR := Lib.hid hTr; have HUS := Lib.hid hus; have HL := Lib.hid hL; have HM := Lib.hid hm; have HZK := Lib.hid hzk
  have HK := Lib.hid hk
  have HA : Hid (PWLoop J Cp B W1 pb (q + offP n C k T 0) pre A) := Lib.hid ⟨G, _, by rw [off_zero]; exact hA⟩
  have hn8 : (n : Int) ≤ 8 := by have := hS.len; omega
  have hkn : (k : Int) < n := by omega
  clear hS hJ hT hY IH hp hTr hus hL hA hzk hk
  go_enter Tryz.func39, Tryz.ntmps39
  go_wp2_with fail
  clear cpb
  go_loopg [16] m (fun gh x wr => ∃ j, j ≤ m ∧ gh = m - j ∧ x = .int .i64 (j : Nat) ∧ PWLoop J Cp B W1 pb (q + offP n C k T j) pre wr)
  case atStart => exact ⟨0, Nat.zero_le _, rfl, rfl, HA.out⟩
  case round =>
    obtain ⟨j, hj, rfl, rfl, hw⟩ := hrel
    by_cases hlt : j < m
    · obtain ⟨G1, v1, hw⟩ := hw
      obtain ⟨Ap, cp, rfl⟩ := own_form hw.own
      rw [len_of_eq HP.out] at hw
      obtain ⟨hO, cO, cQ, cY, cW, hlv⟩ := HS.out.read hw
      obtain ⟨hh1, hh2⟩ := HS.out.heap hw
      have hjT : j < T.length := by rw [HM.out]; exact hlt
      obtain ⟨bu, off, rfl, cz0⟩ := HUS.out.pos hjT
      have cz : wr.cell? ⟨bu, off + j, none⟩ = some (.int .i64 (T.getD j 0)) := (World.cell?_of_block (a := ⟨bu, off + j, none⟩) (hh1 bu (World.block_lt_of_cell? _ _ cz0))).trans cz0
      have haT : T.getD j 0 ∈ T := by simp [List.getD, hjT]
      have hsucc := off_succ C HK.out hjT
      have hidx := fun i Y => sub_idx C HK.out hjT (i := i) (Y := Y)
      obtain ⟨a, ha⟩ : ∃ a, T.getD j 0 = a := ⟨_, rfl⟩
      rw [ha] at cz haT hsucc hidx
      obtain ⟨bo, offo, uo, rfl, cqo, hrow⟩ := hlv.pos (i := k) (by rw [rowsP_len]; exact HK.out)
      rw [show (rowsP n C)[k]'(by rw [rowsP_len]; exact HK.out) = rowP C k by simp [rowsP]] at hrow
      have hrl := row_len C k
      have HAS := has_any hrow.1 (row_rising C k) (by have := HS.out.few; omega) a
      rw [show (rowP C k).contains a = true by simpa using HTR.out a haT] at HAS
      obtain ⟨_, A1, c1, rfl, _⟩ := hrow
      obtain ⟨lr, hlr⟩ : ∃ x, (rowP C k).length = x := ⟨_, rfl⟩
      rw [hlr] at HAS cqo
      have HHAS := Lib.hid HAS; have HW := Lib.hid hw; have HSUCC := Lib.hid hsucc; have HIDX := Lib.hid hidx; have HLT := Lib.hid hlt; have HHT := Lib.hid haT
      have i1 : (j : Int) < m := by omega
      have i2 : (0 : Int) ≤ j := by omega
      have i3 : (0 : Int) ≤ k := by omega
      have t1 : decide (j < m) = true := decide_eq_true hlt
      have cpb : wr.cell? ⟨pb, 0, none⟩ = some (.slice Ap k cp) := hw.box.cell 0
      clear hO hlv hh1 hh2 hjT cz0 ha hsucc hidx haT HAS hlr hrl hw hlt
      go_wp2_with fail
      refine HHAS.out.mono ?_; rintro e w2 ⟨rfl, qq, hw2⟩
      have hwd : WayAt J Cp B W1 pb G1 (q + offP n C k T j) (.slice Ap k cp) pre w2 := HW.out.below HJ.out (by rw [hw2]; exact below_drewN' (Below.refl _ _) qq)
      obtain ⟨hO, cO, cQ, cY, cW, hlv⟩ := HS.out.read hwd
      have cpb2 : w2.cell? ⟨pb, 0, none⟩ = some (.slice Ap k cp) := hwd.box.cell 0
      have HWD := Lib.hid hwd
      have HOWN : Hid (w2.ownsRow W1.heap.size 3 1 (.slice Ap k cp) k (intCells pre)) := Lib.hid (by have := hwd.own; rw [HP.out] at this; exact this)
      have HB2 := Lib.hid hwd.size
      clear hw2 hO hlv hwd cz cqo cpb
      go_upto_region 6 with fail
      go_wp2_with (at_builtin; refine wpList_app1g _ rfl _ _ 44 rfl W1.heap.size 3 i0 (.int .i64 0) 8 Tryz.underlying44 hi0 hz0 hz1 hz2 rfl _ k _ rfl HOWN.out (.int .i64 a) rfl rfl (by omega) (by omega) HB2.out ?_)
      intro A4 c4 w4 hown4 hgrew4
      have hown5 : w4.ownsRow W1.heap.size 3 1 (.slice A4 (k + 1) c4) (pre ++ [a]).length (intCells (pre ++ [a])) := by
        rw [List.length_append, HP.out, intCells_app]; exact hown4
      have hw5 := HWD.out.store HJ.out HT.out HS.out.pb0 HS.out.pb1 hgrew4 hown5
      have hpw : Whole w4 pb 44 #[.slice Ap k cp] := HWD.out.box.grown hgrew4.1 (fun e => by have := (HWD.out.own.lt pb e.symm).1; have := HS.out.pb1; omega)
      have cpb4 := hpw.cell 0
      have fpb4 := hpw.free 0
      have HW5 := Lib.hid hw5
      obtain ⟨w5, hw5e⟩ : ∃ x, w4.setCell ⟨pb, 0, none⟩ (.slice A4 (k + 1) c4) = x := ⟨_, rfl⟩
      rw [hw5e] at HW5
      have HE5 := Lib.hid hw5e
      clear hown4 hown5 hgrew4 hw5 hpw hw5e cO cQ cY cW cpb2
      go_upto_region 7 with fail
      rw [HE5.out]
      obtain ⟨G5, hG5⟩ : ∃ G5, G5 = fun b => G1 b ∨ (w2.heap.size ≤ b ∧ b < w4.heap.size) := ⟨_, rfl⟩
      rw [← hG5] at HW5
      obtain ⟨hO5, cO, cQ, cY, cW, _⟩ := HS.out.read HW5.out
      have HL5 := Lib.hid (len_any hO5)
      have HO5 := Lib.hid hO5
      have cpb : w5.cell? ⟨pb, 0, none⟩ = some (.slice A4 (k + 1) c4) := HW5.out.box.cell 0
      clear hO5 cpb4 fpb4 hG5
      go_wp2_with fail
      refine HL5.out.mono ?_; rintro e w6 ⟨rfl, hw6⟩; obtain rfl := hw6.symm
      go_upto_if 35 with fail
      go_cut [11] (fun x wx => PWCut J Jx Cp B W1 pb N (q + offP n C k T (j + 1)) (pre ++ [a]) x wx)
      case first =>
        cases z with
        | true =>
          have hkn1 := HZK.out.1 rfl
          have hlast : (subP n C (k + 1) (nxt n C k a)).length = 1 ∧ (subP n C (k + 1) (nxt n C k a))[0]? = some [] := by rw [hkn1, sub_last]; exact ⟨rfl, rfl⟩
          obtain ⟨hqN, hLq⟩ := HL.out _ _ (HIDX.out 0 [] hlast.2)
          rw [Nat.add_zero] at hqN hLq
          have hS5 : SeqV w5.drew (.slice A4 (k + 1) c4) (pre ++ [a]) := own_seq (w := w5) HW5.out.own
          have hlen : (pre ++ [a]).length = k + 1 := by rw [List.length_append, HP.out]; rfl
          have CL := clone_any hS5 (by rw [hlen]; have := HK.out; have := HS.out.len; omega)
          rw [hlen] at CL
          replace CL := Lib.hid CL
          have HQN := Lib.hid hqN; have HLQ := Lib.hid hLq
          have HCUT : Hid (∀ u w7, w7.ownsRow w5.drew.heap.size 3 1 u (k + 1) (intCells (pre ++ [a])) → Below w5.drew.heap.size w5.drew w7 → YieldAt Fence.wide 2 Tryz.prog l #[u] w7 fun en A' => ∃ x, en = .returned x ∧ PWCut J Jx Cp B W1 pb N (q + offP n C k T (j + 1)) (pre ++ [a]) x A') := Lib.hid (by
            intro u w7 ho hb
            have hw7 := HW5.out.below HJ.out (show Below w5.heap.size w5 w7 from ⟨hb.os, hb.tape, hb.output, hb.size, hb.block⟩)
            have hBs : B ≤ w5.heap.size := by have := HS.out.pb0; have := HS.out.pb1; have := HW5.out.size; omega
            obtain ⟨fn, tmps, assign, body, hy, hR⟩ := HY.out G5 (q + offP n C k T j) u w7 hw7.bound HQN.out hw7.inv (Nat.le_trans hBs hb.size) (by rw [HLQ.out, hlen]; exact own_base ho hBs) (fun b hb1 hb2 => by
              have h1 := (ho.lt b hb1).1
              have h2 := (HW5.out.bound b hb2).2
              have h3 : w5.drew.heap.size = w5.heap.size := rfl
              omega)
            refine ⟨fn, tmps, assign, body, hy, hR.mono ?_⟩
            rintro en A' (⟨rfl, h1, h2⟩ | ⟨rfl, h1⟩)
            · exact ⟨_, rfl, Or.inl ⟨rfl, G5, _, by rw [HSUCC.out, hlast.1, ← Nat.add_assoc]; exact hw7.round HS.out.pb0 HS.out.pb1 h2 h1⟩⟩
            · exact ⟨_, rfl, Or.inr ⟨rfl, G5, _, fun b hb => (HW5.out.bound b hb).1, Nat.succ_pos _, HQN.out, h1⟩⟩)
          have HKN1 := Lib.hid hkn1
          clear hS5 hqN hLq hlast cO cQ cW hkn1 hlen
          go_wp2_with fail
          refine (wpIn_wide (n := 3)).1 ?_
          refine wpIn_region_any (by kernel_rfl) ?_
          change wpAnyIn _ _ _ _ _ _ _ _ _ (World.drew _)
          refine wpAnyIn_ready (rs := [0, 1]) (by kernel_rfl) (by simp) ?_
          refine AllReadyIn.cons rfl (fun K hK => ?_) (AllReadyIn.cons rfl (fun K hK => ?_) AllReadyIn.nil)
          · go_simp
            refine hK _ _ ?_
            clear hK K
            refine wpAnyIn_ready (rs := [1]) (by kernel_rfl) (by simp) ?_
            refine AllReadyIn.cons rfl (fun K hK => ?_) AllReadyIn.nil
            go_simp
            refine hK _ _ ?_
            clear hK K
            refine wpAnyIn_ready (rs := [2]) (by kernel_rfl) (by simp) ?_
            refine AllReadyIn.cons rfl (fun K hK => ?_) AllReadyIn.nil
            go_simp
            refine ⟨trivial, (callsIn_wide.2 CL.out).mono ?_⟩
            rintro e w7 ⟨u, rfl, ho7, hb7⟩
            obtain ⟨Au, cu7, rfl⟩ := own_form ho7
            have cY7 : w7.cell? ⟨yb, 0, none⟩ = some (.func (.yield l) #[] #[]) := cell_below7 cY hb7
            obtain ⟨fn, tmps, assign, body, hy, hR⟩ := HCUT.out _ w7 ho7 hb7
            have HRR := Lib.hid hR
            clear ho7 hb7 hR
            refine hK _ _ ?_
            clear hK K
            refine wpAnyIn_ready (rs := [3]) (by kernel_rfl) (by simp) ?_
            refine AllReadyIn.cons rfl (fun K hK => ?_) AllReadyIn.nil
            go_simp
            refine HRR.out.mono ?_
            rintro e w8 ⟨x, rfl, hx⟩
            have HX := Lib.hid hx
            clear hx
            refine hK _ _ ?_
            clear hK K
            refine wpAnyIn_ready (rs := [4]) (by kernel_rfl) (by simp) ?_
            refine AllReadyIn.cons rfl (fun K hK => ?_) AllReadyIn.nil
            go_simp
            refine hK _ _ ?_
            clear hK K
            refine wpAnyIn_done (by kernel_rfl) ?_ _
            go_wp2_with fail
            go_meet
            exact HX.out
          · go_simp
            refine hK _ _ ?_
            clear hK K
            refine wpAnyIn_ready (rs := [0, 2]) (by kernel_rfl) (by simp) ?_
            refine AllReadyIn.cons rfl (fun K hK => ?_) (AllReadyIn.cons rfl (fun K hK => ?_) AllReadyIn.nil)
            · go_simp
              refine hK _ _ ?_
              clear hK K
              refine wpAnyIn_ready (rs := [2]) (by kernel_rfl) (by simp) ?_
              refine AllReadyIn.cons rfl (fun K hK => ?_) AllReadyIn.nil
              go_simp
              refine ⟨trivial, (callsIn_wide.2 CL.out).mono ?_⟩
              rintro e w7 ⟨u, rfl, ho7, hb7⟩
              obtain ⟨Au, cu7, rfl⟩ := own_form ho7
              have cY7 : w7.cell? ⟨yb, 0, none⟩ = some (.func (.yield l) #[] #[]) := cell_below7 cY hb7
              obtain ⟨fn, tmps, assign, body, hy, hR⟩ := HCUT.out _ w7 ho7 hb7
              have HRR := Lib.hid hR
              clear ho7 hb7 hR
              refine hK _ _ ?_
              clear hK K
              refine wpAnyIn_ready (rs := [3]) (by kernel_rfl) (by simp) ?_
              refine AllReadyIn.cons rfl (fun K hK => ?_) AllReadyIn.nil
              go_simp
              refine HRR.out.mono ?_
              rintro e w8 ⟨x, rfl, hx⟩
              have HX := Lib.hid hx
              clear hx
              refine hK _ _ ?_
              clear hK K
              refine wpAnyIn_ready (rs := [4]) (by kernel_rfl) (by simp) ?_
              refine AllReadyIn.cons rfl (fun K hK => ?_) AllReadyIn.nil
              go_simp
              refine hK _ _ ?_
              clear hK K
              refine wpAnyIn_done (by kernel_rfl) ?_ _
              go_wp2_with fail
              go_meet
              exact HX.out
            · go_simp
              refine ⟨trivial, (callsIn_wide.2 CL.out).mono ?_⟩
              rintro e w7 ⟨u, rfl, ho7, hb7⟩
              obtain ⟨Au, cu7, rfl⟩ := own_form ho7
              have cY7 : w7.cell? ⟨yb, 0, none⟩ = some (.func (.yield l) #[] #[]) := cell_below7 cY hb7
              obtain ⟨fn, tmps, assign, body, hy, hR⟩ := HCUT.out _ w7 ho7 hb7
              have HRR := Lib.hid hR
              clear ho7 hb7 hR
              refine hK _ _ ?_
              clear hK K
              refine wpAnyIn_ready (rs := [0]) (by kernel_rfl) (by simp) ?_
              refine AllReadyIn.cons rfl (fun K hK => ?_) AllReadyIn.nil
              go_simp
              refine hK _ _ ?_
              clear hK K
              refine wpAnyIn_ready (rs := [3]) (by kernel_rfl) (by simp) ?_
              refine AllReadyIn.cons rfl (fun K hK => ?_) AllReadyIn.nil
              go_simp
              refine HRR.out.mono ?_
              rintro e w8 ⟨x, rfl, hx⟩
              have HX := Lib.hid hx
              clear hx
              refine hK _ _ ?_
              clear hK K
              refine wpAnyIn_ready (rs := [4]) (by kernel_rfl) (by simp) ?_
              refine AllReadyIn.cons rfl (fun K hK => ?_) AllReadyIn.nil
              go_simp
              refine hK _ _ ?_
              clear hK K
              refine wpAnyIn_done (by kernel_rfl) ?_ _
              go_wp2_with fail
              go_meet
              exact HX.out
        | false =>
          have hkn1 : k + 1 < n := by
            have h1 := HK.out
            have h2 := HZK.out
            rcases Nat.lt_or_ge (k + 1) n with h | h
            · exact h
            · have := h2.2 (by omega); cases this
          have NX := Lib.hid (fun W (hW : Below w5.heap.size w5 W) => next_at HS.out.odag (fun b hb => (hW.block b (Nat.lt_of_lt_of_le hb (HS.out.heap HW5.out).2)).trans ((HS.out.heap HW5.out).1 b hb)) (Nat.le_trans (HS.out.heap HW5.out).2 hW.size) HS.out.few HS.out.len k hkn1 a)
          have hLnx := fun i Y (h : (subP n C (k + 1) (nxt n C k a))[i]? = some Y) => HL.out _ _ (HIDX.out i Y h)
          have hnx : nxt n C k a = linkP C k a := by unfold nxt; rw [if_pos hkn1]
          have HLNX := Lib.hid hLnx; have HNX := Lib.hid hnx
          have HWK : Hid (∀ u W, SeqC Wo u (linkP C k a) → Below w5.heap.size w5 W → Calls Tryz.prog 39 #[u, .pointer (some ⟨pb, 0, none⟩), .pointer (some ⟨qb, 0, none⟩), .pointer (some ⟨ob, 0, none⟩), .pointer (some ⟨yb, 0, none⟩), .pointer (some ⟨wb, 0, none⟩)] W fun e w' => ∃ x, e = .returned x ∧ PWCut J Jx Cp B W1 pb N (q + offP n C k T (j + 1)) (pre ++ [a]) x w') := Lib.hid (by
            intro u W hu hW
            refine (HIH.out hkn1 (pre ++ [a]) (nxt n C k a) u _ G5 (q + offP n C k T j) W (by rw [List.length_append, HP.out]; rfl) (by have := nxt_len n C k a; have := HS.out.few; omega) (fun x hx => nxt_row hx) (by rw [HNX.out]; exact hu) (HW5.out.below HJ.out hW) (fun i Y h => by
              have := HLNX.out i Y h
              rw [← Nat.add_assoc] at this
              refine ⟨this.1, this.2.trans ?_⟩
              simp)).mono ?_
            rintro e w' h
            rw [Nat.add_assoc, ← HSUCC.out] at h
            rcases h with ⟨rfl, h⟩ | ⟨rfl, h⟩
            · exact ⟨_, rfl, Or.inl ⟨rfl, h⟩⟩
            · exact ⟨_, rfl, Or.inr ⟨rfl, h⟩⟩)
          clear hLnx hnx hkn1
          go_wp2_with fail
          refine wp_region_any (by kernel_rfl) ?_
          change wpAny _ _ _ _ _ _ _ (World.drew _)
          refine wpAny_take (i := 2) (v := .int .i64 k) rfl (by kernel_rfl) (by kernel_rfl) (by kernel_rfl) (fun _ _ _ h => h) (Or.inl ⟨by rfl, fun w => ?_⟩) ?_
          · go_simp
          refine wpAny_take (i := 3) (v := .int .i64 a) rfl (by kernel_rfl) (by kernel_rfl) (by kernel_rfl) (fun _ _ _ h => h) (Or.inl ⟨by rfl, fun w => ?_⟩) ?_
          · go_simp
          refine wpAny_ready (rs := [0, 1]) (by kernel_rfl) (by simp) ?_
          refine AllReady.cons rfl (fun K hK => ?_) (AllReady.cons rfl (fun K hK => ?_) AllReady.nil)
          · go_simp
            refine hK _ _ ?_
            clear hK K
            refine wpAny_ready (rs := [1]) (by kernel_rfl) (by simp) ?_
            refine AllReady.cons rfl (fun K hK => ?_) AllReady.nil
            go_simp
            refine hK _ _ ?_
            clear hK K
            refine wpAny_ready (rs := [4]) (by kernel_rfl) (by simp) ?_
            refine AllReady.cons rfl (fun K hK => ?_) AllReady.nil
            go_simp
            refine (NX.out _ (below_drewN' (Below.refl _ _) 1)).mono ?_
            rintro e w7 ⟨u7x, rfl, hu7, qq7, hw7⟩
            have hb7 : Below w5.heap.size w5 w7 := by rw [hw7]; exact below_drewN' (below_drewN' (Below.refl _ _) 1) qq7
            have cW7 := cell_belowW cW hb7
            have WK := Lib.hid (HWK.out u7x w7 hu7 hb7)
            clear hu7 hw7 hb7
            refine hK _ _ ?_
            clear hK K
            refine wpAny_ready (rs := [5]) (by kernel_rfl) (by simp) ?_
            refine AllReady.cons rfl (fun K hK => ?_) AllReady.nil
            go_simp
            refine WK.out.mono ?_
            rintro e w8 ⟨x, rfl, hx⟩
            have HX := Lib.hid hx
            clear hx
            refine hK _ _ ?_
            clear hK K
            refine wpAny_ready (rs := [6]) (by kernel_rfl) (by simp) ?_
            refine AllReady.cons rfl (fun K hK => ?_) AllReady.nil
            go_simp
            refine hK _ _ ?_
            clear hK K
            refine wpAny_done (by kernel_rfl) ?_ _
            go_wp2_with fail
            go_meet
            exact HX.out
          · go_simp
            refine hK _ _ ?_
            clear hK K
            refine wpAny_ready (rs := [0, 4]) (by kernel_rfl) (by simp) ?_
            refine AllReady.cons rfl (fun K hK => ?_) (AllReady.cons rfl (fun K hK => ?_) AllReady.nil)
            · go_simp
              refine hK _ _ ?_
              clear hK K
              refine wpAny_ready (rs := [4]) (by kernel_rfl) (by simp) ?_
              refine AllReady.cons rfl (fun K hK => ?_) AllReady.nil
              go_simp
              refine (NX.out _ (below_drewN' (Below.refl _ _) 1)).mono ?_
              rintro e w7 ⟨u7x, rfl, hu7, qq7, hw7⟩
              have hb7 : Below w5.heap.size w5 w7 := by rw [hw7]; exact below_drewN' (below_drewN' (Below.refl _ _) 1) qq7
              have cW7 := cell_belowW cW hb7
              have WK := Lib.hid (HWK.out u7x w7 hu7 hb7)
              clear hu7 hw7 hb7
              refine hK _ _ ?_
              clear hK K
              refine wpAny_ready (rs := [5]) (by kernel_rfl) (by simp) ?_
              refine AllReady.cons rfl (fun K hK => ?_) AllReady.nil
              go_simp
              refine WK.out.mono ?_
              rintro e w8 ⟨x, rfl, hx⟩
              have HX := Lib.hid hx
              clear hx
              refine hK _ _ ?_
              clear hK K
              refine wpAny_ready (rs := [6]) (by kernel_rfl) (by simp) ?_
              refine AllReady.cons rfl (fun K hK => ?_) AllReady.nil
              go_simp
              refine hK _ _ ?_
              clear hK K
              refine wpAny_done (by kernel_rfl) ?_ _
              go_wp2_with fail
              go_meet
              exact HX.out
            · go_simp
              refine (NX.out _ (below_drewN' (Below.refl _ _) 1)).mono ?_
              rintro e w7 ⟨u7x, rfl, hu7, qq7, hw7⟩
              have hb7 : Below w5.heap.size w5 w7 := by rw [hw7]; exact below_drewN' (below_drewN' (Below.refl _ _) 1) qq7
              have cW7 := cell_belowW cW hb7
              have WK := Lib.hid (HWK.out u7x w7 hu7 hb7)
              clear hu7 hw7 hb7
              refine hK _ _ ?_
              clear hK K
              refine wpAny_ready (rs := [0]) (by kernel_rfl) (by simp) ?_
              refine AllReady.cons rfl (fun K hK => ?_) AllReady.nil
              go_simp
              refine hK _ _ ?_
              clear hK K
              refine wpAny_ready (rs := [5]) (by kernel_rfl) (by simp) ?_
              refine AllReady.cons rfl (fun K hK => ?_) AllReady.nil
              go_simp
              refine WK.out.mono ?_
              rintro e w8 ⟨x, rfl, hx⟩
              have HX := Lib.hid hx
              clear hx
              refine hK _ _ ?_
              clear hK K
              refine wpAny_ready (rs := [6]) (by kernel_rfl) (by simp) ?_
              refine AllReady.cons rfl (fun K hK => ?_) AllReady.nil
              go_simp
              refine hK _ _ ?_
              clear hK K
              refine wpAny_done (by kernel_rfl) ?_ _
              go_wp2_with fail
              go_meet
              exact HX.out
      case rest =>
        rcases hcut with ⟨rfl, G6, v6, h6⟩ | ⟨rfl, G6, k6, b6, b7, b8, h6⟩
        · obtain ⟨A6, c6, rfl⟩ := own_form h6.own
          have hlen : (pre ++ [a]).length = k + 1 := by rw [List.length_append, HP.out]; rfl
          rw [len_of_eq hlen] at h6
          have ho6 := h6.own
          rw [hlen] at ho6
          have hc6 : k + 1 ≤ c6 := by
            rcases ho6.2 with ⟨_, h⟩ | ⟨g, cap, cur, e, _, _, h, _⟩
            · omega
            · injection e with _ _ e3
              omega
          have hop := own_prefix ho6 (Nat.le_succ k)
          rw [intCells_app, show (intCells pre ++ intCells [a]).take k = intCells pre from by rw [List.take_append_of_le_length (by simp [intCells, HP.out]), List.take_of_length_le (by simp [intCells, HP.out])]] at hop
          have hgr : Grew wc (.slice A6 (k + 1) c6) wc (.slice A6 k c6) := ⟨World.grownBy.refl wc _, Or.inl (by cases A6 <;> rfl)⟩
          have hst := h6.store HJ.out HT.out HS.out.pb0 HS.out.pb1 (pre' := pre) hgr (by rw [HP.out]; exact hop)
          have cpb9 := h6.box.cell 0
          have fpb9 := h6.box.free 0
          have i7 : (k : Int) ≤ c6 := by omega
          have i8 : (k : Int) ≤ (k : Int) + 1 := by omega
          have HST := Lib.hid hst; have HC6 := Lib.hid hc6
          clear h6 ho6 hop hgr hst hlen hc6
          go_wp2_with fail
          go_roundg (m - (j + 1))
          case rel => exact ⟨j + 1, HLT.out, rfl, by go_num, _, _, HST.out⟩
          case measure => have := HLT.out; omega
        · have H6 := Lib.hid h6; have B6 := Lib.hid b6; have B7 := Lib.hid b7; have B8 := Lib.hid b8
          clear h6 b6 b7 b8
          go_wp2_with fail
          go_ret
          exact Or.inr ⟨rfl, G6, k6, B6.out, B7.out, B8.out, H6.out⟩
    · obtain rfl : j = m := by omega
      have t1 : decide (j < j) = false := by simp
      have hall : offP n C k T j = (subP n C k T).length := by rw [← HM.out]; exact off_all C HK.out T
      rw [hall] at hw
      have HW := Lib.hid hw
      clear hw hlt hall
      go_wp2_with fail
      go_ret
      exact Or.inl ⟨rfl, HW.out⟩

theorem pwalk_any {Wo W1 : World} {vo ov : Value} {n N : Nat} {C : List (List Int)} {Cp : Nat → Prop} {B pb qb ob yb wb l : Nat} {L : Nat → List Int} {J Jx : (Nat → Prop) → Nat → World → Prop}
    (hS : PSet Wo W1 vo ov n C Cp B pb qb ob yb wb l) (hJ : StaysW J B) (hT : TakesW J B) (hY : RoundW Tryz.prog Cp 3 N L l J Jx B) :
    ∀ (d k : Nat), k + (d + 1) = n → ∀ (pre T : List Int) (u v : Value) (G : Nat → Prop) (q : Nat) (A : World), pre.length = k → T.length ≤ 100000 → (∀ a ∈ T, a ∈ rowP C k) → SeqC Wo u T → WayAt J Cp B W1 pb G q v pre A →
      (∀ i Y, (subP n C k T)[i]? = some Y → q + i < N ∧ L (q + i) = pre ++ Y) →
      Calls Tryz.prog 39 #[u, .pointer (some ⟨pb, 0, none⟩), .pointer (some ⟨qb, 0, none⟩), .pointer (some ⟨ob, 0, none⟩), .pointer (some ⟨yb, 0, none⟩), .pointer (some ⟨wb, 0, none⟩)] A
        (PWTo J Jx Cp B W1 pb N (q + (subP n C k T).length) pre)
  | 0, k, hk => pwalk_one hS hJ hT hY k (by omega) (fun h => by omega)
  | d + 1, k, hk => pwalk_one hS hJ hT hY k (by omega) (fun _ => pwalk_any hS hJ hT hY d (k + 1) (by omega))
end Go.Proofs.YtcmocigckcjdjaaGreatDoor
