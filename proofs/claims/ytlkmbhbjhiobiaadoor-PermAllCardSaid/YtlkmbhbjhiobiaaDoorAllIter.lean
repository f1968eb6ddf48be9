/- perm.All: the function that it hands over, as an iterator. -/
import Derived.Test.YtlkmbhbjhiobiaaDoorAdv7
import Derived.Test.YtlkmbhbjhiobiaaDoorRange
import Derived.Test.YtlkmbhbjhiobiaaDoorAppVals
import Derived.Sort.LoopGhostIn
import Derived.RangeFuncWrites
import Derived.RangeFuncCalls
import Derived.TacticsInMore
import Derived.OwnWalkIn
import Derived.LoopNIn
import Derived.LoopIn
import Derived.Deep.OwnRows
namespace Go.Proofs.YtlkmbhbjhiobiaaDoor
open Go.RowKit
attribute [local go_sem] Oper.semAt_some

theorem ord0_all : ((List.range 7).all fun n => decide (ord n 0 = upto n)) = true := by kernel_rfl
theorem ord_first {n : Nat} (hn : n ≤ 6) : ord n 0 = upto n := of_decide_eq_true (List.all_eq_true.1 ord0_all n (List.mem_range.2 (by omega)))
theorem unr_len : ∀ (m : Nat) (L : List Int) (r : Nat), (unr m L r).length = m
  | 0, _, _ => rfl
  | m + 1, L, r => by rw [unr, List.length_cons, unr_len m]
theorem ord_len (n r : Nat) : (ord n r).length = n := unr_len n _ r
theorem cellsOf_int (L : List Int) : cellsOf L = intCells L := rfl
theorem below_grown {w w' : World} {row : Option Nat} (h : Below w.heap.size w w') : w.grownBy w' row := ⟨h.os, h.tape, h.output, h.size, fun i hi _ => h.block i hi⟩

theorem id_whole {w : World} {base g n : Nat} (h : w.ownsRow base 3 1 (.slice (some ⟨g, 0, none⟩) n n) n (ints (fun i => i) n)) : Whole w g 3 (icells (upto n)) := by
  rcases h.2 with ⟨h1, _⟩ | ⟨g', cap, cur, h1, _, hh, hnc, _, hsz, htk⟩
  · cases h1
  · injection h1 with e1 e2 e3
    injection e1 with e1
    injection e1 with e1 _
    subst e1 e3
    have hc : cur.toList = ints (fun i => i) n := by
      rw [← htk, List.take_of_length_le]
      simp [hsz]
    have : cur = icells (upto n) := by
      apply Array.toList_inj.1
      rw [hc]
      simp [icells, intCells, ints, upto]
    unfold Whole
    rw [hh, this]

/-- A row of numbers in a block of its own, cloned. -/
theorem clone_whole (L : List Int) (n g : Nat) (w : World) (hn : L.length = n) (hn8 : n ≤ 1000) (hw : Whole w g 3 (icells L)) :
    Calls Tryd.prog 35 #[.slice (some ⟨g, 0, none⟩) n n] w fun e w' => ∃ v, e = .returned v ∧ w'.ownsRow w.heap.size 3 1 v n (intCells L) ∧ Below w.heap.size w w' := by
  have h := Tryd.slices_Clone_int g 0 n n L w (by omega) (by omega) (fun j hj => by rw [Nat.zero_add, hw.cell, icells_at hj])
  rw [← hn, List.take_length, hn] at h
  exact h.mono fun e w' ⟨v, he, ho, _, hb⟩ => ⟨v, he, ho, hb⟩

/-- Between two rounds. -/
def OrdAt (n g : Nat) (Bn : Nat) (J : Nat → Nat → World → Prop) (W : World) (r : Nat) (wr : World) : Prop :=
  Whole wr g 3 (icells (ord n r)) ∧ J g r wr ∧ W.heap.size ≤ wr.heap.size ∧ wr.heap[Bn]? = W.heap[Bn]?

set_option maxRecDepth 100000 in
theorem all_any (n : Int) (w : World) :
    Calls Tryd.prog 22 #[.int .i64 n] w fun e w' => e = .returned (.func (.func 34) #[] #[.pointer (some ⟨w.heap.size, 0, none⟩)]) ∧ w' = w.alloc (.cells #[.int .i64 n] 3) := by
  go_enter Tryd.func22, Tryd.ntmps22
  go_wp2_with fail
  go_ret
  exact ⟨rfl, rfl⟩

set_option maxRecDepth 100000 in
set_option maxHeartbeats 1000000 in
theorem all_iter0 (n : Int) (Bn : Nat) (w : World) (hn : mayB n = false) (hc : w.cell? ⟨Bn, 0, none⟩ = some (.int .i64 n)) (L : Nat → List Int) :
    IterOk Tryd.prog 34 #[.pointer (some ⟨Bn, 0, none⟩)] (fun b => b = Bn) 3 0 L w := by
  intro l J Jx W hW _ _ _ h0
  have hBn : Bn < w.heap.size := World.block_lt_of_cell? _ _ hc
  have c1 := (hW.cell (p := ⟨Bn, 0, none⟩) hBn).trans hc
  have M1 := may_any n W
  rw [hn] at M1
  have HM := Lib.hid M1
  have H0 := Lib.hid h0
  clear hc hW h0 hn M1
  refine callsIn_of_wp Tryd.func34 rfl trivial ?_ rfl
  simp only [Tryd.ntmps34, List.size_toArray, List.length_cons, List.length_nil, Nat.reduceAdd, Nat.reduceSub, Array.replicate_succ, Array.replicate_zero, List.push_toArray, List.append_toArray, List.nil_append, List.cons_append]
  gi_wp2_with fail
  refine ⟨trivial, ?_⟩
  refine (callsIn_wide.2 HM.out).mono ?_
  rintro e w1 ⟨rfl, hw⟩; obtain rfl := hw.symm
  gi_wp2
  refine bodyPost_ret (results_none rfl _ _ _) rfl ?_
  exact ⟨⟨_, rfl⟩, W.heap.size, Nat.le_refl _, Or.inl (H0.out _ (Nat.le_refl _))⟩

set_option maxRecDepth 100000 in
set_option maxHeartbeats 4000000 in
theorem all_iter (n Bn : Nat) (w : World) (hn : n ≤ 6) (hc : w.cell? ⟨Bn, 0, none⟩ = some (.int .i64 n)) :
    IterOk Tryd.prog 34 #[.pointer (some ⟨Bn, 0, none⟩)] (fun b => b = Bn) 3 (fct n) (ord n) w := by
  intro l J Jx W hW hJ hJx hY h0
  have hBn : Bn < w.heap.size := World.block_lt_of_cell? _ _ hc
  have c1 := (hW.cell (p := ⟨Bn, 0, none⟩) hBn).trans hc
  have hWs := hW.size
  have hBW : Bn < W.heap.size := by omega
  have M1 := may_any n W
  rw [show mayB n = true by simp [mayB]; omega] at M1
  have HM := Lib.hid M1
  have HI := Lib.hid (id_ok n W (by omega))
  have HJ := Lib.hid hJ; have HJX := Lib.hid hJx; have HY := Lib.hid hY; have H0 := Lib.hid h0
  obtain ⟨N, hN⟩ : ∃ N, fct n = N := ⟨_, rfl⟩
  have hN0 : 0 < N := by rw [← hN]; exact fct_pos n
  rw [hN] at HY ⊢
  have HN := Lib.hid hN; have HN0 := Lib.hid hN0
  clear hc hW hJ hJx hY h0 M1 hN hN0
  refine callsIn_of_wp Tryd.func34 rfl trivial ?_ rfl
  simp only [Tryd.ntmps34, List.size_toArray, List.length_cons, List.length_nil, Nat.reduceAdd, Nat.reduceSub, Array.replicate_succ, Array.replicate_zero, List.push_toArray, List.append_toArray, List.nil_append, List.cons_append]
  gi_wp2_with fail
  refine ⟨trivial, ?_⟩
  refine (callsIn_wide.2 HM.out).mono ?_
  rintro e w1 ⟨rfl, hw⟩; obtain rfl := hw.symm
  gi_wp2_with fail
  refine ⟨trivial, ?_⟩
  refine (callsIn_wide.2 HI.out).mono ?_
  rintro e w2 ⟨rfl, hrow, hb⟩
  have hat : OrdAt n W.heap.size Bn J W 0 w2 := ⟨by rw [ord_first hn]; exact id_whole hrow, HJ.out _ 0 W w2 (Nat.le_refl _) (H0.out _ (Nat.le_refl _)) (below_grown hb), hb.size, hb.block _ hBW⟩
  have HAT := Lib.hid hat
  clear hrow hb hat c1
  gi_wp2_with fail
  gi_loopg [] N (fun gh wr => ∃ r, r < N ∧ gh = N - r ∧ OrdAt n W.heap.size Bn J W r wr)
  case atStart => exact ⟨0, HN0.out, rfl, HAT.out⟩
  case round =>
    obtain ⟨r, hr, rfl, hwg, hJr, hsz, hkp⟩ := hrel
    have C1 := Lib.hid (clone_whole (ord n r) n W.heap.size wr (ord_len n r) (by omega) hwg)
    have HWG := Lib.hid hwg; have HJR := Lib.hid hJr; have HKP := Lib.hid hkp; have HR := Lib.hid hr
    have hgl := hwg.lt
    clear hwg hJr hkp hr
    gi_wp2_with fail
    refine ⟨trivial, ?_⟩
    refine (callsIn_wide.2 C1.out).mono ?_
    rintro e w3 ⟨v, rfl, hown, hb3⟩
    have hJ3 := HJ.out _ r wr w3 (Nat.le_refl _) HJR.out (below_grown hb3)
    have hg3 := HWG.out.below hb3 hgl
    have hs3 := hb3.size
    obtain ⟨fn, tmps, assign, body, hy, hR⟩ := HY.out W.heap.size r v w3 (Nat.le_refl _) HR.out hJ3 (by omega) (by omega) (by
      rw [ord_len, cellsOf_int]
      exact own_base hown hsz) (fun e => by have := (hown.lt _ e).1; omega)
    obtain ⟨Av, cv, rfl⟩ := own_form hown
    have HRR := Lib.hid hR; have HG3 := Lib.hid hg3
    have HK3 : Hid (w3.heap[Bn]? = W.heap[Bn]?) := Lib.hid ((hb3.block _ (by omega)).trans HKP.out)
    clear hown hb3 hJ3 hg3 hR
    gi_wp2
    refine HRR.out.mono ?_
    rintro e W3 (⟨rfl, hJ3, hk3⟩ | ⟨rfl, hJx3⟩)
    · have hg4 : Whole W3 W.heap.size 3 (icells (ord n r)) := (hk3.2 _ (Or.inl rfl)).trans HG3.out
      have A0 : n = 0 ∨ 0 < n := by omega
      have HJ3 := Lib.hid hJ3
      have HK4 : Hid (W.heap.size ≤ W3.heap.size ∧ W3.heap[Bn]? = W.heap[Bn]?) := Lib.hid ⟨by have := hk3.1; omega, (hk3.2 Bn (Or.inr rfl)).trans HK3.out⟩
      have hadv := adv_ord hn (show r < fct n by rw [HN.out]; exact HR.out)
      rw [HN.out] at hadv
      have A1 : Calls Tryd.prog 36 #[.slice (some ⟨W.heap.size, 0, none⟩) n n] W3 (AdvTo W.heap.size (ord n r) W3) := by
        rcases A0 with h0 | h0
        · subst h0
          refine (advance_nil W.heap.size _ W3 rfl).mono ?_
          rintro e w' ⟨he, hw⟩
          exact Or.inl ⟨by have : ord 0 r = [] := rfl; rw [this]; rfl, he, hw⟩
        · exact advance_any (ord n r) n W.heap.size W3 (ord_len n r) h0 (by omega) hg4
      have HA1 := Lib.hid A1; have HADV := Lib.hid hadv
      clear hJ3 hk3 hg4 A0 A1 hadv
      gi_wp2_with fail
      refine ⟨trivial, ?_⟩
      refine (callsIn_wide.2 HA1.out).mono ?_
      intro e w5 hadv
      rcases hadv with ⟨hno, rfl, d5, rfl⟩ | ⟨M, hM, rfl, hw5, hg5⟩
      · have hend : r + 1 = N := by
          rw [HADV.out] at hno
          have := HR.out
          by_cases h : r + 1 < N
          · rw [if_pos h] at hno; cases hno
          · omega
        have HEND := Lib.hid hend
        clear hno hend
        gi_wp2
        go_end0
        exact ⟨⟨_, rfl⟩, W.heap.size, Nat.le_refl _, Or.inl (by rw [← HEND.out]; exact HJ.out _ _ _ _ (Nat.le_refl _) HJ3.out (grown_drewN _ _ _))⟩
      · have hgo : r + 1 < N ∧ M = ord n (r + 1) := by
          rw [HADV.out] at hM
          by_cases h : r + 1 < N
          · rw [if_pos h] at hM; injection hM with hM; exact ⟨h, hM.symm⟩
          · rw [if_neg h] at hM; cases hM
        obtain ⟨hgo, rfl⟩ := hgo
        have HGO := Lib.hid hgo; have HW5 := Lib.hid hw5; have HG5 := Lib.hid hg5
        clear hM hw5 hg5 hgo
        gi_wp2
        gi_roundg (N - (r + 1))
        case rel => exact ⟨r + 1, HGO.out, rfl, HW5.out, HJ.out _ _ _ _ (Nat.le_refl _) HJ3.out HG5.out, Nat.le_trans HK4.out.1 HG5.out.size, (HG5.out.block _ (by have := HK4.out.1; omega) (by simp; omega)).trans HK4.out.2⟩
        case measure => have := HGO.out; omega
    · have HJX3 := Lib.hid hJx3
      clear hJx3
      gi_wp2_with fail
      refine ⟨trivial, ?_⟩
      gi_wp2_with fail
      go_end0
      exact ⟨⟨_, rfl⟩, W.heap.size, Nat.le_refl _, Or.inr ⟨r + 1, by omega, by have := HR.out; omega, HJX3.out⟩⟩
end Go.Proofs.YtlkmbhbjhiobiaaDoor
