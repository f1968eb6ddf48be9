/- sets.Picks: the function that it hands over, as an iterator. -/
import Derived.Test.YtocpjmjlmccolaaAdvance
import Derived.Test.YtocpjmjlmccolaaRange
import Derived.Sort.LoopGhostIn
import Derived.RangeFuncWrites
import Derived.RangeFuncCalls
import Derived.TacticsInMore
import Derived.OwnWalkIn
import Derived.LoopNIn
import Derived.LoopIn
import Derived.Deep.OwnRows
namespace Go.Proofs.Ytocpjmjlmccolaa
open Go.RowKit
attribute [local go_sem] Oper.semAt_some

theorem Try.infoIntP : (Try.prog.info? 3).map (fun i => (i.zero, i.size, i.bytes)) = some (some (.int .i64 0), 1, 8) := by kernel_rfl

/-- Numbers as cells. -/
def arr (f : Nat → Int) (n : Nat) : Array Value := ((List.range n).map fun i => Value.int .i64 (f i)).toArray
theorem arr_size (f : Nat → Int) (n : Nat) : (arr f n).size = n := by simp [arr]
theorem arr_at {f : Nat → Int} {n i : Nat} (h : i < n) : (arr f n)[i]? = some (.int .i64 (f i)) := by simp [arr, h]
theorem arr_congr {f g : Nat → Int} {n : Nat} (h : ∀ i, i < n → f i = g i) : arr f n = arr g n := by
  unfold arr
  congr 1
  exact List.map_congr_left fun i hi => by rw [h i (List.mem_range.1 hi)]
theorem arr_set (f : Nat → Int) (n m : Nat) (x : Int) (_hm : m < n) : (arr f n).setIfInBounds m (.int .i64 x) = arr (fun i => if i = m then x else f i) n := by
  apply Array.ext_getElem?
  intro i
  rw [Array.getElem?_setIfInBounds]
  rcases Nat.lt_or_ge i n with hi | hi
  · rw [arr_at hi, arr_at hi, arr_size]
    by_cases h : m = i
    · subst h; simp [hi]
    · have h' : ¬ i = m := fun e => h e.symm
      simp [h, h']
  · have e1 : (arr f n)[i]? = none := Array.getElem?_eq_none (by rw [arr_size]; exact hi)
    have e2 : (arr (fun i => if i = m then x else f i) n)[i]? = none := Array.getElem?_eq_none (by rw [arr_size]; exact hi)
    rw [e1, e2, if_neg (by omega)]
theorem made_arr (n : Nat) : madeCells #[.int .i64 0] n = arr (fun _ => 0) n := by
  apply Array.toList_inj.1
  rw [toList_madeCells_one]
  simp [arr, List.map_const']
theorem nums_arr (f : Nat → Nat) (n : Nat) : nums f n = arr (fun i => (f i : Nat)) n := rfl
theorem whole_own {w : World} {g n base : Nat} {t : TypeId} {cs : Array Value} (h : Whole w g t cs) (hb : base ≤ g) (hs : cs.size = n) (hm : n ≤ maxLen) : w.ownsRow base t 1 (.slice (some ⟨g, 0, none⟩) n n) n cs.toList :=
  ⟨by simpa using hs, .inr ⟨g, n, cs, rfl, hb, h, Nat.le_refl _, hm, by simpa using hs, List.take_of_length_le (by simp [hs])⟩⟩

/-- The k-th of a list of places. -/
def gets (C : List Nat) : Nat → Nat := fun j => C.getD j 0
theorem gets_mem {C : List Nat} {j : Nat} (h : j < C.length) : gets C j ∈ C := by
  have : gets C j = C[j] := by simp [gets, List.getD, h]
  rw [this]
  exact List.getElem_mem h
theorem gets_ext {C : List Nat} {k : Nat} {f : Nat → Nat} (h : C.length = k) (hf : ∀ j, j < k → f j = gets C j) : C = (List.range k).map f := by
  apply List.ext_getElem
  · simp [h]
  · intro i h1 h2
    have := hf i (by omega)
    simp [gets, List.getD, h1] at this
    simp [this]
/-- All lists of k of n numbers, in the order of their places. -/
def picksOf (Z : Nat → Int) (n k : Nat) : List (List Int) := (comb 0 n k).map (fun C => C.map Z)
theorem picksOf_len (Z : Nat → Int) (n k : Nat) : (picksOf Z n k).length = (comb 0 n k).length := by simp [picksOf]
theorem picksOf_at {Z : Nat → Int} {n k r : Nat} {C : List Nat} (h : (comb 0 n k)[r]? = some C) : (picksOf Z n k).getD r [] = C.map Z := by
  simp [picksOf, List.getD, h]

/-- Whatever the iterator has captured. -/
def CpOf (Bk Bo n : Nat) (v : Value) (b : Nat) : Prop := b = Bk ∨ b = Bo ∨ (0 < n ∧ v.ownBlock = some b)
/-- Between two rounds. -/
def PickAt (n k g : Nat) (Cp : Nat → Prop) (J : Nat → Nat → World → Prop) (W : World) (r : Nat) (wr : World) : Prop :=
  (r < (comb 0 n k).length → ∃ C, (comb 0 n k)[r]? = some C ∧ Whole wr g 3 (nums (gets C) k)) ∧ J g r wr ∧ W.heap.size ≤ wr.heap.size ∧ ∀ b, Cp b → wr.heap[b]? = W.heap[b]?
theorem kept_ints {Cp : Nat → Prop} {W W' : World} {v : Value} {n : Nat} {Z : Nat → Int} (h : IntsV W v n Z) (hk : ∀ b, Cp b → W'.heap[b]? = W.heap[b]?) (hc : ∀ b, 0 < n → v.ownBlock = some b → Cp b) : IntsV W' v n Z := by
  rcases h with h | ⟨h0, b, off, cap, rfl, hx⟩
  · exact Or.inl h
  · refine Or.inr ⟨h0, b, off, cap, rfl, fun i hi => ?_⟩
    rw [World.cell?_of_block (hk b (hc b h0 rfl))]
    exact hx i hi
theorem below_grown {w w' : World} {row : Option Nat} (h : Below w.heap.size w w') : w.grownBy w' row := ⟨h.os, h.tape, h.output, h.size, fun i hi _ => h.block i hi⟩
/-- What advance did, told of lists. -/
theorem adv_of_no {n k : Nat} {C : List Nat} (hC : C.length = k) (h : ∀ j, j < k → gets C j + k = n + j) : adv n C = none :=
  adv_none n C fun j hj => by rw [hC]; exact h j (by omega)
theorem adv_of_yes {n k i : Nat} {C : List Nat} (hC : C.length = k) (hi : i < k) (h : ∀ j, i < j → j < k → gets C j + k = n + j) (h0 : gets C i + k ≠ n + i) :
    ∃ D, adv n C = some D ∧ nums (fun j => if j < i then gets C j else gets C i + 1 + (j - i)) k = nums (gets D) k := by
  refine ⟨_, adv_some n C i (by omega) (fun j h1 h2 => by rw [hC]; exact h j h1 (by omega)) (by rw [hC]; exact h0), nums_congr fun j hj => ?_⟩
  unfold gets
  have hl : (C.take i).length = i := by rw [List.length_take]; omega
  by_cases h1 : j < i
  · rw [if_pos h1, List.getD, List.getD, List.getElem?_append_left (by omega)]
    simp [h1]
  · rw [if_neg h1, List.getD, List.getD, List.getElem?_append_right (by omega), hl]
    have : j - i < C.length - i := by omega
    simp [this]

set_option maxRecDepth 100000 in
set_option maxHeartbeats 4000000 in
theorem picks_iter (n k : Nat) (Z : Nat → Int) (v : Value) (Bk Bo : Nat) (w : World) (hn : n ≤ 1000000) (hkn : k ≤ n) (hk : w.cell? ⟨Bk, 0, none⟩ = some (.int .i64 k)) (ho : w.cell? ⟨Bo, 0, none⟩ = some v) (hv : IntsV w v n Z) :
    IterOk Try.prog 34 #[.pointer (some ⟨Bk, 0, none⟩), .pointer (some ⟨Bo, 0, none⟩)] (CpOf Bk Bo n v) 3 (picksOf Z n k).length (fun r => (picksOf Z n k).getD r []) w := by
  intro l J Jx W hW hJ hJx hY h0
  have hBk : Bk < w.heap.size := World.block_lt_of_cell? _ _ hk
  have hBo : Bo < w.heap.size := World.block_lt_of_cell? _ _ ho
  have hk' := (hW.cell (p := ⟨Bk, 0, none⟩) hBk).trans hk
  have ho' := (hW.cell (p := ⟨Bo, 0, none⟩) hBo).trans ho
  have hv' := hv.below hW (Nat.le_refl _)
  have hWs := hW.size
  obtain ⟨A, c, rfl⟩ := hv.form
  have HV := Lib.hid hv'
  have HJ := Lib.hid hJ; have HJX := Lib.hid hJx; have HY := Lib.hid hY; have H0 := Lib.hid h0
  obtain ⟨N, hN⟩ : ∃ N, (comb 0 n k).length = N := ⟨_, rfl⟩
  have hN0 : 0 < N := by rw [← hN]; exact comb_some 0 n k hkn
  rw [picksOf_len, hN] at HY ⊢
  have HN := Lib.hid hN
  have HK := Lib.hid hk'; have HO := Lib.hid ho'
  have hmk := fun w => run_make_row' (P := Try.prog) 22 3 (.int .i64 0) 8 Try.underlying22 Try.infoIntP rfl .i64 .i64 k (by omega) (by omega) w
  rw [made_arr] at hmk
  have t0 : decide ((k : Int) < 0) = false := decide_eq_false (by omega)
  have t1 : decide ((n : Int) < k) = false := decide_eq_false (by omega)
  have t1' : decide (n < k) = false := decide_eq_false (by omega)
  have HN0 := Lib.hid hN0
  have HB0 := Lib.hid ((Below.refl W.heap.size W).alloc (Nat.le_refl _) (.cells (arr (fun _ => 0) k) 3))
  have HW0 := Lib.hid (Whole.new W 3 (arr (fun _ => 0) k))
  have hBkW : Bk < W.heap.size := by omega
  have hBoW : Bo < W.heap.size := by omega
  clear hk ho hv hk' ho' hv' hW hJ hJx hY h0 hN hN0 hBk hBo hWs
  refine callsIn_of_wp Try.func34 rfl trivial ?_ rfl
  simp only [Try.ntmps34, List.size_toArray, List.length_cons, List.length_nil, Nat.reduceAdd, Nat.reduceSub, Array.replicate_succ, Array.replicate_zero, List.push_toArray, List.append_toArray, List.nil_append, List.cons_append]
  have c1 := HK.out; have c2 := HO.out
  gi_wp2
  gi_loopg [22] k (fun gh x wr => ∃ m, m ≤ k ∧ gh = k - m ∧ x = .int .i64 (m : Nat) ∧ Whole wr W.heap.size 3 (arr (fun j => if j < m then (j : Int) else 0) k) ∧ Below W.heap.size W wr)
  case atStart => exact ⟨0, by omega, rfl, rfl, HW0.out, HB0.out⟩
  case round =>
    obtain ⟨m, hm, rfl, rfl, hw, hb⟩ := hrel
    by_cases hlt : m < k
    · have t2 : decide (m < k) = true := decide_eq_true hlt
      have t2' : decide ((m : Int) < k) = true := decide_eq_true (by omega)
      have i1 : (m : Int) < k := by omega
      have i2 : (0 : Int) ≤ m := by omega
      have ca := hw.cell m
      rw [arr_at hlt, if_neg (Nat.lt_irrefl m)] at ca
      have cf := hw.free m
      have HN1 : Hid (Whole (wr.setCell ⟨W.heap.size, m, none⟩ (.int .i64 (m : Nat))) W.heap.size 3 (arr (fun j => if j < m + 1 then (j : Int) else 0) k)) := Lib.hid (by
        have := hw.put m (.int .i64 (m : Nat))
        rw [arr_set _ _ _ _ hlt] at this
        refine (arr_congr fun j hj => ?_) ▸ this
        by_cases h1 : j = m
        · subst h1; simp
        · rw [if_neg h1]
          by_cases h2 : j < m
          · rw [if_pos h2, if_pos (by omega)]
          · rw [if_neg h2, if_neg (by omega)])
      have HB1 := Lib.hid (hb.setCell (p := ⟨W.heap.size, m, none⟩) (Nat.le_refl _) (.int .i64 (m : Nat)))
      have HLT := Lib.hid hlt
      clear hw hb hlt
      gi_wp2
      gi_roundg (k - (m + 1))
      case rel => exact ⟨m + 1, HLT.out, rfl, by go_num, HN1.out, HB1.out⟩
      case measure => have := HLT.out; omega
    · obtain rfl : m = k := by omega
      have t2 : decide (m < m) = false := by simp
      have hw1 : Whole wr W.heap.size 3 (nums (gets (List.range' 0 m)) m) := by
        rw [nums_arr]
        refine (arr_congr fun j hj => ?_) ▸ hw
        rw [if_pos hj]
        simp [gets, List.getD, hj]
      have HW1 := Lib.hid hw1; have HB1 := Lib.hid hb
      have hs1 := hb.size
      have hcp : ∀ b, CpOf Bk Bo n (.slice A n c) b → b < W.heap.size := by
        intro b hb2
        rcases hb2 with rfl | rfl | ⟨h0, h⟩
        · exact hBkW
        · exact hBoW
        · obtain ⟨b', off, rfl, hx⟩ := HV.out.pos h0
          have e : b' = b := by simpa [Value.ownBlock] using h
          subst e
          exact World.block_lt_of_cell? _ _ (hx 0 h0)
      have HAT : Hid (PickAt n m W.heap.size (CpOf Bk Bo n (.slice A n c)) J W 0 wr) := Lib.hid ⟨fun _ => ⟨_, comb_first 0 n m hkn, hw1⟩, HJ.out _ 0 W wr (Nat.le_refl _) (H0.out _ (Nat.le_refl _)) (below_grown hb), hs1, fun b hb2 => hb.block b (hcp b hb2)⟩
      have HCP := Lib.hid hcp
      clear hw hb hw1 hlt hcp hs1
      gi_wp2
      obtain ⟨w1, rfl⟩ : ∃ x, x = wr := ⟨_, rfl⟩
      gi_loopg [6] N (fun gh x wr => ∃ r, r ≤ N ∧ gh = N - r ∧ x = .bool (decide (r < N)) ∧ PickAt n m W.heap.size (CpOf Bk Bo n (.slice A n c)) J W r wr)
      case atStart => exact ⟨0, Nat.zero_le _, rfl, by rw [decide_eq_true HN0.out], HAT.out⟩
      case round =>
        obtain ⟨r, hr, rfl, rfl, hat⟩ := hrel
        obtain ⟨hC, hJr, hsz, hkp⟩ := hat
        by_cases hrN : r < N
        · obtain ⟨C, hCr, hWg⟩ := hC (by rw [HN.out]; exact hrN)
          have hCl := comb_len _ _ _ C (List.mem_of_getElem? hCr)
          have hCm : ∀ j, j < m → gets C j < n := fun j hj => by
            have := ((comb_mem 0 n m C).1 (List.mem_of_getElem? hCr)).2.2 _ (gets_mem (show j < C.length by omega))
            omega
          have ck : wr.cell? ⟨Bk, 0, none⟩ = some (.int .i64 m) := (World.cell?_of_block (hkp Bk (Or.inl rfl))).trans HK.out
          have co : wr.cell? ⟨Bo, 0, none⟩ = some (.slice A n c) := (World.cell?_of_block (hkp Bo (Or.inr (Or.inl rfl)))).trans HO.out
          have HVR := Lib.hid (kept_ints HV.out hkp (fun b h0 h => Or.inr (Or.inr ⟨h0, h⟩)))
          have HWG := Lib.hid hWg; have HJR := Lib.hid hJr; have HKP := Lib.hid hkp; have HRN := Lib.hid hrN
          have HCR := Lib.hid hCr; have HCL := Lib.hid hCl; have HCM := Lib.hid hCm
          have t3 : decide (r < N) = true := decide_eq_true hrN
          have HW2 := Lib.hid (Whole.new wr 3 (arr (fun _ => 0) m))
          have HB2 := Lib.hid ((Below.refl wr.heap.size wr).alloc (Nat.le_refl _) (.cells (arr (fun _ => 0) m) 3))
          have HCO := Lib.hid co
          have hBoR : Bo < wr.heap.size := World.block_lt_of_cell? _ _ co
          clear hC hJr hkp hrN hCr hWg hCl hCm c1 c2
          rw [t3]
          gi_wp2
          obtain ⟨wo, rfl⟩ : ∃ x, x = wr := ⟨_, rfl⟩
          gi_loopg [39] m (fun gh x wr => ∃ q, q ≤ m ∧ gh = m - q ∧ x = .int .i64 (q : Nat) ∧ Whole wr wo.heap.size 3 (arr (fun j => if j < q then Z (gets C j) else 0) m) ∧ Below wo.heap.size wo wr)
          case atStart => exact ⟨0, by omega, rfl, rfl, HW2.out, HB2.out⟩
          case round =>
            obtain ⟨q, hq, rfl, rfl, hw, hb⟩ := hrel
            by_cases hlt : q < m
            · have hgx := HCM.out q hlt
              obtain ⟨b, off, rfl, hcell⟩ := (HVR.out.below hb (Nat.le_refl _)).pos (Nat.lt_of_le_of_lt (Nat.zero_le _) hgx)
              have cp := (HWG.out.below hb HWG.out.lt).cell q
              rw [nums_at hlt] at cp
              have cz := hcell _ hgx
              obtain ⟨x, hx⟩ : ∃ x, gets C q = x := ⟨_, rfl⟩
              rw [hx] at hgx cp cz
              obtain ⟨z, hz⟩ : ∃ z, Z x = z := ⟨_, rfl⟩
              rw [hz] at cz
              have cb := (hb.cell (p := ⟨Bo, 0, none⟩) hBoR).trans HCO.out
              have ca := hw.cell q
              rw [arr_at hlt, if_neg (Nat.lt_irrefl q)] at ca
              have cf := hw.free q
              have t2 : decide (q < m) = true := decide_eq_true hlt
              have t2' : decide ((q : Int) < m) = true := decide_eq_true (by omega)
              have i1 : (q : Int) < m := by omega
              have i2 : (0 : Int) ≤ q := by omega
              have i3 : (x : Int) < n := by omega
              have i4 : (0 : Int) ≤ x := by omega
              have HN1 : Hid (Whole (wr.setCell ⟨wo.heap.size, q, none⟩ (.int .i64 z)) wo.heap.size 3 (arr (fun j => if j < q + 1 then Z (gets C j) else 0) m)) := Lib.hid (by
                have := hw.put q (.int .i64 z)
                rw [arr_set _ _ _ _ hlt] at this
                refine (arr_congr fun j hj => ?_) ▸ this
                by_cases h1 : j = q
                · subst h1; simp [hx, hz]
                · rw [if_neg h1]
                  by_cases h2 : j < q
                  · rw [if_pos h2, if_pos (by omega)]
                  · rw [if_neg h2, if_neg (by omega)])
              have HB1 := Lib.hid (hb.setCell (p := ⟨wo.heap.size, q, none⟩) (Nat.le_refl _) (.int .i64 z))
              have HLT := Lib.hid hlt
              clear hw hb hlt hx hz hgx hcell
              gi_wp2
              gi_roundg (m - (q + 1))
              case rel => exact ⟨q + 1, HLT.out, rfl, by go_num, HN1.out, HB1.out⟩
              case measure => have := HLT.out; omega
            · obtain rfl : q = m := by omega
              have t2 : decide (q < q) = false := by simp
              have hw1 : Whole wr wo.heap.size 3 (arr (fun j => Z (gets C j)) q) := by
                refine (arr_congr fun j hj => ?_) ▸ hw
                rw [if_pos hj]
              have hwg := HWG.out.below hb HWG.out.lt
              have hJ1 := HJ.out _ r wo wr (Nat.le_refl _) HJR.out (below_grown hb)
              have hs1 := hb.size
              have hrow := whole_own hw1 (base := W.heap.size) (by omega) (arr_size _ _) (by unfold maxLen; omega)
              have hpl : (picksOf Z n q).getD r [] = C.map Z := picksOf_at HCR.out
              have hcl : cellsOf (C.map Z) = (arr (fun j => Z (gets C j)) q).toList := by
                have e1 := gets_ext HCL.out (fun j _ => rfl)
                unfold cellsOf arr
                conv => lhs; rw [e1]
                simp
              obtain ⟨fn, tmps, assign, body, hy, hR⟩ := HY.out W.heap.size r (.slice (some ⟨wo.heap.size, 0, none⟩) q q) wr (Nat.le_refl _) HRN.out hJ1 (by omega) hwg.lt (by
                rw [hpl, hcl]
                simpa [HCL.out] using hrow) (by simp [Value.ownBlock]; have := HWG.out.lt; omega)
              have HWG1 := Lib.hid hwg; have HB1 := Lib.hid hb; have HRR := Lib.hid hR
              clear hw hb hw1 hJ1 hrow hpl hcl hwg hlt hs1 hR
              gi_wp2
              refine HRR.out.mono ?_
              rintro e W3 (⟨rfl, hJ3, hk3⟩ | ⟨rfl, hJx3⟩)
              · have hg3 : Whole W3 W.heap.size 3 (nums (gets C) q) := (hk3.2 _ (Or.inl rfl)).trans HWG1.out
                have co3 : W3.cell? ⟨Bo, 0, none⟩ = some (.slice A n c) := (World.cell?_of_block (hk3.2 Bo (Or.inr (Or.inr (Or.inl rfl))))).trans ((HB1.out.cell (p := ⟨Bo, 0, none⟩) hBoR).trans HCO.out)
                have A1 := Lib.hid (advance_any q n W.heap.size (gets C) W3 hn hkn HCM.out hg3)
                have HJ3 := Lib.hid hJ3; have HG3 := Lib.hid hg3
                have HKK : Hid (W.heap.size ≤ W3.heap.size ∧ ∀ b, CpOf Bk Bo n (.slice A n c) b → W3.heap[b]? = W.heap[b]?) := Lib.hid ⟨by have := hk3.1; have := HB1.out.size; omega, fun b hb => by
                  rw [hk3.2 b (Or.inr hb), HB1.out.block b (by have := HCP.out b hb; omega), HKP.out b hb]⟩
                clear hJ3 hk3 hg3
                gi_wp2_with fail
                refine ⟨trivial, ?_⟩
                refine (callsIn_wide.2 A1.out).mono ?_
                intro e w5 hadv
                rcases hadv with ⟨hno, rfl, rfl⟩ | ⟨i, hi, hnx, hne, rfl, hw5, hg5⟩
                · have hnone := adv_of_no HCL.out hno
                  have hnext := comb_next 0 n q r C HCR.out
                  rw [Nat.zero_add, hnone] at hnext
                  have hend : ¬ r + 1 < N := by
                    intro h
                    rw [List.getElem?_eq_getElem (by rw [HN.out]; exact h)] at hnext
                    cases hnext
                  have HEND := Lib.hid hend
                  clear hno hnone hnext hend
                  gi_wp2
                  gi_roundg (N - (r + 1))
                  case rel => exact ⟨r + 1, HRN.out, rfl, by rw [decide_eq_false HEND.out], fun h => absurd h (by rw [HN.out]; exact HEND.out), HJ3.out, HKK.out⟩
                  case measure => have := HRN.out; omega
                · obtain ⟨D, hD, hDn⟩ := adv_of_yes HCL.out hi hnx hne
                  have hnext := comb_next 0 n q r C HCR.out
                  rw [Nat.zero_add, hD] at hnext
                  have hgo : r + 1 < N := by
                    rcases Nat.lt_or_ge (r + 1) N with h | h
                    · exact h
                    · rw [List.getElem?_eq_none (by rw [HN.out]; exact h)] at hnext
                      cases hnext
                  rw [hDn] at hw5
                  have HGO := Lib.hid hgo; have HW5 := Lib.hid hw5; have HG5 := Lib.hid hg5; have HNX := Lib.hid hnext
                  clear hnx hne hD hDn hnext hgo hw5 hg5 hi
                  gi_wp2
                  gi_roundg (N - (r + 1))
                  case rel => exact ⟨r + 1, HRN.out, rfl, by rw [decide_eq_true HGO.out], fun _ => ⟨D, HNX.out.symm, HW5.out⟩, HJ.out _ _ _ _ (Nat.le_refl _) HJ3.out HG5.out, by have := HG5.out.size; have := HKK.out.1; omega, fun b hb => by
                    rw [HG5.out.block b (by have := HCP.out b hb; have := HKK.out.1; omega) (by have := HCP.out b hb; simp; omega), HKK.out.2 b hb]⟩
                  case measure => have := HRN.out; omega
              · have HJX3 := Lib.hid hJx3
                clear hJx3
                gi_wp2
                refine bodyPost_ret (results_none rfl _ _ _) rfl ?_
                exact ⟨⟨_, rfl⟩, W.heap.size, Nat.le_refl _, Or.inr ⟨r + 1, by omega, HRN.out, HJX3.out⟩⟩
        · obtain rfl : r = N := by omega
          have t3 : decide (r < r) = false := by simp
          have HJR := Lib.hid hJr
          clear hC hJr hkp hrN c1 c2
          rw [t3]
          gi_wp2
          go_end0
          exact ⟨⟨_, rfl⟩, W.heap.size, Nat.le_refl _, Or.inl HJR.out⟩
end Go.Proofs.Ytocpjmjlmccolaa
