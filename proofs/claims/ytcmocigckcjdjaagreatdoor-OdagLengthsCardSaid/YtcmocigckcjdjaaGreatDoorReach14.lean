/- odag: reached: its contract. -/
import Derived.Test.YtcmocigckcjdjaaGreatDoorOdag2
import Derived.Test.YtcmocigckcjdjaaGreatDoorSetsO14
import Derived.Test.YtcmocigckcjdjaaGreatDoorShelfRows
import Derived.Deep.DeepCutAuto
namespace Go.Proofs.YtcmocigckcjdjaaGreatDoor
open Go.RowKit

theorem cell_below' {w w' : World} {p : Addr} {v : Value} (h : w.cell? p = some v) (hb : Below w.heap.size w w') : w'.cell? p = some v :=
  (hb.cell (p := p) (World.block_lt_of_cell? _ _ h)).trans h
theorem row_flat (C : List (List Int)) (i : Nat) : ofR ((rowP C i).flatMap (linkP C i)) = rowP C (i + 1) := by
  refine rising_eq (ofR_rising _) (row_rising C (i + 1)) fun y => ?_
  rw [ofR_mem, List.mem_flatMap]
  constructor
  · rintro ⟨a, _, h⟩
    exact link_row h
  · intro h
    obtain ⟨a, h1, h2⟩ := row_back h
    exact ⟨a, h1, h2⟩
/-- A list that is empty, or lies in another block. -/
def ApL (g : Nat) (v : Value) (L : List Int) : Prop := L = [] ∨ ∃ b off n c, v = .slice (some ⟨b, off, none⟩) n c ∧ b ≠ g
theorem seqC_set {w : World} {u x : Value} {L : List Int} {g i : Nat} (h : SeqC w u L) (ha : ApL g u L) : SeqC (w.setCell ⟨g, i, none⟩ x) u L := by
  obtain ⟨h, A, c, rfl, hl⟩ := h
  refine ⟨?_, A, c, rfl, hl⟩
  rcases ha with rfl | ⟨b, off, n', c', e, hne⟩
  · exact Or.inl ⟨rfl, _, _, rfl⟩
  · rcases h with h | ⟨h0, b2, off2, c2, e2, hc⟩
    · exact Or.inl h
    · refine Or.inr ⟨h0, b2, off2, c2, e2, fun j hj => ?_⟩
      rw [← hc j hj]
      injection e with e
      injection e2 with e2
      rw [e] at e2
      injection e2 with e2
      injection e2 with e2
      subst e2
      exact World.cell?_setCell_other w _ _ _ (by simp)
/-- The rows that paths come to, in a slice of its own. -/
structure RchM (w : World) (g n : Nat) (C : List (List Int)) (wr : World) : Prop where
  blk : ∃ cs : Array Value, Whole wr g 44 cs ∧ ∀ j, j < n → ∃ u, cs[j]? = some u ∧ SeqC wr u (rowP C j) ∧ ApL g u (rowP C j)
  bel : Below w.heap.size w wr
  at_ : w.heap.size ≤ g
theorem RchM.below {w wr w' : World} {g n : Nat} {C : List (List Int)} (h : RchM w g n C wr) (hb : Below wr.heap.size wr w') : RchM w g n C w' := by
  obtain ⟨cs, h1, h2⟩ := h.blk
  refine ⟨⟨cs, h1.below hb h1.lt, fun j hj => ?_⟩, h.bel.trans (hb.mono h.bel.size), h.at_⟩
  obtain ⟨u, k1, k2, k3⟩ := h2 j hj
  exact ⟨u, k1, k2.below hb (Nat.le_refl _), k3⟩
theorem RchM.put {w wr : World} {g n i : Nat} {C : List (List Int)} {x : Value} (h : RchM w g n C wr) (hx : SeqC wr x (rowP C i)) (hf : FarL (g + 1) x (rowP C i)) : RchM w g n C (wr.setCell ⟨g, i, none⟩ x) := by
  have hax : ApL g x (rowP C i) := by
    rcases hf with hf | ⟨b, off, n', c', e, hb⟩
    · exact Or.inl hf
    · exact Or.inr ⟨b, off, n', c', e, by omega⟩
  obtain ⟨cs, h1, h2⟩ := h.blk
  refine ⟨⟨_, h1.put i x, fun j hj => ?_⟩, h.bel.setCell h.at_ _, h.at_⟩
  obtain ⟨u, k1, k2, k3⟩ := h2 j hj
  rw [Array.getElem?_setIfInBounds]
  by_cases hij : i = j
  · subst hij
    have hlt : i < cs.size := (Array.getElem?_eq_some_iff.1 k1).1
    exact ⟨x, by rw [if_pos rfl, if_pos hlt], seqC_set hx hax, hax⟩
  · exact ⟨u, by rw [if_neg hij]; exact k1, seqC_set k2 k3, k3⟩
theorem RchM.lists {w wr : World} {g n c : Nat} {C : List (List Int)} (h : RchM w g n C wr) (hn : 1 ≤ n) : ListsV wr (.slice (some ⟨g, 0, none⟩) n c) (rowsP n C) := by
  obtain ⟨cs, h1, h2⟩ := h.blk
  have hl : (rowsP n C).length = n := by simp [rowsP]
  refine ⟨(List.range n).map fun j => (cs[j]?).getD .nilIface, by simp [rowsP], fun i u L hu hL => ?_, Or.inr ⟨by omega, g, 0, c, by rw [hl], fun i hi => ?_⟩⟩
  · have hin : i < n := by
      have := (List.getElem?_eq_some_iff.1 hu).1
      simpa using this
    obtain ⟨u', k1, k2, _⟩ := h2 i hin
    simp [hin, k1] at hu
    simp [rowsP, hin] at hL
    rw [← hu, ← hL]
    exact k2
  · rw [hl] at hi
    obtain ⟨u', k1, _, _⟩ := h2 i hi
    rw [Nat.zero_add, h1.cell i, k1]
    simp [hi, k1]
theorem rowsClone_any {w : World} {v : Value} {n : Nat} {C : List (List Int)} (h : ListsV w v (rowsP n C)) (hn : 1 ≤ n) (hn8 : n ≤ 8) :
    Calls Tryz.prog 63 #[v] w fun e w' => ∃ g c, e = .returned (.slice (some ⟨g, 0, none⟩) n c) ∧ RchM w g n C w' := by
  obtain ⟨us, hl, hr, h⟩ := h
  have hl2 : (rowsP n C).length = n := by simp [rowsP]
  rcases h with ⟨e, _⟩ | ⟨_, b, off, c, rfl, hc⟩
  · rw [e] at hl2; simp at hl2; omega
  · rw [hl2] at hl hc ⊢
    obtain ⟨i0, hi0, hz0, hz1, hz2⟩ := info_parts Tryz.infoRow
    have hone : ∀ u ∈ us, u.oneCell' = true := fun u hu => by
      obtain ⟨i, hi, rfl⟩ := List.getElem_of_mem hu
      obtain ⟨_, A, c, e, _⟩ := hr i us[i] (rowP C i) (List.getElem?_eq_getElem hi) (by simp [rowsP, show i < n by omega])
      rw [e]; rfl
    refine (show Calls Tryz.prog 63 _ _ _ from AnyE.slices_Clone Tryz.cloneR i0 (.slice none 0 0) 1 24 hi0 hz0 hz1 hz2 rfl (by omega) (fun w => Tryz.sizeOf44 w) b off n c us w (by omega) (by unfold maxLen; omega) (by omega) (fun j u hu => by
      have hj : j < us.length := (List.getElem?_eq_some_iff.1 hu).1
      rw [hc j (by omega), hu]) hone).mono ?_
    rintro e w1 ⟨v1, rfl, hown, hne, hb1⟩
    have hown0 := hown
    rcases hown.2 with ⟨hnil, _⟩ | ⟨g, cap, cur, rfl, hbase, hh, hncap, hcapm, _⟩
    · exact absurd hnil hne
    · refine ⟨g, cap, rfl, ⟨cur, hh, fun j hj => ?_⟩, hb1, hbase⟩
      have hju : j < us.length := by omega
      have hcell := hown0.cellAt j (by omega)
      have hcur : cur[j]? = some us[j] := by
        have h1 : w1.cell? ⟨g, j, none⟩ = cur[j]? := Whole.cell (t := 44) hh j
        rw [← h1, hcell]
        exact List.getElem?_eq_getElem hju
      have hS := hr j us[j] (rowP C j) (List.getElem?_eq_getElem hju) (by simp [rowsP, hj])
      refine ⟨us[j], hcur, hS.below hb1 (Nat.le_refl _), ?_⟩
      rcases hS.1 with ⟨h0, _⟩ | ⟨h0, b2, off2, c2, e2, hc2⟩
      · exact Or.inl (List.eq_nil_of_length_eq_zero h0)
      · have := World.block_lt_of_cell? _ _ (hc2 0 h0)
        exact Or.inr ⟨b2, off2, _, c2, e2, by simp at this; omega⟩
/-- What follows the first j numbers of a row. -/
def toP (C : List (List Int)) (i j : Nat) : List Int := ((rowP C i).take j).flatMap (linkP C i)
theorem to_succ {C : List (List Int)} {i j : Nat} (h : j < (rowP C i).length) : toP C i (j + 1) = toP C i j ++ linkP C i ((rowP C i).getD j 0) := by
  unfold toP
  rw [List.take_succ_eq_append_getElem h, List.flatMap_append]
  simp [List.getD, h]
theorem to_len (C : List (List Int)) (i j : Nat) : (toP C i j).length ≤ j * C.length := by
  unfold toP
  rw [List.length_flatMap]
  have h := sum_le_mul (fun a => (linkP C i a).length) C.length ((rowP C i).take j) fun a _ => link_len C i a
  rw [List.length_take] at h
  exact Nat.le_trans h (Nat.mul_le_mul_right _ (Nat.min_le_left _ _))
set_option maxRecDepth 100000 in
set_option maxHeartbeats 4000000 in
theorem reached_any {w : World} {v : Value} {n : Nat} {C : List (List Int)} (h : OdagC w v n C) (hn : 1 ≤ n) (hn8 : n ≤ 8) (hC : C.length ≤ 1000) :
    Calls Tryz.prog 32 #[v] w fun e w' => ∃ u, e = .returned u ∧ ListsV w' u (rowsP n C) ∧ Below w.heap.size w w' := by
  obtain ⟨i0, hi0, hz0, hz1, hz2⟩ := info_parts Tryz.infoInt6
  have HO := Lib.hid h
  have HLEN := Lib.hid (fun W (hW : Below w.heap.size w W) => len_any (h.below hW (Nat.le_refl _)))
  obtain ⟨ob, vr, vk, rfl, hw, hr, _⟩ := h
  have CL := Lib.hid (rowsClone_any hr hn hn8)
  have c0 : w.cell? ⟨ob, 0, none⟩ = some vr := hw.cell 0
  obtain ⟨Ar, cr, rfl⟩ := hr.form
  obtain ⟨lr, hlr⟩ : ∃ x, (rowsP n C).length = x := ⟨_, rfl⟩
  rw [hlr] at c0 CL
  clear hw hr hlr
  go_enter Tryz.func32, Tryz.ntmps32
  go_wp2_with fail
  refine CL.out.mono ?_; rintro e w1 ⟨g, cg, rfl, hm⟩
  have HM := Lib.hid hm
  clear hm c0 CL
  go_wp2_with fail
  go_loopg [4] (n - 1) (fun gh y wr => ∃ k, k + 1 ≤ n ∧ gh = n - 1 - k ∧ y = .int .i64 ((k : Int) + 1) ∧ RchM w g n C wr)
  case atStart => exact ⟨0, hn, rfl, rfl, HM.out⟩
  case round =>
    obtain ⟨k, hk, rfl, rfl, hm⟩ := hrel
    have HMK := Lib.hid hm
    have HLN := Lib.hid (HLEN.out _ hm.bel)
    have i1 : (k : Int) + 1 ≤ n := by omega
    have i2 : (0 : Int) ≤ k := by omega
    have i3 : (n : Int) ≤ 8 := by omega
    by_cases hlt : k + 1 < n
    · obtain ⟨cs, hcs, hrow⟩ := hm.blk
      obtain ⟨u, hu1, hu2, _⟩ := hrow k (by omega)
      have cu : wr.cell? ⟨g, k, none⟩ = some u := by rw [hcs.cell k, hu1]
      have hgl := hcs.lt
      have hbel := hm.bel
      obtain ⟨hus, Au, cu', rfl, _⟩ := hu2
      have hml := row_len C k
      obtain ⟨m, hml'⟩ : ∃ m, (rowP C k).length = m := ⟨_, rfl⟩
      rw [hml'] at hus cu hml
      have HU := Lib.hid hus; have HML := Lib.hid hml'; have HCS := Lib.hid hcs
      have HOW := Lib.hid (HO.out.below hbel (Nat.le_refl _))
      have t1 : decide ((k : Int) + 1 < n) = true := decide_eq_true (by omega)
      have t1' : decide (k + 1 < n) = true := decide_eq_true hlt
      have HLT := Lib.hid hlt; have HGL := Lib.hid hgl; have HBEL := Lib.hid hbel
      clear hm hcs hrow hu1 hus hml' hlt hgl hbel
      go_wp2_with fail
      refine HLN.out.mono ?_; rintro e w2 ⟨rfl, hw2⟩
      obtain rfl := hw2.symm
      go_wp2_with fail
      obtain ⟨wo, hwo⟩ : ∃ x, x = wr := ⟨_, rfl⟩
      subst hwo
      go_loopg [5, 25] m (fun gh x y wr => ∃ j, j ≤ m ∧ gh = m - j ∧ y = .int .i64 (j : Nat) ∧ wr.ownsRow wo.heap.size 3 1 x (toP C k j).length (intCells (toP C k j)) ∧ Below wo.heap.size wo wr)
      case atStart => exact ⟨0, Nat.zero_le _, rfl, rfl, World.ownsRow_nil _ _ _ _, Below.refl _ _⟩
      case round =>
        obtain ⟨j, hj, rfl, rfl, hown, hb⟩ := hrel
        have HOWN := Lib.hid hown; have HB := Lib.hid hb
        obtain ⟨Ax, cx, rfl⟩ := own_form hown
        have htl := to_len C k j
        by_cases hjm : j < m
        · obtain ⟨bb, off, rfl, hc⟩ := HU.out.pos (i := j) (by rw [HML.out]; exact hjm)
          have hts := to_succ (C := C) (i := k) (j := j) (by rw [HML.out]; exact hjm)
          obtain ⟨a, ha⟩ : ∃ a, (rowP C k).getD j 0 = a := ⟨_, rfl⟩
          rw [ha] at hc hts
          have hc' := cell_below' hc hb
          have NX := Lib.hid (next_any (HOW.out.below hb (Nat.le_refl _)) (by omega) hn8 k HLT.out a)
          have hll := link_len C k a
          obtain ⟨T, hT⟩ : ∃ T, linkP C k a = T := ⟨_, rfl⟩
          rw [hT] at NX hll hts
          obtain ⟨z, hz⟩ : ∃ z, (toP C k j).length = z := ⟨_, rfl⟩
          rw [hz] at HOWN htl ⊢
          have hzb : z ≤ 1000000 := Nat.le_trans htl (Nat.le_trans (Nat.mul_le_mul (show j ≤ 1000 by omega) hC) (by decide))
          have HTS := Lib.hid hts; have HJM := Lib.hid hjm; have HZ := Lib.hid hz; have HLL := Lib.hid hll
          have t2 : decide (j < m) = true := decide_eq_true hjm
          have j1 : (j : Int) < m := by omega
          have j2 : (0 : Int) ≤ j := by omega
          clear hown hb hc ha hT hz hts hjm htl hll
          go_wp2_with fail
          refine NX.out.mono ?_; rintro e w3 ⟨u3, rfl, hu3, q3, hw3⟩
          have hb3 : Below wr.heap.size wr w3 := by rw [hw3]; exact below_drewN' (Below.refl _ _) q3
          have hs3 := HB.out.size
          have hs4 := hb3.size
          have HO3 := Lib.hid (own_below HOWN.out hb3 (Nat.le_refl _))
          have HU3 := Lib.hid hu3
          have HB3 := Lib.hid (HB.out.trans (hb3.mono hs3))
          have hs5 : wo.heap.size ≤ w3.heap.size := Nat.le_trans hs3 hs4
          obtain ⟨_, A3, c3, rfl, _⟩ := hu3
          clear hw3 hb3 hc'
          go_wp2_with (at_builtin; refine wpList_appInts _ rfl _ _ 44 rfl wo.heap.size i0 Tryz.underlying44 hi0 hz0 hz1 hz2 _ z _ rfl HO3.out _ T rfl HU3.out.1 (by have := HLL.out; omega) hs5 ?_)
          intro A4 c4 w4 hown4 hgrow4
          have hb4 := hgrow4.below HO3.out HB3.out (Nat.le_refl _) hs5
          have HB4 := Lib.hid hb4
          have HO4 : Hid (w4.ownsRow wo.heap.size 3 1 (.slice A4 (z + T.length) c4) (toP C k (j + 1)).length (intCells (toP C k (j + 1)))) := Lib.hid (by
            rw [HTS.out, List.length_append, HZ.out, intCells_app]; exact hown4)
          clear hown4 hgrow4 hb4
          go_wp2_with fail
          go_roundg (m - (j + 1))
          case rel => exact ⟨j + 1, HJM.out, rfl, by go_num, HO4.out, HB4.out⟩
          case measure => have := HJM.out; omega
        · obtain rfl : j = m := by omega
          have t2 : decide (j < j) = false := by simp
          have hto : ofR (toP C k j) = rowP C (k + 1) := by
            rw [toP, List.take_of_length_le (by rw [HML.out]; exact Nat.le_refl _), row_flat]
          have hzb : (toP C k j).length ≤ 1000000 := Nat.le_trans htl (Nat.le_trans (Nat.mul_le_mul (show j ≤ 1000 by omega) hC) (by decide))
          have SO := setsOf_any _ _ wr (own_seq hown) (by omega)
          rw [hto] at SO
          have HSO := Lib.hid SO
          have HMR := Lib.hid (HMK.out.below hb)
          have HGR := Lib.hid (show g < wr.heap.size from Nat.lt_of_lt_of_le HGL.out hb.size)
          clear hown hb htl hjm hto hzb SO
          go_wp2_with fail
          refine HSO.out.mono ?_; rintro e w4 ⟨v4, rfl, hv4, hf4, hb4⟩
          have hM4 := HMR.out.below hb4
          have hP4 := hM4.put (i := k + 1) hv4 (by
            rcases hf4 with h | ⟨b, off, n', c', e, hb⟩
            · exact Or.inl h
            · exact Or.inr ⟨b, off, n', c', e, Nat.lt_of_lt_of_le (HGR.out) hb⟩)
          obtain ⟨cs4, hcs4, hrow4⟩ := hM4.blk
          obtain ⟨u4, hu4, _, _⟩ := hrow4 (k + 1) HLT.out
          have cu4 : w4.cell? ⟨g, k + 1, none⟩ = some u4 := by rw [hcs4.cell (k + 1), hu4]
          have fu4 := hcs4.free (k + 1)
          have HP4 := Lib.hid hP4
          obtain ⟨_, A4, c4, rfl, _⟩ := hv4
          have i4 : (k : Int) + 1 < n := by have := HLT.out; omega
          clear hM4 hP4 hcs4 hrow4 hu4 hb4 hf4
          go_wp2_with fail
          go_roundg (n - 1 - (k + 1))
          case rel => exact ⟨k + 1, HLT.out, rfl, by go_num, HP4.out⟩
          case measure => have := HLT.out; omega
    · obtain rfl : n = k + 1 := by omega
      have t1 : decide ((k : Int) + 1 < ((k + 1 : Nat) : Int)) = false := by simp
      have t1' : decide (k + 1 < k + 1) = false := by simp
      have t1'' : decide ((k : Int) + 1 < (k : Int) + 1) = false := by simp
      have HF := Lib.hid (hm.lists (c := cg) (by omega))
      have HB := Lib.hid hm.bel
      clear hm hlt
      go_wp2_with fail
      refine HLN.out.mono ?_; rintro e w2 ⟨rfl, hw2⟩
      obtain rfl := hw2.symm
      go_wp2_with fail
      go_ret
      exact ⟨_, rfl, HF.out, HB.out⟩
end Go.Proofs.YtcmocigckcjdjaaGreatDoor
