/- rank: what is read of ranks; behind, branch: contracts. -/
import Derived.Test.YtgphdngfbcjmcaaGreatDoorRank1
namespace Go.Proofs.YtgphdngfbcjmcaaGreatDoor
open Go.RowKit

theorem add_ok (a b : Int) (w : World) (_h0 : -9223372036854775808 ≤ a) (_h1 : a ≤ 9223372036854775807) (k0 : -9223372036854775808 ≤ b) (k1 : b ≤ 9223372036854775807) (s0 : -9223372036854775808 ≤ a + b) (s1 : a + b ≤ 9223372036854775807) :
    Calls Tryz.prog 49 #[.int .i64 a, .int .i64 b] w fun e w' => e = .returned (.tuple #[.int .i64 (a + b), .nilIface]) ∧ w = w' := by
  by_cases hb : 0 < b
  · have c1 : ¬ 9223372036854775807 - b < a := by omega
    go_enter Tryz.func49, Tryz.ntmps49
    go_wp2
    go_ret2
    exact ⟨rfl, rfl⟩
  · by_cases hb2 : b < 0
    · have c1 : ¬ a < -9223372036854775808 - b := by omega
      go_enter Tryz.func49, Tryz.ntmps49
      go_wp2
      go_ret2
      exact ⟨rfl, rfl⟩
    · go_enter Tryz.func49, Tryz.ntmps49
      go_wp2
      go_ret2
      exact ⟨rfl, rfl⟩


/-- What a number of a row is linked to; the last row's, nothing. -/
def nxt (n : Nat) (C : List (List Int)) (i : Nat) (a : Int) : List Int := if i + 1 < n then linkP C i a else []
def nxE (n : Nat) (C : List (List Int)) (i : Nat) (a : Int) : List Int := endsL (cntP C (n - 2 - i) (i + 1)) (nxt n C i a)
theorem nxE_len (n : Nat) (C : List (List Int)) (i : Nat) (a : Int) : (nxE n C i a).length = (nxt n C i a).length := endsL_len _ _
theorem nxt_len (n : Nat) (C : List (List Int)) (i : Nat) (a : Int) : (nxt n C i a).length ≤ C.length := by
  unfold nxt
  split
  · exact link_len C i a
  · simp
theorem lastE_nx {n : Nat} (C : List (List Int)) {i : Nat} (h : i + 1 < n) (a : Int) : lastE (nxE n C i a) = (cntP C (n - 1 - i) i a : Nat) := by
  unfold nxE
  rw [lastE_ends]
  unfold nxt
  rw [if_pos h, show n - 1 - i = (n - 2 - i) + 1 by omega]
  rfl
/-- The ranks' rows and branches of one place, as a reader sees them. -/
def RkLev (w : World) (rb n : Nat) (C : List (List Int)) (i : Nat) : Prop :=
  ∃ Bk Bb g : Nat, w.cell? ⟨rb, 0, none⟩ = some (.slice (some ⟨Bk, 0, none⟩) n n) ∧ w.cell? ⟨rb, 3, none⟩ = some (.slice (some ⟨Bb, 0, none⟩) n n) ∧
    (∃ u, w.cell? ⟨Bk, i, none⟩ = some u ∧ SeqV w u (rowP C i)) ∧ w.cell? ⟨Bb, i, none⟩ = some (.slice (some ⟨g, 0, none⟩) (rowP C i).length (rowP C i).length) ∧
    ∀ t, t < (rowP C i).length → ∃ tt ends, w.cell? ⟨g, t * 2, none⟩ = some tt ∧ w.cell? ⟨g, t * 2 + 1, none⟩ = some ends ∧ SeqV w tt (nxt n C i ((rowP C i).getD t 0)) ∧ SeqV w ends (nxE n C i ((rowP C i).getD t 0))
theorem cell_below {w w' : World} {p : Addr} {v : Value} (h : w.cell? p = some v) {B : Nat} (hb : Below B w w') (hB : w.heap.size ≤ B) : w'.cell? p = some v :=
  (hb.cell (p := p) (Nat.lt_of_lt_of_le (World.block_lt_of_cell? _ _ h) hB)).trans h
theorem RkLev.below {w w' : World} {rb n i : Nat} {C : List (List Int)} (h : RkLev w rb n C i) {B : Nat} (hb : Below B w w') (hB : w.heap.size ≤ B) : RkLev w' rb n C i := by
  obtain ⟨Bk, Bb, g, h1, h2, ⟨u, h3, h4⟩, h5, h6⟩ := h
  refine ⟨Bk, Bb, g, cell_below h1 hb hB, cell_below h2 hb hB, ⟨u, cell_below h3 hb hB, h4.below hb hB⟩, cell_below h5 hb hB, fun t ht => ?_⟩
  obtain ⟨tt, ends, k1, k2, k3, k4⟩ := h6 t ht
  exact ⟨tt, ends, cell_below k1 hb hB, cell_below k2 hb hB, k3.below hb hB, k4.below hb hB⟩

/-- A result that is a branch and lies in a box. -/
theorem results_branch {fn : Func} {p : Tmp} (h : fn.results = #[.cell p 65]) (tmps : Array Value) (w : World) (g : Nat) (x y : Value) (hp : tmps.getD p undef = .pointer (some ⟨g, 0, none⟩)) (hc : Whole w g 65 #[x, y]) :
    (results fn tmps).run Tryz.prog w = .ok (.agg #[x, y]) w := by
  have hp' : tmps[p]?.getD undef = .pointer (some ⟨g, 0, none⟩) := by simpa using hp
  have c0 : w.cell? ⟨g, 0, none⟩ = some x := hc.cell 0
  have c1 : w.cell? ⟨g, 1, none⟩ = some y := hc.cell 1
  simp [results, h, hp', asAddr, loadVar, go_sem, c0, c1]

/-- What behind tells. -/
def BehTo (w : World) (L E : List Int) (e : Ending) (w' : World) : Prop := ∃ tt ends, e = .returned (.agg #[tt, ends]) ∧ SeqV w' tt L ∧ SeqV w' ends E ∧ Below w.heap.size w w'
set_option maxRecDepth 100000 in
set_option maxHeartbeats 1000000 in
theorem behind_any {w : World} {rb n i : Nat} {C : List (List Int)} (h : RkLev w rb n C i) (hi : i < n) (hC : C.length ≤ 100000) {a : Int} (ha : a ∈ rowP C i) :
    Calls Tryz.prog 34 #[.pointer (some ⟨rb, 0, none⟩), .int .i64 i, .int .i64 a] w (BehTo w (nxt n C i a) (nxE n C i a)) := by
  obtain ⟨Bk, Bb, g, c0, c3, ⟨u, cu, hu⟩, cv, hbr⟩ := id h
  obtain ⟨k1, k2⟩ := rankL_at (row_rising C i) ha
  have hcon : (rowP C i).contains a = true := by simpa using ha
  have hrl := row_len C i
  obtain ⟨w1, hw1⟩ : ∃ W, w.alloc (.cells #[.slice none 0 0, .slice none 0 0] 65) = W := ⟨_, rfl⟩
  have hb1 : Below w.heap.size w w1 := by rw [← hw1]; exact (Below.refl _ _).alloc (Nat.le_refl _) _
  have hbox : Whole w1 w.heap.size 65 #[.slice none 0 0, .slice none 0 0] := by rw [← hw1]; exact Whole.new _ _ _
  have BS := bs_any (hu.below hb1 (Nat.le_refl _)) (row_rising C i) (by omega) a
  rw [hcon] at BS
  obtain ⟨k, hk⟩ : ∃ k, rankL (rowP C i) a = k := ⟨_, rfl⟩
  rw [hk] at BS k1 k2
  obtain ⟨tt, ends, ct, ce, ht, he⟩ := hbr k k1
  rw [k2] at ht he
  obtain ⟨At, ct', rfl⟩ := IntsV.form ht
  obtain ⟨Ae, ce', rfl⟩ := IntsV.form he
  obtain ⟨Au, cu', rfl⟩ := IntsV.form hu
  obtain ⟨m, hm⟩ : ∃ m, (rowP C i).length = m := ⟨_, rfl⟩
  rw [hm] at k1 cu cv BS
  obtain ⟨T, hT⟩ : ∃ T, nxt n C i a = T := ⟨_, rfl⟩
  obtain ⟨E, hE⟩ : ∃ E, nxE n C i a = E := ⟨_, rfl⟩
  rw [hT] at ht ct ⊢
  rw [hE] at he ce ⊢
  have HT := Lib.hid ht; have HEE := Lib.hid he; have HB1 := Lib.hid hb1; have HBOX := Lib.hid hbox; have HW1 := Lib.hid hw1; have HBS := Lib.hid BS
  have C0 := Lib.hid c0; have C3 := Lib.hid c3; have CU := Lib.hid cu; have CV := Lib.hid cv; have CT := Lib.hid ct; have CE := Lib.hid ce
  have i1 : (i : Int) < n := by omega
  have i2 : (0 : Int) ≤ i := by omega
  have i3 : (k : Int) < m := by omega
  have i4 : (0 : Int) ≤ k := by omega
  obtain ⟨nt, hnt⟩ : ∃ x, T.length = x := ⟨_, rfl⟩
  obtain ⟨ne, hne⟩ : ∃ x, E.length = x := ⟨_, rfl⟩
  rw [hnt] at CT HT
  rw [hne] at CE HEE
  have d0 := cell_below c0 hb1 (Nat.le_refl _); have d3 := cell_below c3 hb1 (Nat.le_refl _); have du := cell_below cu hb1 (Nat.le_refl _)
  clear h c0 c3 cu cv ct ce ht he hb1 hbox hw1 hbr hu BS k1 k2 hcon hrl hm hT hE hk ha hC hnt hne
  go_enter Tryz.func34, Tryz.ntmps34
  go_upto_region 1 with fail
  rw [HW1.out]
  go_wp2_with fail
  refine HBS.out.mono ?_; rintro e w2 ⟨rfl, q, hw2⟩
  obtain ⟨w3, hw3⟩ : ∃ W, w1.drewN q = W := ⟨_, rfl⟩
  have hb3 : Below w.heap.size w w3 := by rw [← hw3]; exact below_drewN' HB1.out q
  have hbox3 : Whole w3 w.heap.size 65 #[.slice none 0 0, .slice none 0 0] := by rw [← hw3]; exact HBOX.out
  rw [hw2, hw3]
  clear d0 d3 du hw2
  have d3 := cell_below C3.out hb3 (Nat.le_refl _); have dv := cell_below CV.out hb3 (Nat.le_refl _); have dt := cell_below CT.out hb3 (Nat.le_refl _); have de := cell_below CE.out hb3 (Nat.le_refl _)
  have b0 : w3.cell? ⟨w.heap.size, 0, none⟩ = some (.slice none 0 0) := hbox3.cell 0
  have b1 : w3.cell? ⟨w.heap.size, 1, none⟩ = some (.slice none 0 0) := hbox3.cell 1
  have f0 := hbox3.free 0
  have f1 := hbox3.free 1
  have hfin : Whole ((w3.setCell ⟨w.heap.size, 0, none⟩ (.slice At nt ct')).setCell ⟨w.heap.size, 1, none⟩ (.slice Ae ne ce')) w.heap.size 65 #[.slice At nt ct', .slice Ae ne ce'] := (hbox3.put 0 _).put 1 _
  have hbf : Below w.heap.size w ((w3.setCell ⟨w.heap.size, 0, none⟩ (.slice At nt ct')).setCell ⟨w.heap.size, 1, none⟩ (.slice Ae ne ce')) := (hb3.setCell (by simp) _).setCell (by simp) _
  have HF := Lib.hid hfin; have HBF := Lib.hid hbf
  have hbl := hbox3.lt
  clear hfin hbf hb3 hbox3 hw3
  go_wp2_with fail
  exact bodyPost_ret (results_branch rfl _ _ _ _ _ rfl HF.out) rfl ⟨_, _, rfl, HT.out.below HBF.out (Nat.le_refl _), HEE.out.below HBF.out (Nat.le_refl _), HBF.out⟩
end Go.Proofs.YtgphdngfbcjmcaaGreatDoor
