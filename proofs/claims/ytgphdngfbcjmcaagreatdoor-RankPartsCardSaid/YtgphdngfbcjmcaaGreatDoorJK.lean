/- rank: at: its contract. rank: At, Rank: their contracts. -/
import Derived.Test.YtgphdngfbcjmcaaGreatDoorJP
import Derived.Test.YtgphdngfbcjmcaaGreatDoorShelf64
import Derived.Deep.DeepCutAuto
import Derived.Deep.RegionHeld3
namespace Go.Proofs.YtgphdngfbcjmcaaGreatDoor
section
open Go.RowKit

set_option maxRecDepth 100000 in
theorem bs64_any {w : World} {v : Value} {E : List Int} (h : SeqV w v E) (hs : E.Pairwise (· ≤ ·)) (hl : E.length ≤ 1000000) (x : Int) :
    Calls Tryz.prog 38 #[v, .int .i64 x] w fun e w' => ∃ b, e = .returned (.tuple #[.int .i64 (E.countP (· < x) : Nat), .bool b]) ∧ ∃ q, w' = w.drewN q := by
  obtain ⟨A, c, rfl⟩ := IntsV.form h
  rcases Nat.eq_zero_or_pos E.length with h0 | h0
  · have hL : E = [] := List.eq_nil_of_length_eq_zero h0
    subst hL
    clear h hs hl h0
    show Calls Tryz.prog 38 #[.slice A 0 c, .int .i64 x] w _
    go_enter Tryz.func38, Tryz.ntmps38
    go_wp2_with fail
    refine wp_loop_rounds 1 ?_
    rw [rounds_succ]
    go_wp2_with fail
    go_ret2
    exact ⟨_, rfl, 0, rfl⟩
  · obtain ⟨b, off, rfl, _⟩ := h.pos h0
    have hcells : ∀ j, j < E.length → w.cell? ⟨b, off + j, none⟩ = some (.int .i64 (E.getD j 0)) := fun j hj => by
      obtain ⟨b3, off3, e3, hc3⟩ := h.pos hj
      injection e3 with e3
      injection e3 with e3 e4
      subst e3 e4
      exact hc3
    have B : Calls Tryz.prog 38 #[.slice (some ⟨b, off, none⟩) E.length c, .int .i64 x] w _ := AnyG.slices_BinarySearch_int Tryz.bs64 b off E.length c E x w (Nat.le_refl _) (by omega) hcells (by rw [List.take_length]; exact hs)
    rw [List.take_length] at B
    exact B.mono fun e w' ⟨h1, h2⟩ => ⟨_, h1, h2⟩

theorem infoInt : (Tryz.prog.info? 3).map (fun i => (i.zero, i.size, i.bytes)) = some (some (.int .i64 0), 1, 8) := by kernel_rfl
theorem run_ints (n : Nat) (hn : n ≤ 1000000) (V : World) : (Instr.makeSlice 23 (.int .i64 (n : Nat)) (.int .i64 (n : Nat))).run Tryz.prog V = .ok (.slice (some ⟨V.heap.size, 0, none⟩) n n) (V.alloc (.cells (madeCells #[.int .i64 0] n) 3)) := by
  obtain ⟨j1, hi1, ky0, ky1, ky2⟩ := info_parts infoInt
  have h := run_make (P := Tryz.prog) V 23 3 j1 (.int .i64 0) Tryz.underlying23 hi1 ky0 .i64 .i64 (n : Int) (n : Int) (by omega) (by omega) (by rw [ky2]; omega) (by omega)
  rw [h, ky1, Int.toNat_natCast, Nat.mul_one]
  rfl
set_option maxRecDepth 100000 in
set_option maxHeartbeats 1000000 in
theorem behind_from {w0 w : World} {rb n i : Nat} {C : List (List Int)} (h0 : RkLev w0 rb n C i) (hB : Below w0.heap.size w0 w) (hi : i < n) (hC : C.length ≤ 100000) {a : Int} (ha : a ∈ rowP C i) :
    Calls Tryz.prog 34 #[.pointer (some ⟨rb, 0, none⟩), .int .i64 i, .int .i64 a] w fun e w' => ∃ tt ends, e = .returned (.agg #[tt, ends]) ∧ SeqV w0 tt (nxt n C i a) ∧ SeqV w0 ends (nxE n C i a) ∧ Below w.heap.size w w' := by
  obtain ⟨Bk, Bb, g, c0, c3, ⟨u, cu, hu⟩, cv, hbr⟩ := id h0
  have c0 := cell_below c0 hB (Nat.le_refl _); have c3 := cell_below c3 hB (Nat.le_refl _); have cu := cell_below cu hB (Nat.le_refl _); have cv := cell_below cv hB (Nat.le_refl _); have hu := hu.below hB (Nat.le_refl _)
  obtain ⟨k1, k2⟩ := rankL_at (row_rising C i) ha
  have hcon : (rowP C i).contains a = true := by simpa using ha
  have hrl := row_len C i
  obtain ⟨w1, hw1⟩ : ∃ W, w.alloc (.cells #[.slice none 0 0, .slice none 0 0] 65) = W := ⟨_, rfl⟩
  have hb1 : Below w.heap.size w w1 := by rw [← hw1]; exact (Below.refl _ _).alloc (Nat.le_refl _) _
  have hbox : Whole w1 w.heap.size 65 #[.slice none 0 0, .slice none 0 0] := by rw [← hw1]; exact Whole.new _ _ _
  have BS := bs_any (hu.below hb1 (Nat.le_refl _)) (row_rising C i) (by omega) a
  rw [hcon] at BS
  obtain ⟨k, hk⟩ : ∃ k, rankL (rowP C i) a = k := ⟨_, rfl⟩
  rw [hk] at BS k1 k2
  obtain ⟨tt, ends, ct, ce, ht, he⟩ := hbr k k1
  have ct := cell_below ct hB (Nat.le_refl _); have ce := cell_below ce hB (Nat.le_refl _)
  rw [k2] at ht he
  obtain ⟨At, ct', rfl⟩ := IntsV.form ht
  obtain ⟨Ae, ce', rfl⟩ := IntsV.form he
  obtain ⟨Au, cu', rfl⟩ := IntsV.form hu
  obtain ⟨m, hm⟩ : ∃ m, (rowP C i).length = m := ⟨_, rfl⟩
  rw [hm] at k1 cu cv BS
  obtain ⟨T, hT⟩ : ∃ T, nxt n C i a = T := ⟨_, rfl⟩
  obtain ⟨E, hE⟩ : ∃ E, nxE n C i a = E := ⟨_, rfl⟩
  rw [hT] at ht ct ⊢
  rw [hE] at he ce ⊢
  have HT := Lib.hid ht; have HEE := Lib.hid he; have HB1 := Lib.hid hb1; have HBOX := Lib.hid hbox; have HW1 := Lib.hid hw1; have HBS := Lib.hid BS
  have C0 := Lib.hid c0; have C3 := Lib.hid c3; have CU := Lib.hid cu; have CV := Lib.hid cv; have CT := Lib.hid ct; have CE := Lib.hid ce
  have i1 : (i : Int) < n := by omega
  have i2 : (0 : Int) ≤ i := by omega
  have i3 : (k : Int) < m := by omega
  have i4 : (0 : Int) ≤ k := by omega
  obtain ⟨nt, hnt⟩ : ∃ x, T.length = x := ⟨_, rfl⟩
  obtain ⟨ne, hne⟩ : ∃ x, E.length = x := ⟨_, rfl⟩
  rw [hnt] at CT HT
  rw [hne] at CE HEE
  have d0 := cell_below c0 hb1 (Nat.le_refl _); have d3 := cell_below c3 hb1 (Nat.le_refl _); have du := cell_below cu hb1 (Nat.le_refl _)
  clear h0 hB c0 c3 cu cv ct ce ht he hb1 hbox hw1 hbr hu BS k1 k2 hcon hrl hm hT hE hk ha hC hnt hne
  go_enter Tryz.func34, Tryz.ntmps34
  go_upto_region 1 with fail
  rw [HW1.out]
  go_wp2_with fail
  refine HBS.out.mono ?_; rintro e w2 ⟨rfl, q, hw2⟩
  obtain ⟨w3, hw3⟩ : ∃ W, w1.drewN q = W := ⟨_, rfl⟩
  have hb3 : Below w.heap.size w w3 := by rw [← hw3]; exact below_drewN' HB1.out q
  have hbox3 : Whole w3 w.heap.size 65 #[.slice none 0 0, .slice none 0 0] := by rw [← hw3]; exact HBOX.out
  rw [hw2, hw3]
  clear d0 d3 du hw2
  have d3 := cell_below C3.out hb3 (Nat.le_refl _); have dv := cell_below CV.out hb3 (Nat.le_refl _); have dt := cell_below CT.out hb3 (Nat.le_refl _); have de := cell_below CE.out hb3 (Nat.le_refl _)
  have b0 : w3.cell? ⟨w.heap.size, 0, none⟩ = some (.slice none 0 0) := hbox3.cell 0
  have b1 : w3.cell? ⟨w.heap.size, 1, none⟩ = some (.slice none 0 0) := hbox3.cell 1
  have f0 := hbox3.free 0
  have f1 := hbox3.free 1
  have hfin : Whole ((w3.setCell ⟨w.heap.size, 0, none⟩ (.slice At nt ct')).setCell ⟨w.heap.size, 1, none⟩ (.slice Ae ne ce')) w.heap.size 65 #[.slice At nt ct', .slice Ae ne ce'] := (hbox3.put 0 _).put 1 _
  have hbf : Below w.heap.size w ((w3.setCell ⟨w.heap.size, 0, none⟩ (.slice At nt ct')).setCell ⟨w.heap.size, 1, none⟩ (.slice Ae ne ce')) := (hb3.setCell (by simp) _).setCell (by simp) _
  have HF := Lib.hid hfin; have HBF := Lib.hid hbf
  have hbl := hbox3.lt
  clear hfin hbf hb3 hbox3 hw3
  go_wp2_with fail
  exact bodyPost_ret (results_branch rfl _ _ _ _ _ rfl HF.out) rfl ⟨_, _, rfl, HT.out, HEE.out, HBF.out⟩
/-- A path in the making, and where it goes on. -/
structure AtM (w : World) (Pb n : Nat) (X : List Int) (k : Nat) (L E : List Int) (wr : World) : Prop where
  path : ∃ cs, Whole wr Pb 3 cs ∧ cs.size = n ∧ ∀ i, i < k → cs[i]? = some (.int .i64 (X.getD i 0))
  br : ∃ tt ends, Whole wr (Pb + 1) 65 #[tt, ends] ∧ SeqV w tt L ∧ SeqV w ends E
  bel : Below w.heap.size w wr
  at_ : w.heap.size ≤ Pb
theorem AtM.below {w wr w' : World} {Pb n k : Nat} {X L E : List Int} (h : AtM w Pb n X k L E wr) (hb : Below wr.heap.size wr w') : AtM w Pb n X k L E w' := by
  obtain ⟨cs, h1, h2, h3⟩ := h.path
  obtain ⟨tt, ends, k1, k2, k3⟩ := h.br
  exact ⟨⟨cs, h1.below hb h1.lt, h2, h3⟩, ⟨tt, ends, k1.below hb k1.lt, k2, k3⟩, h.bel.trans (hb.mono h.bel.size), h.at_⟩

set_option maxRecDepth 100000 in
set_option maxHeartbeats 4000000 in
theorem at_any {w : World} {rb n m : Nat} {C : List (List Int)} {X : List Int} (h : RanksV w (.pointer (some ⟨rb, 0, none⟩)) n C) (hn1 : 1 ≤ n) (hn8 : n ≤ 8) (hC : C.length ≤ 100000) (htot : totP n C ≤ 9223372036854775807) (hX : (allP n C)[m]? = some X) :
    Calls Tryz.prog 31 #[.pointer (some ⟨rb, 0, none⟩), .int .i64 m] w fun e w' => ∃ v, e = .returned v ∧ SeqC w' v X ∧ Below w.heap.size w w' := by
  obtain ⟨rb', tt, ends, e, hlev, ct, ce, ht, he⟩ := id h
  injection e with e
  injection e with e
  injection e with e
  subst e
  obtain ⟨Bk, _, _, c0, _⟩ := hlev 0 (by omega)
  have HLEV := Lib.hid hlev; have HT := Lib.hid ht; have HE := Lib.hid he
  obtain ⟨At, kt, rfl⟩ := IntsV.form ht
  obtain ⟨Ae, ke, rfl⟩ := IntsV.form he
  have hm : m < 9223372036854775807 := by
    have h1 := (List.getElem?_eq_some_iff.1 hX).1
    rw [all_len] at h1
    omega
  rw [← sub_all C hn1] at hX
  have HX := Lib.hid hX
  have HXL : Hid (X.length = n) := Lib.hid (sub_lengths (n := n) C n 0 (rowP C 0) m _ (Nat.zero_add n) hX)
  obtain ⟨lt, hlt⟩ : ∃ x, (rowP C 0).length = x := ⟨_, rfl⟩
  obtain ⟨le, hle⟩ : ∃ x, (endsL (cntP C (n - 1) 0) (rowP C 0)).length = x := ⟨_, rfl⟩
  rw [hlt] at HT ct
  rw [hle] at HE ce
  obtain ⟨w3, hw3⟩ : ∃ W, (w.alloc (.cells (madeCells #[.int .i64 0] n) 3)).alloc (.cells #[.slice At lt kt, .slice Ae le ke] 65) = W := ⟨_, rfl⟩
  have hb3 : Below w.heap.size w w3 := by rw [← hw3]; exact ((Below.refl _ _).alloc (Nat.le_refl _) _).alloc (by simp) _
  have hM0 : AtM w w.heap.size n X 0 (rowP C 0) (endsL (cntP C (n - 1 - 0) 0) (rowP C 0)) w3 := by
    refine ⟨⟨madeCells #[.int .i64 0] n, ?_, by rw [size_madeCells], fun i hi => absurd hi (Nat.not_lt_zero _)⟩, ⟨_, _, ?_, HT.out, HE.out⟩, hb3, Nat.le_refl _⟩
    · rw [← hw3]; exact (Whole.new _ _ _).alloc _
    · rw [← hw3]
      have := Whole.new (w.alloc (.cells (madeCells #[.int .i64 0] n) 3)) 65 #[.slice At lt kt, .slice Ae le ke]
      rwa [World.size_alloc] at this
  have HM0 := Lib.hid hM0; have HW3 := Lib.hid hw3
  have hmk := fun V => run_ints n (by omega) V
  have d1 := (World.cell?_alloc_lt w (.cells (madeCells #[.int .i64 0] n) 3) ⟨rb, 1, none⟩ (World.block_lt_of_cell? _ _ ct)).trans ct
  have d2 := (World.cell?_alloc_lt w (.cells (madeCells #[.int .i64 0] n) 3) ⟨rb, 2, none⟩ (World.block_lt_of_cell? _ _ ce)).trans ce
  have i1 : (n : Int) ≤ 8 := by omega
  have i2 : (0 : Int) ≤ n := by omega
  clear h hlev ht he hX hlt hle hw3 hb3 hM0 htot ct ce
  go_enter Tryz.func31, Tryz.ntmps31
  go_upto_region 3 with fail
  rw [HW3.out]
  clear d1 d2 c0 hmk
  go_wp2_with fail
  go_loopg [1, 22] n (fun gh x y wr => ∃ (k mk : Nat) (L : List Int), k ≤ n ∧ gh = n - k ∧ x = .int .i64 mk ∧ y = .int .i64 k ∧ mk ≤ m ∧ (∀ a ∈ L, k < n → a ∈ rowP C k) ∧ (L.length ≤ C.length) ∧ (subP n C k L)[mk]? = some (X.drop k) ∧ AtM w w.heap.size n X k L (endsL (cntP C (n - 1 - k) k) L) wr)
  case atStart => exact ⟨0, m, rowP C 0, Nat.zero_le _, rfl, rfl, rfl, Nat.le_refl _, fun a ha _ => ha, row_len C 0, by rw [List.drop_zero]; exact HX.out, HM0.out⟩
  case round =>
    obtain ⟨k, mk, L, hk, rfl, rfl, rfl, hmm, hLR, hLC, hsub, hM⟩ := hrel
    by_cases hkn : k < n
    · obtain ⟨j, a, m', ys, hj, hjl, ha, hY, hmeq, hsub'⟩ := sub_pick C hkn hsub
      have hXk : X.getD k 0 = a := by
        have : (X.drop k).getD 0 0 = a := by rw [hY]; rfl
        simpa [List.getD] using this
      have hXd : X.drop (k + 1) = ys := by
        have : (X.drop k).drop 1 = ys := by rw [hY]; rfl
        rwa [List.drop_drop] at this
      have haL : a ∈ L := by rw [ha]; simp [List.getD, hjl]
      have har := hLR a haL hkn
      obtain ⟨cs, hcs, hsz, hpre⟩ := hM.path
      obtain ⟨tt, ends, hbr, htt, hends⟩ := hM.br
      have hbel := hM.bel
      have BS := bs64_any (hends.below hbel (Nat.le_refl _)) (ends_sorted _ _) (by rw [endsL_len]; omega) ((mk : Int) + 1)
      have e1 : (endsL (cntP C (n - 1 - k) k) L).countP (· < (mk : Int) + 1) = j := hj.symm
      rw [e1] at BS
      have e2 : startE (endsL (cntP C (n - 1 - k) k) L) j = ((aheadP n C k L j : Nat) : Int) := startE_ends _ (Nat.le_of_lt hjl)
      have ST := fun W (hW : Below wr.heap.size wr W) => start_any (vt := tt) ((hends.below hbel (Nat.le_refl _)).below hW (Nat.le_refl _)) (by rw [endsL_len]; omega) j (by rw [endsL_len]; omega)
      rw [e2] at ST
      have BEH := fun W (hW : Below w.heap.size w W) => behind_from (HLEV.out k hkn) hW hkn hC har
      obtain ⟨At, ct, rfl⟩ := IntsV.form htt
      obtain ⟨bt, offt, rfl, hct⟩ := htt.pos hjl
      obtain ⟨Ae, ce, rfl⟩ := IntsV.form hends
      have hct0 : w.cell? ⟨bt, offt + j, none⟩ = some (.int .i64 a) := by rw [hct, ← ha]
      have hbtl : bt < w.heap.size := World.block_lt_of_cell? _ _ hct0
      obtain ⟨lt, hlt⟩ : ∃ x, L.length = x := ⟨_, rfl⟩
      obtain ⟨le, hle⟩ : ∃ x, (endsL (cntP C (n - 1 - k) k) L).length = x := ⟨_, rfl⟩
      obtain ⟨q, hq⟩ : ∃ x, aheadP n C k L j = x := ⟨_, rfl⟩
      rw [hlt] at hbr hjl ST
      rw [hle] at hbr BS ST
      rw [hq] at ST hmeq
      have hM0 := hM
      obtain ⟨Pb, hPb⟩ : ∃ x, w.heap.size = x := ⟨_, rfl⟩
      have HP := Lib.hid hPb
      have HBS := Lib.hid BS; have HST := Lib.hid ST; have HBE := Lib.hid BEH; have HWH := Lib.hid hbr; have HCS := Lib.hid hcs; have HBL := Lib.hid hbel; have HCT := Lib.hid hct0
      have HX1 := Lib.hid hXk; have HX2 := Lib.hid hXd; have HSZ := Lib.hid hsz; have HPRE := Lib.hid hpre; have HKN := Lib.hid hkn; have HSUB := Lib.hid hsub'; have HMM := Lib.hid hmm; have HAL := Lib.hid haL
      have c1 : wr.cell? ⟨w.heap.size + 1, 1, none⟩ = some (.slice Ae le ce) := hbr.cell 1
      have t1 : decide (k < n) = true := decide_eq_true hkn
      have i3 : (k : Int) < n := by omega
      have i4 : (0 : Int) ≤ k := by omega
      have i5 : (mk : Int) < 9223372036854775807 := by omega
      have i6 : (0 : Int) ≤ mk := by omega
      have i7 : (j : Int) < lt := by omega
      have i8 : (0 : Int) ≤ j := by omega
      have i9 : (0 : Int) ≤ q := by omega
      have iA : (q : Int) ≤ mk := by omega
      have iB : (mk : Int) - q = m' := by omega
      clear hj hjl ha hY hmeq hsub' hsub hM hM0 hXk hXd haL har hcs hsz hpre hbr htt hends hbel BS e1 e2 ST BEH hct hct0 hlt hle hq hPb hmm hLR hLC hkn
      go_wp2_with fail
      refine HBS.out.mono ?_; rintro e w2 ⟨bb, rfl, q2, hw2⟩
      have hb2 : Below wr.heap.size wr w2 := by rw [hw2]; exact below_drewN' (Below.refl _ _) q2
      have HB2 := Lib.hid hb2
      have c2 : w2.cell? ⟨w.heap.size + 1, 0, none⟩ = some (.slice (some ⟨bt, offt, none⟩) lt ct) := (HWH.out.below hb2 HWH.out.lt).cell 0
      have c3 : w2.cell? ⟨w.heap.size + 1, 1, none⟩ = some (.slice Ae le ce) := (HWH.out.below hb2 HWH.out.lt).cell 1
      clear hw2 hb2 c1
      go_wp2_with fail
      refine (HST.out _ HB2.out).mono ?_; rintro e w4 ⟨rfl, hb4⟩
      have HB4 := Lib.hid (HB2.out.trans (hb4.mono HB2.out.size))
      have c4 : w4.cell? ⟨w.heap.size + 1, 0, none⟩ = some (.slice (some ⟨bt, offt, none⟩) lt ct) := (HWH.out.below HB4.out HWH.out.lt).cell 0
      have c5 : w4.cell? ⟨bt, offt + j, none⟩ = some (.int .i64 a) := cell_below HCT.out (HBL.out.trans (HB4.out.mono HBL.out.size)) (Nat.le_refl _)
      have hP4 := HCS.out.below HB4.out HCS.out.lt
      have f4 := hP4.free k
      obtain ⟨z, hz⟩ : ∃ z, w4.cell? ⟨w.heap.size, k, none⟩ = some z := ⟨_, by rw [hP4.cell k]; exact Array.getElem?_eq_getElem (by have := HSZ.out; have := HKN.out; omega)⟩
      have HP4 := Lib.hid hP4
      have n1 : bt ≠ w.heap.size := by omega
      clear hb4 hP4 c2 c3
      go_wp2_with fail
      have hb5 : Below w.heap.size w (w4.setCell ⟨w.heap.size, k, none⟩ (.int .i64 a)) := (HBL.out.trans (HB4.out.mono HBL.out.size)).setCell (Nat.le_refl _) _
      have hW5 : Whole (w4.setCell ⟨w.heap.size, k, none⟩ (.int .i64 a)) (w.heap.size + 1) 65 _ := (HWH.out.below HB4.out HWH.out.lt).other (by show w.heap.size + 1 ≠ w.heap.size; omega) _
      have hP5 : Whole (w4.setCell ⟨w.heap.size, k, none⟩ (.int .i64 a)) w.heap.size 3 _ := HP4.out.put k _
      have HB5 := Lib.hid hb5; have HW5 := Lib.hid hW5; have HP5 := Lib.hid hP5
      clear hW5 hP5 hz f4 c4 c5
      refine (HBE.out _ hb5).mono ?_; rintro e w6 ⟨tt', ends', rfl, htt', hends', hb6⟩
      have hW6 := HW5.out.below hb6 HW5.out.lt
      have hP6 := HP5.out.below hb6 HP5.out.lt
      have hB6 := HB5.out.trans (hb6.mono HB5.out.size)
      have c6 : w6.cell? ⟨w.heap.size + 1, 0, none⟩ = some (.slice (some ⟨bt, offt, none⟩) lt ct) := hW6.cell 0
      have c7 : w6.cell? ⟨w.heap.size + 1, 1, none⟩ = some (.slice Ae le ce) := hW6.cell 1
      have f6 := hW6.free 0
      have f7 := hW6.free 1
      have hfin : AtM w w.heap.size n X (k + 1) (nxt n C k a) (endsL (cntP C (n - 1 - (k + 1)) (k + 1)) (nxt n C k a)) ((w6.setCell ⟨w.heap.size + 1, 0, none⟩ tt').setCell ⟨w.heap.size + 1, 1, none⟩ ends') := by
        refine ⟨⟨_, ((hP6.other (by show w.heap.size ≠ w.heap.size + 1; omega) _).other (by show w.heap.size ≠ w.heap.size + 1; omega) _), by simp [HSZ.out], fun i hi => ?_⟩, ⟨tt', ends', (hW6.put 0 tt').put 1 ends', htt', ?_⟩, ((hB6.setCell (by simp) _).setCell (by simp) _), Nat.le_refl _⟩
        · rw [Array.getElem?_setIfInBounds]
          by_cases hik : k = i
          · rw [if_pos hik, if_pos (by rw [HSZ.out]; have := HKN.out; omega), ← hik, HX1.out]
          · rw [if_neg hik]; exact HPRE.out i (by omega)
        · have := hends'
          unfold nxE at this
          rw [show n - 1 - (k + 1) = n - 2 - k by omega]; exact this
      have HF := Lib.hid hfin
      obtain ⟨At', ct', rfl⟩ := IntsV.form htt'
      obtain ⟨Ae', ce', rfl⟩ := IntsV.form hends'
      clear hb5 hb6 htt' hends' hW6 hP6 hB6 hfin
      go_wp2_with fail
      go_roundg (n - (k + 1))
      case rel =>
        refine ⟨k + 1, m', nxt n C k a, HKN.out, rfl, rfl, by go_num, by have := HMM.out; omega, fun b hb hlt => ?_, nxt_len n C k a, by rw [HX2.out]; exact HSUB.out, HF.out⟩
        unfold nxt at hb
        rw [if_pos hlt] at hb
        exact link_row hb
      case measure => have := HKN.out; omega
    · obtain rfl : k = n := by omega
      have HM := Lib.hid hM
      have t1 : decide (k < k) = false := by simp
      clear hM hsub hLR hLC hmm hkn
      go_wp2_with fail
      go_ret
      have hfin : SeqC wr (.slice (some ⟨w.heap.size, 0, none⟩) k k) X := by
        obtain ⟨cs, h1, h2, h3⟩ := HM.out.path
        have hl := HXL.out
        refine ⟨Or.inr ⟨by omega, _, 0, k, by rw [hl], fun i hi => ?_⟩, _, _, by rw [hl], by rw [hl]; exact Nat.le_refl _⟩
        rw [Nat.zero_add, h1.cell i]
        exact h3 i (by omega)
      exact ⟨_, rfl, hfin, HM.out.bel⟩
end

section
open Go.RowKit

/-- A fault of a code. -/
def FaultV (w : World) (v : Value) (c : Int) : Prop := ∃ b : Nat, v = .iface 80 (.pointer (some ⟨b, 0, none⟩)) ∧ w.cell? ⟨b, 0, none⟩ = some (.int .i64 c)
theorem FaultV.below {w w' : World} {v : Value} {c : Int} (h : FaultV w v c) {B : Nat} (hb : Below B w w') (hB : w.heap.size ≤ B) : FaultV w' v c := by
  obtain ⟨b, e, hc⟩ := h
  exact ⟨b, e, cell_below hc hb hB⟩
theorem fault_new (w : World) (c : Int) (v1 v2 : Value) : FaultV (w.alloc (.cells #[.int .i64 c, v1, v2] 83)) (.iface 80 (.pointer (some ⟨w.heap.size, 0, none⟩))) c :=
  ⟨_, rfl, (Whole.new w 83 #[.int .i64 c, v1, v2]).cell 0⟩
def AtTo (n : Nat) (C : List (List Int)) (i : Int) (w : World) (e : Ending) (w' : World) : Prop :=
  ((0 ≤ i ∧ i < totP n C) ∧ ∃ X v, (allP n C)[i.toNat]? = some X ∧ e = .returned (.tuple #[v, .nilIface]) ∧ SeqC w' v X ∧ Below w.heap.size w w') ∨
  (¬ (0 ≤ i ∧ i < totP n C) ∧ ∃ f, e = .returned (.tuple #[.slice none 0 0, f]) ∧ FaultV w' f 3 ∧ Below w.heap.size w w')
set_option maxRecDepth 100000 in
set_option maxHeartbeats 4000000 in
theorem At_any {w : World} {v : Value} {n : Nat} {C : List (List Int)} (h : RanksV w v n C) (hn1 : 1 ≤ n) (hn8 : n ≤ 8) (hC : C.length ≤ 100000) (htot : totP n C ≤ 9223372036854775807) (i : Int) :
    Calls Tryz.prog 13 #[v, .int .i64 i] w (AtTo n C i w) := by
  have TT := Lib.hid (rtotal_any h (by omega))
  have HR := Lib.hid h
  obtain ⟨rb, _, _, rfl, _⟩ := h
  by_cases h0 : i < 0
  · have t1 : decide (i < 0) = true := decide_eq_true h0
    have HN : Hid (¬ (0 ≤ i ∧ i < totP n C)) := Lib.hid (by omega)
    clear h0
    go_enter Tryz.func13, Tryz.ntmps13
    go_wp2_with (go_at_call 23; refine (new_any _ _ _ _).mono ?_; rintro e w' ⟨rfl, rfl⟩)
    go_ret2
    exact Or.inr ⟨HN.out, _, rfl, fault_new _ _ _ _, (Below.refl _ _).alloc (Nat.le_refl _) _⟩
  · have t1 : decide (i < 0) = false := decide_eq_false h0
    by_cases h2 : (totP n C : Int) ≤ i
    · have t2 : decide ((totP n C : Int) ≤ i) = true := decide_eq_true h2
      have HN : Hid (¬ (0 ≤ i ∧ i < totP n C)) := Lib.hid (by omega)
      clear h0 h2
      go_enter Tryz.func13, Tryz.ntmps13
      go_wp2_with fail
      refine TT.out.mono ?_; rintro e w1 ⟨rfl, hb⟩
      have HB := Lib.hid hb
      clear hb
      go_wp2_with (go_at_call 23; refine (new_any _ _ _ _).mono ?_; rintro e w' ⟨rfl, rfl⟩)
      go_ret2
      exact Or.inr ⟨HN.out, _, rfl, fault_new _ _ _ _, HB.out.alloc HB.out.size _⟩
    · have t2 : decide ((totP n C : Int) ≤ i) = false := decide_eq_false h2
      obtain ⟨m, rfl⟩ := Int.eq_ofNat_of_zero_le (show 0 ≤ i by omega)
      have hm : m < (allP n C).length := by rw [all_len]; omega
      obtain ⟨X, hX⟩ : ∃ X, (allP n C)[m]? = some X := ⟨_, List.getElem?_eq_getElem hm⟩
      have HX := Lib.hid hX
      have t3 : decide (totP n C ≤ m) = false := decide_eq_false (by omega)
      have HI : Hid (0 ≤ (m : Int) ∧ (m : Int) < totP n C) := Lib.hid (by omega)
      have HA := Lib.hid (fun W (hW : Below w.heap.size w W) => at_any (HR.out.below hW (Nat.le_refl _)) hn1 hn8 hC htot HX.out)
      clear h0 h2 hm hX htot hC hn1 hn8
      go_enter Tryz.func13, Tryz.ntmps13
      go_wp2_with fail
      refine TT.out.mono ?_; rintro e w1 ⟨rfl, hb⟩
      have HB := Lib.hid hb
      clear hb
      go_wp2_with fail
      refine (HA.out _ HB.out).mono ?_; rintro e w2 ⟨v, rfl, hv, hb2⟩
      have HV := Lib.hid hv
      obtain ⟨_, Av, cv, rfl, _⟩ := hv
      have HB2 := Lib.hid (HB.out.trans (hb2.mono HB.out.size))
      clear hb2
      go_wp2_with fail
      go_ret2
      exact Or.inl ⟨HI.out, _, _, HX.out, rfl, HV.out, HB2.out⟩

/-- What Rank tells. -/
def RankTo (n : Nat) (C : List (List Int)) (X : List Int) (w : World) (e : Ending) (w' : World) : Prop :=
  (∃ m : Nat, (allP n C)[m]? = some X ∧ (∀ m' : Nat, (allP n C)[m']? = some X → m' = m) ∧ e = .returned (.tuple #[.int .i64 m, .nilIface]) ∧ Below w.heap.size w w') ∨
  ((∀ m : Nat, (allP n C)[m]? ≠ some X) ∧ ∃ f, e = .returned (.tuple #[.int .i64 0, f]) ∧ FaultV w' f 5 ∧ Below w.heap.size w w')
theorem sub_len_step {n : Nat} (C : List (List Int)) {k : Nat} (hk : k < n) {L : List Int} (hr : Rising L) {a : Int} (ha : a ∈ L) :
    aheadP n C k L (rankL L a) + (subP n C (k + 1) (nxt n C k a)).length ≤ (subP n C k L).length := by
  have h0 : aheadP n C k L (rankL L a) ≤ (subP n C k L).length := by
    rw [subP, if_pos hk, fm_len, show (L.map fun a => (pthP C (n - 1 - k) k a).length) = L.map (cntP C (n - 1 - k) k) from List.map_congr_left fun b _ => pth_len C (n - 1 - k) k b]
    exact sum_take_le _ L _
  rcases Nat.eq_zero_or_pos (subP n C (k + 1) (nxt n C k a)).length with h | h
  · omega
  · have h1 : (subP n C (k + 1) (nxt n C k a))[(subP n C (k + 1) (nxt n C k a)).length - 1]? = some ((subP n C (k + 1) (nxt n C k a))[(subP n C (k + 1) (nxt n C k a)).length - 1]'(by omega)) := List.getElem?_eq_getElem _
    have h2 := (sub_step C hk hr ha _ _).2 ⟨_, rfl, h1⟩
    have := (List.getElem?_eq_some_iff.1 h2).1
    omega
/-- Where Rank is. -/
structure RkW (w : World) (Bb : Nat) (L E : List Int) (wr : World) : Prop where
  br : ∃ tt ends, Whole wr Bb 65 #[tt, ends] ∧ SeqV w tt L ∧ SeqV w ends E
  bel : Below w.heap.size w wr
  at_ : w.heap.size ≤ Bb
def RkStart (w : World) (L E : List Int) (x y : Value) (wx : World) : Prop := x = .int .i64 0 ∧ y = .pointer (some ⟨w.heap.size, 0, none⟩) ∧ RkW w w.heap.size L E wx

set_option maxRecDepth 100000 in
set_option maxHeartbeats 4000000 in
theorem Rank_any {w : World} {v vp : Value} {n : Nat} {C : List (List Int)} {X : List Int} (h : RanksV w v n C) (hn1 : 1 ≤ n) (hn8 : n ≤ 8) (hC : C.length ≤ 100000) (htot : totP n C ≤ 9223372036854775807) (hX : SeqV w vp X) (hXl : X.length ≤ 9223372036854775807) :
    Calls Tryz.prog 14 #[v, vp] w (RankTo n C X w) := by
  obtain ⟨rb, tt, ends, rfl, hlev, ct, ce, ht, he⟩ := h
  obtain ⟨Bk, _, _, c0, _⟩ := hlev 0 (by omega)
  have HLEV := Lib.hid hlev; have HT := Lib.hid ht; have HE := Lib.hid he; have HX := Lib.hid hX
  obtain ⟨At, kt, rfl⟩ := IntsV.form ht
  obtain ⟨Ae, ke, rfl⟩ := IntsV.form he
  obtain ⟨Ax, kx, rfl⟩ := IntsV.form hX
  obtain ⟨lt, hlt⟩ : ∃ x, (rowP C 0).length = x := ⟨_, rfl⟩
  obtain ⟨le, hle⟩ : ∃ x, (endsL (cntP C (n - 1) 0) (rowP C 0)).length = x := ⟨_, rfl⟩
  obtain ⟨q, hq⟩ : ∃ x, X.length = x := ⟨_, rfl⟩
  rw [hlt] at HT ct
  rw [hle] at HE ce
  rw [hq] at HX hXl ⊢
  have HQ := Lib.hid hq
  by_cases hqn : q = n
  · subst hqn
    have t1 : ((q : Int) != q) = false := by simp
    have t2 : ((q : Int) == 0) = false := by simp; omega
    have t3 : (q == 0) = false := by simp; omega
    have i1 : (q : Int) ≤ 8 := by omega
    have i2 : (0 : Int) ≤ q := by omega
    have HTOT := Lib.hid htot
    obtain ⟨w3, hw3⟩ : ∃ W, w.alloc (.cells #[.slice none 0 0, .slice none 0 0] 65) = W := ⟨_, rfl⟩
    have hb3 : Below w.heap.size w w3 := by rw [← hw3]; exact (Below.refl _ _).alloc (Nat.le_refl _) _
    have hW3 : Whole w3 w.heap.size 65 #[.slice none 0 0, .slice none 0 0] := by rw [← hw3]; exact Whole.new _ _ _
    have z0 : w3.cell? ⟨w.heap.size, 0, none⟩ = some (.slice none 0 0) := hW3.cell 0
    have z1 : w3.cell? ⟨w.heap.size, 1, none⟩ = some (.slice none 0 0) := hW3.cell 1
    have f0 := hW3.free 0
    have f1 := hW3.free 1
    have HB3 := Lib.hid hb3; have HW3 := Lib.hid hW3
    clear hb3 hW3
    have HKS := Lib.hid (fun W (hW : Below w.heap.size w W) => And.intro hW (And.intro (cell_below ct hW (Nat.le_refl _)) (cell_below ce hW (Nat.le_refl _))))
    clear hlev ht he hX hlt hle hq htot ct ce
    go_enter Tryz.func14, Tryz.ntmps14
    go_upto_region 5 with fail
    go_cut [6, 7] (fun x y wx => RkStart w (rowP C 0) (endsL (cntP C (q - 1 - 0) 0) (rowP C 0)) x y wx)
    case first =>
      refine wp_region_held_drew (S := fun W => Below w.heap.size w W ∧ W.cell? ⟨rb, 1, none⟩ = some (.slice At lt kt) ∧ W.cell? ⟨rb, 2, none⟩ = some (.slice Ae le ke)) (by kernel_rfl) ?_ (fun hHeld => ?_)
      · (try dsimp only); exact HKS.out _ (below_drewN' (Below.refl w.heap.size w) 1)
      refine wpAnyH_take (i := 0) (oi := ({ dst := some 29, op := Op.move (Operand.tmp 0), type := 28, pos := "rank.go:139", after := #[{ on := 5, ground := Ground.gcOnly Departure.lateStores }], guard := none } : Oper)) (v := ?vg1) rfl (by kernel_rfl) (by kernel_rfl) (by kernel_rfl) (fun _ _ _ h => h) (Or.inl ⟨by rfl, ?hyg1⟩) (by assumption) ?restg1
      case hyg1 => intro w hSw; (try dsimp only at hSw); go_simp; all_goals (with_reducible rfl)
      try simp only [Act.put, List.setIfInBounds_toArray, List.set_cons_zero, List.set_cons_succ]
      refine wpAnyH_take (i := 1) (oi := ({ dst := some 30, op := Op.nilCheck (Operand.tmp 29), type := 0, pos := "rank.go:139", after := #[{ on := 0, ground := Ground.data }, { on := 5, ground := Ground.gcOnly Departure.lateStores }], guard := none } : Oper)) (v := ?vg2) rfl (by kernel_rfl) (by kernel_rfl) (by kernel_rfl) (fun _ _ _ h => h) (Or.inl ⟨by rfl, ?hyg2⟩) (by assumption) ?restg2
      case hyg2 => intro w hSw; (try dsimp only at hSw); go_simp; all_goals (with_reducible rfl)
      try simp only [Act.put, List.setIfInBounds_toArray, List.set_cons_zero, List.set_cons_succ]
      refine wpAnyH_take (i := 2) (oi := ({ dst := some 31, op := Op.fieldAddr 67 (Operand.tmp 30) 1, type := 0, pos := "rank.go:139", after := #[{ on := 1, ground := Ground.data }, { on := 5, ground := Ground.gcOnly Departure.lateStores }], guard := none } : Oper)) (v := ?vg3) rfl (by kernel_rfl) (by kernel_rfl) (by kernel_rfl) (fun _ _ _ h => h) (Or.inl ⟨by rfl, ?hyg3⟩) (by assumption) ?restg3
      case hyg3 => intro w hSw; (try dsimp only at hSw); go_simp; all_goals (with_reducible rfl)
      try simp only [Act.put, List.setIfInBounds_toArray, List.set_cons_zero, List.set_cons_succ]
      refine wpAnyH_take (i := 3) (oi := ({ dst := some 32, op := Op.load 65 (Operand.tmp 31), type := 65, pos := "rank.go:139", after := #[{ on := 2, ground := Ground.data }, { on := 5, ground := Ground.gcOnly Departure.lateStores }], guard := none } : Oper)) (v := ?vg4) rfl (by kernel_rfl) (by kernel_rfl) (by kernel_rfl) (fun _ _ _ h => h) (Or.inl ⟨by rfl, ?hyg4⟩) (by assumption) ?restg4
      case hyg4 => intro w hSw; (try dsimp only at hSw); go_simp; all_goals (with_reducible rfl)
      try simp only [Act.put, List.setIfInBounds_toArray, List.set_cons_zero, List.set_cons_succ]
      refine wpAnyH_ready (rs := [4]) (by kernel_rfl) (by simp) ?_
      refine (AllReadyH.cons (o := ({ dst := some 7, op := Op.alloc 65, type := 0, pos := "rank.go:139", after := #[], guard := none } : Oper)) rfl (fun K hK => ?_) AllReadyH.nil)
      go_simp
      refine hK.out _ _ ?_ (fun hHeld => ?_)
      · (try dsimp only); exact HKS.out _ (below_drewN' HB3.out 1)
      clear hK K
      try simp only [Act.put, List.setIfInBounds_toArray, List.set_cons_zero, List.set_cons_succ]
      refine wpAnyH_take (i := 5) (oi := ({ dst := some 6, op := Op.assign (Operand.const (Value.int IntKind.i64 0)), type := 2, pos := "rank.go:139", after := #[{ on := 0, ground := Ground.textOnly Departure.lateStores }, { on := 1, ground := Ground.textOnly Departure.lateStores }, { on := 2, ground := Ground.textOnly Departure.lateStores }, { on := 3, ground := Ground.textOnly Departure.lateStores }, { on := 4, ground := Ground.phase }], guard := none } : Oper)) (v := ?vg5) rfl (by kernel_rfl) (by kernel_rfl) (by kernel_rfl) (fun _ _ _ h => h) (Or.inl ⟨by rfl, ?hyg5⟩) (by assumption) ?restg5
      case hyg5 => intro w hSw; (try dsimp only at hSw); go_simp; all_goals (with_reducible rfl)
      try simp only [Act.put, List.setIfInBounds_toArray, List.set_cons_zero, List.set_cons_succ]
      refine wpAnyH_ready (rs := [6]) (by kernel_rfl) (by simp) ?_
      refine (AllReadyH.cons (o := ({ dst := none, op := Op.store 65 (Operand.tmp 7) (Operand.tmp 32), type := 0, pos := "rank.go:139", after := #[{ on := 4, ground := Ground.data }, { on := 3, ground := Ground.data }, { on := 5, ground := Ground.chain }, { on := 0, ground := Ground.phase }, { on := 1, ground := Ground.phase }, { on := 2, ground := Ground.phase }, { on := 3, ground := Ground.phase }, { on := 4, ground := Ground.phase }, { on := 5, ground := Ground.phase }], guard := none } : Oper)) rfl (fun K hK => ?_) AllReadyH.nil)
      go_simp
      refine hK.out _ _ ?_ (fun hHeld => ?_)
      · (try dsimp only); exact HKS.out _ (by first | exact ((below_drewN' (HB3.out.setCell (Nat.le_refl _) _) 1).setCell (Nat.le_refl _) _) | exact (((below_drewN' HB3.out 1).setCell (Nat.le_refl _) _).setCell (Nat.le_refl _) _))
      clear hK K
      try simp only [Act.put, List.setIfInBounds_toArray, List.set_cons_zero, List.set_cons_succ]
      refine wpAnyH_done (by kernel_rfl) ?_ _
      go_wp2_with fail
      go_meet
      exact ⟨rfl, rfl, ⟨_, _, (HW3.out.put 0 _).put 1 _, HT.out, HE.out⟩, below_drewN' ((HB3.out.setCell (Nat.le_refl _) _).setCell (Nat.le_refl _) _) 1, Nat.le_refl _⟩
    case rest =>
      obtain ⟨rfl, rfl, hM0⟩ := hcut
      have HM0 := Lib.hid hM0
      clear hM0 z0 z1 f0 f1 hw3 HB3 HW3 HKS
      go_wp2_with fail
      go_loopg [6, 35] q (fun gh x y wr => ∃ (k acc : Nat) (L : List Int), k ≤ q ∧ gh = q - k ∧ x = .int .i64 acc ∧ y = .int .i64 k ∧ Rising L ∧ (∀ a ∈ L, k < q → a ∈ rowP C k) ∧ (L.length ≤ C.length) ∧ acc + (subP q C k L).length ≤ totP q C ∧ (∀ m : Nat, (allP q C)[m]? = some X ↔ ∃ mk, m = acc + mk ∧ (subP q C k L)[mk]? = some (X.drop k)) ∧ RkW w w.heap.size L (endsL (cntP C (q - 1 - k) k) L) wr)
      case atStart =>
        refine ⟨0, 0, rowP C 0, Nat.zero_le _, rfl, rfl, rfl, row_rising C 0, fun a ha _ => ha, row_len C 0, ?_, fun m => ?_, HM0.out⟩
        · rw [sub_all C hn1, all_len]; omega
        · rw [sub_all C hn1, List.drop_zero]
          constructor
          · intro h; exact ⟨m, by omega, h⟩
          · rintro ⟨mk, h1, h2⟩; rw [h1, Nat.zero_add]; exact h2
      case round =>
        obtain ⟨k, acc, L, hk, rfl, rfl, rfl, hLr, hLR, hLC, hacc, hall, hM⟩ := hrel
        by_cases hkq : k < q
        · obtain ⟨tt, ends, hbr, htt, hends⟩ := hM.br
          have hbel := hM.bel
          obtain ⟨a, ha⟩ : ∃ a, X.getD k 0 = a := ⟨_, rfl⟩
          have hXk : X.drop k = a :: X.drop (k + 1) := by
            have hkl : k < X.length := by rw [HQ.out]; exact hkq
            rw [List.drop_eq_getElem_cons hkl, ← ha]
            simp [List.getD, hkl]
          obtain ⟨bx, offx, rfl, hca⟩ := HX.out.pos (i := k) (by rw [HQ.out]; exact hkq)
          rw [ha] at hca
          have cX := cell_below hca hbel (Nat.le_refl _)
          have BS := bs_any (htt.below hbel (Nat.le_refl _)) hLr (by omega) a
          obtain ⟨At, ct, rfl⟩ := IntsV.form htt
          obtain ⟨Ae, ce, rfl⟩ := IntsV.form hends
          obtain ⟨bb, hbb⟩ : ∃ b, L.contains a = b := ⟨_, rfl⟩
          obtain ⟨j, hj⟩ : ∃ j, rankL L a = j := ⟨_, rfl⟩
          rw [hbb, hj] at BS
          have t5 : decide (k < q) = true := decide_eq_true hkq
          have i3 : (k : Int) < q := by omega
          have i4 : (0 : Int) ≤ k := by omega
          obtain ⟨lt, hlt⟩ : ∃ x, L.length = x := ⟨_, rfl⟩
          obtain ⟨le, hle⟩ : ∃ x, (endsL (cntP C (q - 1 - k) k) L).length = x := ⟨_, rfl⟩
          rw [hlt] at BS
          have c1 : wr.cell? ⟨w.heap.size, 0, none⟩ = some (.slice At lt ct) := by have := hbr.cell 0; rw [hlt] at this; exact this
          have HBS := Lib.hid BS; have HBEL := Lib.hid hbel
          cases bb with
          | false =>
            have hna : a ∉ L := fun h => by
              have : L.contains a = true := by simpa using h
              rw [this] at hbb; cases hbb
            have HN : Hid (∀ m : Nat, (allP q C)[m]? ≠ some X) := Lib.hid (fun m hm => by
              obtain ⟨mk, _, h2⟩ := (hall m).1 hm
              rw [hXk] at h2
              exact sub_none C hkq hna _ mk h2)
            clear hbr htt hends hM hbel hall hacc hLr hLR hLC hXk ha hca BS hbb hj hlt hle hna hkq
            go_wp2_with fail
            refine HBS.out.mono ?_; rintro e w2 ⟨rfl, q2, hw2⟩
            have HB2 := Lib.hid (show Below w.heap.size w w2 by rw [hw2]; exact below_drewN' HBEL.out q2)
            clear hw2 cX c1
            go_wp2_with (go_at_call 23; refine (new_any _ _ _ _).mono ?_; rintro e w' ⟨rfl, rfl⟩)
            go_ret2
            exact Or.inr ⟨HN.out, _, rfl, fault_new _ _ _ _, HB2.out.alloc HB2.out.size _⟩
          | true =>
            have haL : a ∈ L := by simpa using hbb
            have har := hLR a haL hkq
            have hjl := (rankL_at hLr haL).1
            rw [hj, hlt] at hjl
            have e2 : startE (endsL (cntP C (q - 1 - k) k) L) j = ((aheadP q C k L j : Nat) : Int) := startE_ends _ (by omega)
            have ST := fun W (hW : Below wr.heap.size wr W) => start_any (vt := .slice At L.length ct) ((hends.below hbel (Nat.le_refl _)).below hW (Nat.le_refl _)) (by rw [endsL_len]; omega) j (by rw [endsL_len]; omega)
            have BEH := fun W (hW : Below w.heap.size w W) => behind_from (HLEV.out k hkq) hW hkq hC har
            have hstep := sub_len_step C hkq hLr haL
            have hall' : ∀ m : Nat, (allP q C)[m]? = some X ↔ ∃ mk, m = (acc + aheadP q C k L j) + mk ∧ (subP q C (k + 1) (nxt q C k a))[mk]? = some (X.drop (k + 1)) := fun m => by
              rw [hall m, hXk]
              constructor
              · rintro ⟨mk, h1, h2⟩
                obtain ⟨m', h3, h4⟩ := (sub_step C hkq hLr haL _ mk).1 h2
                rw [hj] at h3
                exact ⟨m', by omega, h4⟩
              · rintro ⟨m', h1, h2⟩
                refine ⟨aheadP q C k L j + m', by omega, (sub_step C hkq hLr haL _ _).2 ⟨m', by rw [hj], h2⟩⟩
            rw [hj] at hstep
            have hb1 : Whole wr w.heap.size 65 #[.slice At lt ct, .slice Ae le ce] := by rw [hlt, hle] at hbr; exact hbr
            rw [hlt, hle, e2] at ST
            obtain ⟨s, hs⟩ : ∃ s, aheadP q C k L j = s := ⟨_, rfl⟩
            rw [hs] at ST hstep hall'
            have i5 : (acc : Int) + s ≤ 9223372036854775807 := by have := HTOT.out; omega
            have i6 : (0 : Int) ≤ acc := by omega
            have i7 : (0 : Int) ≤ s := by omega
            have HST := Lib.hid ST; have HBE := Lib.hid BEH; have HALL := Lib.hid hall'; have HSTEP := Lib.hid (show acc + s + (subP q C (k + 1) (nxt q C k a)).length ≤ totP q C by omega); have HWH := Lib.hid hb1; have HKQ := Lib.hid hkq
            clear hbr htt hends hM hbel hall hall' hacc hLr hLR hLC hXk ha hca BS hbb hj hlt hle haL har hjl e2 ST BEH hstep hb1 hs hkq
            go_wp2_with fail
            refine HBS.out.mono ?_; rintro e w2 ⟨rfl, q2, hw2⟩
            have hb2 : Below wr.heap.size wr w2 := by rw [hw2]; exact below_drewN' (Below.refl _ _) q2
            have HB2 := Lib.hid hb2
            have c2 : w2.cell? ⟨w.heap.size, 0, none⟩ = some (.slice At lt ct) := (HWH.out.below hb2 HWH.out.lt).cell 0
            have c3 : w2.cell? ⟨w.heap.size, 1, none⟩ = some (.slice Ae le ce) := (HWH.out.below hb2 HWH.out.lt).cell 1
            clear hw2 hb2 c1 cX
            go_wp2_with fail
            refine (HST.out _ HB2.out).mono ?_; rintro e w4 ⟨rfl, hb4⟩
            have HB4 := Lib.hid (HB2.out.trans (hb4.mono HB2.out.size))
            clear hb4 c2 c3
            go_wp2_with fail
            have hb5 := HBEL.out.trans (HB4.out.mono HBEL.out.size)
            refine (HBE.out _ hb5).mono ?_; rintro e w6 ⟨tt', ends', rfl, htt', hends', hb6⟩
            have hW6 := (HWH.out.below HB4.out HWH.out.lt).below hb6 (HWH.out.below HB4.out HWH.out.lt).lt
            have hB6 := hb5.trans (hb6.mono hb5.size)
            have c6 : w6.cell? ⟨w.heap.size, 0, none⟩ = some (.slice At lt ct) := hW6.cell 0
            have c7 : w6.cell? ⟨w.heap.size, 1, none⟩ = some (.slice Ae le ce) := hW6.cell 1
            have f6 := hW6.free 0
            have f7 := hW6.free 1
            have hfin : RkW w w.heap.size (nxt q C k a) (endsL (cntP C (q - 1 - (k + 1)) (k + 1)) (nxt q C k a)) ((w6.setCell ⟨w.heap.size, 0, none⟩ tt').setCell ⟨w.heap.size, 1, none⟩ ends') := by
              refine ⟨⟨tt', ends', (hW6.put 0 tt').put 1 ends', htt', ?_⟩, ((hB6.setCell (Nat.le_refl _) _).setCell (Nat.le_refl _) _), Nat.le_refl _⟩
              have := hends'
              unfold nxE at this
              rw [show q - 1 - (k + 1) = q - 2 - k by omega]; exact this
            have HF := Lib.hid hfin
            obtain ⟨At', ct', rfl⟩ := IntsV.form htt'
            obtain ⟨Ae', ce', rfl⟩ := IntsV.form hends'
            clear hb5 hb6 htt' hends' hW6 hB6 hfin
            go_wp2_with fail
            go_roundg (q - (k + 1))
            case rel =>
              refine ⟨k + 1, acc + s, nxt q C k a, HKQ.out, rfl, by go_num, by go_num, ?_, fun b hb hlt => ?_, nxt_len q C k a, HSTEP.out, HALL.out, HF.out⟩
              · unfold nxt; split
                · exact link_rising C k a
                · exact List.Pairwise.nil
              · unfold nxt at hb
                rw [if_pos hlt] at hb
                exact link_row hb
            case measure => have := HKQ.out; omega
        · obtain rfl : k = q := by omega
          have hXd : X.drop k = [] := List.drop_of_length_le (by rw [HQ.out]; exact Nat.le_refl _)
          have hsub : subP k C k L = [[]] := by rw [subP, if_neg (by omega)]
          rw [hXd, hsub] at hall
          have HALL : Hid (∀ m : Nat, (allP k C)[m]? = some X ↔ m = acc) := Lib.hid (fun m => by
            rw [hall]
            constructor
            · rintro ⟨mk, h1, h2⟩
              cases mk with
              | zero => exact h1
              | succ mk => simp at h2
            · intro h; exact ⟨0, by omega, rfl⟩)
          have HM := Lib.hid hM
          have t5 : decide (k < k) = false := by simp
          clear hM hall hacc hLr hLR hLC hXd hsub hkq
          go_wp2_with fail
          go_ret2
          exact Or.inl ⟨acc, (HALL.out acc).2 rfl, fun m' h => (HALL.out m').1 h, rfl, HM.out.bel⟩
  · have t1 : ((q : Int) != n) = true := by simp; omega
    have t1' : (q != n) = true := by simpa using hqn
    have HN : Hid (∀ m : Nat, (allP n C)[m]? ≠ some X) := Lib.hid (fun m hm => hqn (by
      have hmem : X ∈ allP n C := List.mem_of_getElem? hm
      rw [← HQ.out]; exact all_length hn1 hmem))
    have i1 : (n : Int) ≤ 8 := by omega
    have i2 : (0 : Int) ≤ n := by omega
    have i3 : (q : Int) ≤ 9223372036854775807 := by omega
    clear hlev ht he hX hlt hle hq htot ct ce hqn
    go_enter Tryz.func14, Tryz.ntmps14
    go_wp2_with (go_at_call 23; refine (new_any _ _ _ _).mono ?_; rintro e w' ⟨rfl, rfl⟩)
    go_ret2
    exact Or.inr ⟨HN.out, _, rfl, fault_new _ _ _ _, (Below.refl _ _).alloc (Nat.le_refl _) _⟩
end
end Go.Proofs.YtgphdngfbcjmcaaGreatDoor
