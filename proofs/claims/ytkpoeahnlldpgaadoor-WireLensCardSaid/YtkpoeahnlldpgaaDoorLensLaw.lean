/- WireLens: the law. -/
import Derived.Test.YtkpoeahnlldpgaaDoorTake2
import Derived.Test.YtkpoeahnlldpgaaDoorSlots
import Derived.StillTailTactics
import Derived.Outline
namespace Go.Proofs.YtkpoeahnlldpgaaDoor
open Go.RowKit

set_option maxRecDepth 100000 in
theorem lens_far (a li : Nat) (s : ByteArray) (Z : Nat → Int) (l : List UInt8) (u v : Value) (w : World) (hg : ErrT w) (hu : IntsV w u li Z) (hv : BytesV w v l) (hs : s.size ≤ 9223372036854775807) (hbig : 300 < s.size ∨ 60 < li ∨ 300 < l.length) :
    Calls Tryd.prog 6 #[.string s, u, v, .int .u16 (a : Nat)] w fun e w' => e = .returned (.bool true) ∧ Below w.heap.size w w' := by
  obtain ⟨A, cl, rfl, _⟩ := hv.form
  obtain ⟨B, cm, rfl⟩ := hu.form
  have AL := Lib.hid (alive_ok w hg)
  have ht : (decide ((300 : Int) < s.size) = true) ∨ (decide ((300 : Int) < s.size) = false ∧ decide ((60 : Int) < li) = true) ∨ (decide ((300 : Int) < s.size) = false ∧ decide ((60 : Int) < li) = false ∧ decide ((300 : Int) < l.length) = true) := by
    simp only [decide_eq_true_eq, decide_eq_false_iff_not]; omega
  clear hv hu hg hbig
  rcases ht with t1 | ⟨t1, t2⟩ | ⟨t1, t2, t3⟩
  all_goals
    go_enter Tryd.func6, Tryd.ntmps6
    go_wp2_with fail
    refine AL.out.mono ?_; rintro e w1 ⟨rfl, hb1⟩
    have HB1 := Lib.hid hb1
    clear hb1
    go_wp2_with fail
    go_ret
    exact ⟨rfl, HB1.out⟩

/-- What WireLens puts. -/
def lensB (s : ByteArray) (li : Nat) (Z : Nat → Int) : List UInt8 := [] ++ numB 1 ++ be 8 ((-1 : Int) % 18446744073709551616).toNat ++ be 4 s.size ++ s.data.toList ++ be 4 li ++ numsB Z li
theorem bsize (s : ByteArray) : s.data.toList.length = s.size := by rw [Array.length_toList]; rfl
theorem lensB_len (s : ByteArray) (li : Nat) (Z : Nat → Int) : (lensB s li Z).length = 20 + s.size + 4 * li := by
  unfold lensB
  simp only [List.length_append, numB_len, be_len, numsB_len, bsize, List.length_nil]
  omega
theorem sub_mid (a b c : List UInt8) (p n : Nat) (hp : a.length = p) (hn : b.length = n) : sub (a ++ b ++ c) p n = b := by
  subst hp hn
  unfold sub
  rw [List.take_append_of_le_length (by simp), ← List.length_append, List.take_length, List.drop_left]
theorem lensB_size (s : ByteArray) (li : Nat) (Z : Nat → Int) (h : s.size ≤ 300) : num (sub (lensB s li Z) 12 4) = s.size := by
  have e : lensB s li Z = ([] ++ numB 1 ++ be 8 ((-1 : Int) % 18446744073709551616).toNat) ++ be 4 s.size ++ (s.data.toList ++ be 4 li ++ numsB Z li) := by simp [lensB]
  rw [e, sub_mid _ _ _ 12 4 (by simp only [List.length_append, numB_len, be_len, List.length_nil]) (be_len _ _), num_be]
  omega
theorem lensB_str (s : ByteArray) (li : Nat) (Z : Nat → Int) : sub (lensB s li Z) 16 s.size = s.data.toList := by
  have e : lensB s li Z = ([] ++ numB 1 ++ be 8 ((-1 : Int) % 18446744073709551616).toNat ++ be 4 s.size) ++ s.data.toList ++ (be 4 li ++ numsB Z li) := by simp [lensB]
  rw [e, sub_mid _ _ _ 16 s.size (by simp only [List.length_append, numB_len, be_len, List.length_nil]) (bsize s)]

set_option maxRecDepth 100000 in
set_option maxHeartbeats 4000000 in
theorem lens_law (a li : Nat) (s : ByteArray) (Z : Nat → Int) (l : List UInt8) (u v : Value) (w : World) (hg : ErrT w) (hu : IntsV w u li Z) (hv : BytesV w v l) (ha : a < 65536) (hs : s.size ≤ 300) (hli : li ≤ 60) (hl : l.length ≤ 300) :
    Calls Tryd.prog 6 #[.string s, u, v, .int .u16 (a : Nat)] w fun e w' => e = .returned (.bool true) ∧ Below w.heap.size w w' := by
  obtain ⟨i0, hi, hz0, hz1, hz2⟩ := info_parts Tryd.infoU8
  have HU := Lib.hid hu
  obtain ⟨A, cl, rfl, _⟩ := hv.form
  obtain ⟨M, hM⟩ : ∃ M, l.length = M := ⟨_, rfl⟩
  rw [hM] at hv hl ⊢
  have HV := Lib.hid hv
  have HM := Lib.hid hM
  clear hM
  obtain ⟨B, cm, rfl⟩ := hu.form
  have AL := Lib.hid (alive_ok w hg)
  have t1 : decide ((300 : Int) < s.size) = false := decide_eq_false (by omega)
  have t2 : decide ((60 : Int) < li) = false := decide_eq_false (by omega)
  have t3 : decide ((300 : Int) < M) = false := decide_eq_false (by omega)
  clear hv hu hg
  go_enter Tryd.func6, Tryd.ntmps6
  go_wp2_with fail
  refine AL.out.mono ?_; rintro e w1 ⟨rfl, hb1⟩
  have W1 := writer_new w1 w1.heap.size (Nat.le_refl _)
  have hbA : Below w.heap.size w (w1.alloc (.cells #[.slice none 0 0, .nilIface] 60)) := hb1.alloc hb1.size _
  have N1 := Lib.hid (wnum_any _ _ 1 _ _ _ W1 (by simp))
  have HBA := Lib.hid hbA
  have HB1 := Lib.hid hb1
  clear hb1 W1 hbA
  go_wp2_with fail
  refine N1.out.mono ?_; rintro e w2 ⟨rfl, W2, hb2⟩
  have hB2 := HBA.out.trans (hb2.mono HB1.out.size)
  have N2 := Lib.hid (wlong_any _ _ (-1) _ _ _ W2 (by simp [numB_len]))
  have HB2 := Lib.hid hB2
  clear W2 hb2 hB2
  go_wp2_with fail
  refine N2.out.mono ?_; rintro e w3 ⟨rfl, W3, hb3⟩
  have hB3 := HB2.out.trans (hb3.mono HB1.out.size)
  have e3 : numE none 1 ([] : List UInt8).length = none := rfl
  rw [e3] at W3
  have Y3 := Lib.hid (wbytes_any _ _ _ _ _ W3 (by simp [numB_len, be_len]))
  have HW3 := Lib.hid W3
  have HB3 := Lib.hid hB3
  clear W3 hb3 hB3 e3
  go_wp2_with fail
  refine Y3.out.mono ?_; rintro e w4 ⟨y4, rfl, ho4, hb4⟩
  have hB4 := HB3.out.trans (hb4.mono HB3.out.size)
  have el : ([] ++ numB 1 ++ be 8 ((-1 : Int) % 18446744073709551616).toNat).length = 12 := by simp only [List.length_append, numB_len, be_len, List.length_nil]
  rw [el] at ho4
  obtain ⟨A4, c4, rfl⟩ := own_form ho4
  have W4 := HW3.out.below hb4
  have T4 := Lib.hid (wtext_any _ _ s _ _ _ W4 (by rw [el]; omega) (by omega))
  have HB4 := Lib.hid hB4
  clear ho4 hb4 W4 hB4 el
  go_wp2_with fail
  refine T4.out.mono ?_; rintro e w5 ⟨rfl, W5, hb5⟩
  have hB5 := HB4.out.trans (hb5.mono HB1.out.size)
  have L5 := Lib.hid (wlist_any _ _ li Z _ _ _ _ W5 (HU.out.below hB5 (Nat.le_refl _)) (Or.inr fun w' hb => HU.out.below (hB5.trans (hb.mono HB1.out.size)) (Nat.le_refl _)) (by simp only [List.length_append, numB_len, be_len, List.length_nil, bsize]; omega) (by omega))
  have HB5 := Lib.hid hB5
  clear W5 hb5 hB5
  go_wp2_with fail
  refine L5.out.mono ?_; rintro e w6 ⟨rfl, W6, hb6⟩
  have hB6 := HB5.out.trans (hb6.mono HB1.out.size)
  obtain ⟨E6, hE6⟩ : ∃ E, numsE Z none (([] ++ numB 1 ++ be 8 ((-1 : Int) % 18446744073709551616).toNat ++ be 4 s.size ++ s.data.toList).length + 4) li = E := ⟨_, rfl⟩
  rw [hE6] at W6
  obtain ⟨X, hX⟩ : ∃ X, lensB s li Z = X := ⟨_, rfl⟩
  have hX' : [] ++ numB 1 ++ be 8 ((-1 : Int) % 18446744073709551616).toNat ++ be 4 s.size ++ s.data.toList ++ be 4 li ++ numsB Z li = X := hX
  rw [hX'] at W6
  have X1 := lensB_len s li Z
  have X2 := lensB_size s li Z hs
  have X3 := lensB_str s li Z
  rw [hX] at X1 X2 X3
  obtain ⟨N, hN⟩ : ∃ N, 20 + s.size + 4 * li = N := ⟨_, rfl⟩
  rw [hN] at X1
  have iN1 : 20 ≤ N := by omega
  have iN2 : N ≤ 600 := by omega
  have Y6 := wbytes_any _ _ X _ _ W6 (by omega)
  rw [X1] at Y6
  have HX1 := Lib.hid X1; have HX2 := Lib.hid X2; have HX3 := Lib.hid X3; have HN := Lib.hid hN; have HY6 := Lib.hid Y6; have HW6 := Lib.hid W6
  have HB6 := Lib.hid hB6
  clear hE6 hX hX' X1 X2 X3 hN Y6 W6 hb6 hB6
  go_wp2_with fail
  refine HY6.out.mono ?_; rintro e w7 ⟨y7, rfl, ho7, hb7⟩
  have hB7 := HB6.out.trans (hb7.mono HB6.out.size)
  have HBV7 := Lib.hid (own_bytesV ho7)
  obtain ⟨g7, cap7, rfl, _, _, _, hcell7, _⟩ := own_set ho7 (by have := HN.out; omega)
  have HB7 := Lib.hid hB7; have HW7 := Lib.hid (HW6.out.below hb7)
  have hcap : N ≤ cap7 := by
    obtain ⟨A', c', e, hc⟩ := HBV7.out.form
    injection e with e1 e2 e3
    omega
  have i7 : 16 + (s.size : Int) ≤ cap7 := by have := HN.out; omega
  have tN : ((N : Int) != 16 + (s.size : Int) + 4 + 4 * (li : Int)) = false := by
    have h1 := HN.out
    rw [bne_eq_false_iff_eq]
    omega
  have kb := run_convert_bytes_back (P := Tryd.prog) w7 27 9 5 ⟨g7, 16, none⟩ (cap7 - 16) s.data.toList Tryd.underlying27 Tryd.underlying5 Tryd.underlying9 (fun j hj => by
    have hj' : j < s.size := by rw [← bsize]; exact hj
    have h1 := HX3.out
    have hlt : 16 + j < N := by have := HN.out; omega
    rw [addr_add, hcell7 (16 + j) hlt]
    have h2 : s.data.toList[j]? = X[16 + j]? := by
      rw [← h1]
      unfold sub
      rw [List.getElem?_drop, List.getElem?_take_of_lt (by omega)]
    have h3 : X.getD (16 + j) 0 = s.data.toList[j] := by
      rw [List.getElem?_eq_getElem hj] at h2
      simp [List.getD, ← h2]
    rw [h3])
  rw [bsize] at kb
  have HXL := Lib.hid (show X.length = N from HX1.out)
  have h16 : ¬ cap7 = 16 := by have := HN.out; omega
  clear ho7 hb7 hcell7 hB7 hcap
  go_upto_if 69 with fail
  go_cut [] (fun wx => Below w7.heap.size w7 wx)
  case first =>
    by_cases hl0 : M = 0
    · have t5 : decide ((0 : Int) < M) = false := decide_eq_false (by omega)
      have t6 : decide (0 < M) = false := decide_eq_false (by omega)
      subst hl0
      go_wp2_with fail
      go_meet
      exact Below.refl _ _
    · have t5 : decide ((0 : Int) < M) = true := decide_eq_true (by omega)
      have t6 : decide (0 < M) = true := decide_eq_true (by omega)
      have hsz7 : w7.heap.size ≤ (w7.alloc (.cells #[] 5)).heap.size := by simp
      have OWa := Lib.hid (World.ownsRow_lit (base := w7.heap.size) (e := 5) (size := 1) w7 #[] 0 (Nat.le_refl _) (by unfold maxLen; omega) rfl)
      have V7 := HV.out.below HB7.out (Nat.le_refl _)
      have PVa := Lib.hid (V7.below ((Below.refl w7.heap.size w7).alloc (Nat.le_refl _) (.cells #[] 5)) (Nat.le_refl _))
      have HV7 := Lib.hid V7
      obtain ⟨n, hn⟩ : ∃ n, a % M = n := ⟨_, rfl⟩
      have hn1 : n < M := by rw [← hn]; exact Nat.mod_lt _ (by omega)
      have wa : IntKind.i64.wrap (a : Int) = a := by rw [IntKind.wrap_i64]; omega
      have htm2 : (a : Int) % (M : Int) = (n : Int) := by rw [← hn]; rfl
      have htm : Int.tmod (a : Int) (M : Int) = (n : Int) := by rw [← hn]; exact Int.ofNat_tmod a M
      clear V7 hn hl0
      go_wp2_with (at_builtin; refine wpList_appBytes _ rfl _ _ 27 rfl w7.heap.size i0 Tryd.underlying27 hi hz0 hz1 hz2 _ 0 _ rfl OWa.out _ l rfl PVa.out (by rw [HM.out]; omega) hsz7 ?_)
      intro A8 c8 w8 hown8 hgrow8
      have hb8 : Below w7.heap.size w7 w8 := hgrow8.below OWa.out ((Below.refl _ _).alloc (Nat.le_refl _) _) (Nat.le_refl _) hsz7
      rw [HM.out] at hown8
      rw [HM.out]
      obtain ⟨g8, cg8, hform, hgb, hlen8, hfz, hcl, hset⟩ := own_set (by simpa using hown8) (by omega)
      injection hform with f1 f2 f3
      subst f1 f3
      obtain ⟨z, hz⟩ : ∃ z : UInt8, l.getD n 0 = z := ⟨_, rfl⟩
      have hcn := hcl n hn1
      have hfn := hfz n
      rw [hz] at hcn
      have hxor : bits .xor .u8 (z.toNat : Int) 1 = ((z ^^^ 1).toNat : Int) := xor_byte z 1
      have hst := hset n hn1 (z ^^^ 1)
      have hne : asum (l.set n (z ^^^ 1)) ≠ asum l := asum_set l n _ (by have := HM.out; omega) (by rw [hz]; exact xor_ne z 1 (by decide))
      have hbs : Below w7.heap.size w7 (w8.setCell ⟨g8, n, none⟩ (.int .u8 ((z ^^^ 1).toNat : Int))) := hb8.setCell hgb _
      have HST := Lib.hid hst; have HBS := Lib.hid hbs; have HNE := Lib.hid hne
      have i1 : (0 : Int) ≤ n := by omega
      have i2 : (n : Int) < M := by omega
      have i3 : ¬ M = 0 := by omega
      have i4 : ¬ (M : Int) = 0 := by omega
      clear hown8 hgrow8 hgb hfz hcl hset hz hst hne hbs f2 hb8 hlen8
      go_wp2_with fail
      go_still_tail 16, (by kernel_rfl)
      change wpList _ _ _ _ _ w8.drew
      have S1 := sum_any (l.set n (z ^^^ 1)) _ _ (HST.out.drewN 1) (by rw [List.length_set, HM.out]; omega)
      have S2 := sum_any l _ _ ((HV7.out.below HBS.out (Nat.le_refl _)).drewN 1) (by rw [HM.out]; omega)
      obtain ⟨x, hx⟩ : ∃ x : Int, ((asum (l.set n (z ^^^ 1)) : Nat) : Int) = x := ⟨_, rfl⟩
      obtain ⟨y, hy⟩ : ∃ y : Int, ((asum l : Nat) : Int) = y := ⟨_, rfl⟩
      rw [hx] at S1
      rw [hy] at S2
      have txy : (x == y) = false := by
        rw [beq_eq_false_iff_ne]
        have := HNE.out
        omega
      have HS1 := Lib.hid S1; have HS2 := Lib.hid S2
      clear S1 S2 hx hy
      go_wp2_with fail
      refine HS1.out.mono ?_; rintro e w9 ⟨rfl, hw9⟩; obtain rfl := hw9.symm
      go_wp2_with fail
      refine HS2.out.mono ?_; rintro e w9 ⟨rfl, hw9⟩; obtain rfl := hw9.symm
      go_wp2_with fail
      go_meet
      exact below_drewN' HBS.out 1
  case rest =>
    have hBc := HB7.out.trans (hcut.mono HB7.out.size)
    have hbx := HBV7.out.below hcut (Nat.le_refl _)
    have R1 := Lib.hid (reader_new X _ wc hbx (by rw [HX1.out]; have := HN.out; omega))
    have HWc := Lib.hid (HW7.out.below hcut)
    have HVc := Lib.hid (HV.out.below hBc (Nat.le_refl _))
    have HBc := Lib.hid hBc
    have HCUT := Lib.hid hcut
    clear hcut hBc hbx kb tN
    go_wp2_with fail
    refine R1.out.mono ?_; rintro e w8 ⟨g, rfl, hgb, hr8, hb8⟩
    have hN := HN.out
    have hXL := HXL.out
    have HB78 := Lib.hid (HCUT.out.trans (hb8.mono HCUT.out.size))
    have M1 := Lib.hid (rnum_ok g 0 X w8 hr8 (by omega) (by omega))
    have HG := Lib.hid hgb
    clear hr8 hb8 hN hXL hgb
    go_wp2_with fail
    refine M1.out.mono ?_; rintro e w9 ⟨rfl, hr9, hg9⟩
    have M2 := Lib.hid (rlong_ok g 4 X w9 hr9 (by have := HN.out; have := HXL.out; omega) (by have := HN.out; have := HXL.out; omega))
    have hgl9 : w8.heap.size ≤ w9.heap.size := hg9.size
    have HG9 := Lib.hid hg9
    obtain ⟨m1, hm1⟩ : ∃ m : Int, ((num (sub X 0 4) : Nat) : Int) = m := ⟨_, rfl⟩
    rw [hm1]
    clear hr9 hg9 hm1
    go_wp2_with fail
    refine M2.out.mono ?_; rintro e w10 ⟨rfl, hr10, hg10⟩
    have hg10' := grown_trans HG9.out hg10
    obtain ⟨m2, hm2⟩ : ∃ m : Int, IntKind.i64.wrap ((num (sub X (0 + 4) 8) : Nat) : Int) = m := ⟨_, rfl⟩
    rw [hm2]
    have F1 := left_any g 12 X _ w10 hr10 (by have := HN.out; have := HXL.out; omega)
    have HR10 := Lib.hid hr10
    have HG10 := Lib.hid hg10'
    rw [HX1.out] at F1
    have tq : (((N - 12 : Nat) : Int) == (N : Int) - 12) = true := by rw [beq_iff_eq]; have := HN.out; omega
    obtain ⟨q, hq⟩ : ∃ q : Int, ((N - 12 : Nat) : Int) = q := ⟨_, rfl⟩
    rw [hq] at F1 tq
    have HF1 := Lib.hid F1
    clear F1 hq hm2 hr10 hg10 hg10' hgl9
    go_wp2_with fail
    refine HF1.out.mono ?_; rintro e w11 ⟨rfl, d11, hw11⟩
    have hr11 : ReaderAt w11 g X 12 .nilIface := by rw [hw11]; exact HR10.out
    have hg11 : w8.grownBy w11 (some g) := by rw [hw11]; exact grown_trans HG10.out ⟨rfl, rfl, rfl, Nat.le_refl _, fun _ _ _ => rfl⟩
    have T1 := rtext_ok g 12 s.size X w11 hr11 HX2.out (by have := HN.out; have := HXL.out; omega) (by have := HN.out; have := HXL.out; omega)
    have e16 : (⟨(sub X (12 + 4) s.size).toArray⟩ : ByteArray) = s := by rw [HX3.out]
    rw [e16] at T1
    have HT1 := Lib.hid T1
    have HG11 := Lib.hid hg11
    clear T1 hw11 hr11 hg11 e16
    go_wp2_with fail
    refine HT1.out.mono ?_; rintro e w12 ⟨rfl, hr12, hg12⟩
    have hg12' := grown_trans HG11.out hg12
    have F2 := left_any g (12 + 4 + s.size) X _ w12 hr12 (by have := HN.out; have := HXL.out; omega)
    rw [HX1.out] at F2
    have tq2 : (((N - (12 + 4 + s.size) : Nat) : Int) == 4 + 4 * (li : Int)) = true := by rw [beq_iff_eq]; have := HN.out; omega
    obtain ⟨q2, hq2⟩ : ∃ q : Int, ((N - (12 + 4 + s.size) : Nat) : Int) = q := ⟨_, rfl⟩
    rw [hq2] at F2 tq2
    have HF2 := Lib.hid F2
    have HG12 := Lib.hid hg12'
    clear F2 hq2 hr12 hg12 hg12'
    go_wp2_with fail
    refine HF2.out.mono ?_; rintro e w13 ⟨rfl, d13, hw13⟩
    have hg13 : w8.grownBy w13 (some g) := by rw [hw13]; exact grown_trans HG12.out ⟨rfl, rfl, rfl, Nat.le_refl _, fun _ _ _ => rfl⟩
    have hB13 : Below w7.heap.size w7 w13 := HB78.out.grown hg13 HB78.out.size (fun k hk => by injection hk with hk; have := HG.out; have := HCUT.out.size; omega)
    have hv13 : BytesV w13 (.slice A M cl) l := (HV.out.below HB7.out (Nat.le_refl _)).below hB13 (Nat.le_refl _)
    have P1 := Lib.hid (pack_any 9 l _ w13 hv13 (by rw [HM.out]; omega))
    have HB13 := Lib.hid hB13
    clear hw13 hg13 hv13 hB13
    go_wp2_with fail
    refine P1.out.mono ?_; rintro e w14 ⟨v14, rfl, ho14, hb14⟩
    rw [HM.out] at ho14
    obtain ⟨A14, c14, rfl⟩ := own_form ho14
    have hB14 := HB13.out.trans (hb14.mono HB13.out.size)
    have Y14 := wbytes_any _ _ X _ w14 (HW7.out.below hB14) (by rw [HX1.out]; omega)
    rw [HX1.out] at Y14
    have HY14 := Lib.hid Y14
    have HB14 := Lib.hid hB14
    clear ho14 hb14 hB14 Y14
    go_wp2_with fail
    refine HY14.out.mono ?_; rintro e w15 ⟨v15, rfl, ho15, hb15⟩
    obtain ⟨A15, c15, rfl⟩ := own_form ho15
    have HB15 := Lib.hid (HB14.out.trans (hb15.mono HB14.out.size))
    clear ho15 hb15
    go_wp2_with fail
    go_ret
    exact ⟨rfl, HB7.out.trans (HB15.out.mono HB7.out.size)⟩
end Go.Proofs.YtkpoeahnlldpgaaDoor
