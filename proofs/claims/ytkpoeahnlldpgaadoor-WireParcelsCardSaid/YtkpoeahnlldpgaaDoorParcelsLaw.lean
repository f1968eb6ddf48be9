/- WireParcels: the law. -/
import Derived.Test.YtkpoeahnlldpgaaDoorSlots
namespace Go.Proofs.YtkpoeahnlldpgaaDoor
open Go.RowKit

set_option maxRecDepth 100000 in
theorem parcels_far (k c : UInt8) (a : Nat) (l m : List UInt8) (v u : Value) (w : World) (hg : ErrT w) (hv : BytesV w v l) (hu : BytesV w u m) (hbig : 500 < l.length ∨ (l.length ≤ 500 ∧ 500 < m.length)) :
    Calls Tryd.prog 5 #[.int .u8 (k.toNat : Int), v, u, .int .u16 (a : Nat), .int .u8 (c.toNat : Int)] w fun e w' => e = .returned (.bool true) ∧ Below w.heap.size w w' := by
  obtain ⟨A, cl, rfl, _⟩ := hv.form
  obtain ⟨B, cm, rfl, _⟩ := hu.form
  have AL := Lib.hid (alive_ok w hg)
  have ht : (decide ((500 : Int) < l.length) = true) ∨ (decide ((500 : Int) < l.length) = false ∧ decide ((500 : Int) < m.length) = true) := by
    simp only [decide_eq_true_eq, decide_eq_false_iff_not]; omega
  clear hv hu hg hbig
  rcases ht with t1 | ⟨t1, t2⟩
  all_goals
    go_enter Tryd.func5, Tryd.ntmps5
    go_wp2_with fail
    refine AL.out.mono ?_; rintro e w1 ⟨rfl, hb1⟩
    have HB1 := Lib.hid hb1
    clear hb1
    go_wp2_with fail
    go_ret
    exact ⟨rfl, HB1.out⟩

theorem unpack_raw (m : List UInt8) (v : Value) (w : World) (h : BytesV w v m) (hu : up m = none) (hm : m.length ≤ 1000000) :
    Calls Tryd.prog 31 #[v] w fun e w' => ∃ v', e = .returned (.tuple #[.int .u8 ((m.getD 4 0).toNat : Int), v', .nilIface]) ∧ BytesV w' v' ((m.take (m.length - 4)).drop 9) ∧ Below w.heap.size w w' := by
  refine (unpack_any _ v w h (by omega)).mono fun e w' ht => ?_
  obtain ⟨_, h2, h3⟩ := ht
  obtain ⟨v', he, ho⟩ := h2 hu
  exact ⟨v', he, own_bytesV ho, h3⟩

set_option maxRecDepth 100000 in
set_option maxHeartbeats 4000000 in
theorem parcels_law (k c : UInt8) (a : Nat) (l m : List UInt8) (v u : Value) (w : World) (hg : ErrT w) (hv : BytesV w v l) (hu : BytesV w u m) (ha : a < 65536) (hl : l.length ≤ 500) (hm : m.length ≤ 500) :
    Calls Tryd.prog 5 #[.int .u8 (k.toNat : Int), v, u, .int .u16 (a : Nat), .int .u8 (c.toNat : Int)] w fun e w' => e = .returned (.bool true) ∧ Below w.heap.size w w' := by
  obtain ⟨i0, hi, hz0, hz1, hz2⟩ := info_parts Tryd.infoU8
  have HV := Lib.hid hv; have HU := Lib.hid hu; have HG := Lib.hid hg
  obtain ⟨A, cl, rfl, _⟩ := hv.form
  obtain ⟨B, cm, rfl, _⟩ := hu.form
  have AL := Lib.hid (alive_ok w hg)
  have t1 : decide ((500 : Int) < l.length) = false := decide_eq_false (by omega)
  obtain ⟨N, hN⟩ : ∃ N, l.length + 13 = N := ⟨_, rfl⟩
  have hN1 : 13 ≤ N := by omega
  have hN2 : N ≤ 513 := by omega
  have t2 : decide ((500 : Int) < m.length) = false := decide_eq_false (by omega)
  clear hv hu hg
  go_enter Tryd.func5, Tryd.ntmps5
  go_wp2_with fail
  refine AL.out.mono ?_; rintro e w1 ⟨rfl, hb1⟩
  have P1 := Lib.hid (pack_any k l _ w1 (HV.out.below hb1 (Nat.le_refl _)) (by omega))
  have HB1 := Lib.hid hb1
  clear hb1
  go_wp2_with fail
  refine P1.out.mono ?_; rintro e w2 ⟨p, rfl, hp, hb2⟩
  have hB2 := HB1.out.trans (hb2.mono HB1.out.size)
  rw [hN] at hp
  obtain ⟨Ap, cp, rfl⟩ := own_form hp
  have hPL : (parcel k l).length = N := by rw [parcel_len, hN]
  have PL := Lib.hid hPL
  have NN := Lib.hid hN
  clear hN hPL
  have PP := Lib.hid hp
  have U2 := Lib.hid (unpack_parcel k l _ w2 (own_bytesV hp) (by omega))
  have HB2 := Lib.hid hB2
  clear hp hb2 hB2
  go_wp2_with fail
  refine U2.out.mono ?_; rintro e w3 ⟨b3, rfl, ho3, hb3⟩
  have hB3 := HB2.out.trans (hb3.mono HB2.out.size)
  have PV2 := Lib.hid (own_bytesV PP.out)
  have BV3 := Lib.hid (own_bytesV ho3)
  have R3 := Lib.hid (refParcel_any k l _ w3 (HV.out.below hB3 (Nat.le_refl _)) (by omega))
  have HB3 := Lib.hid hB3; have HB23 := Lib.hid hb3
  clear ho3 hb3 hB3
  go_wp2_with fail
  refine R3.out.mono ?_; rintro e w4 ⟨r4, rfl, ho4, hb4⟩
  have hB4 := HB3.out.trans (hb4.mono HB3.out.size)
  have hb24 := HB23.out.trans (hb4.mono HB23.out.size)
  have S4 := Lib.hid (refSame_true _ _ r4 w4 (PV2.out.below hb24 (Nat.le_refl _)) (own_bytesV ho4) (by rw [parcel_len]; omega))
  have HB4 := Lib.hid hB4; have HB24 := Lib.hid hb24; have HB34 := Lib.hid hb4
  clear ho4 hb4 hB4 hb24
  go_wp2_with fail
  refine S4.out.mono ?_; rintro e w5 ⟨rfl, d5, rfl⟩
  have V5 := Lib.hid ((HV.out.below HB4.out (Nat.le_refl _)).drewN d5)
  have U5 := Lib.hid ((HU.out.below HB4.out (Nat.le_refl _)).drewN d5)
  have B5 := Lib.hid ((BV3.out.below HB34.out (Nat.le_refl _)).drewN d5)
  have PV5 := Lib.hid ((PV2.out.below HB24.out (Nat.le_refl _)).drewN d5)
  have HB5 := Lib.hid (below_drewN' HB4.out d5)
  obtain ⟨W5, hW5⟩ : ∃ W5, w4.drewN d5 = W5 := ⟨_, rfl⟩
  rw [hW5] at V5 U5 B5 PV5 HB5 ⊢
  clear hW5
  have S5 := Lib.hid (sum_any l _ W5 V5.out (by omega))
  have T5 := Lib.hid (refSum_any l _ W5 V5.out (by omega))
  obtain ⟨s, hs⟩ : ∃ s : Int, ((asum l : Nat) : Int) = s := ⟨_, rfl⟩
  have hs1 := asum_lt l
  have hs2 : IntKind.i64.wrap s = s := by rw [IntKind.wrap_i64]; omega
  rw [hs] at S5 T5
  have ts : (s != s) = false := by simp
  have tk : ((k.toNat : Int) != k.toNat) = false := by simp
  clear hs hs1
  go_wp2_with fail
  refine S5.out.mono ?_; rintro e w6 ⟨rfl, rfl⟩
  go_wp2_with fail
  refine T5.out.mono ?_; rintro e w7 ⟨rfl, rfl⟩
  go_wp2_with fail
  refine (refSame_true l b3 _ w7 B5.out V5.out (by omega)).mono ?_; rintro e w8 ⟨rfl, d8, rfl⟩
  have PV8 := PV5.out.drewN d8
  have HB8 := Lib.hid (below_drewN' HB5.out d8)
  obtain ⟨W8, hW8⟩ : ∃ W8, w7.drewN d8 = W8 := ⟨_, rfl⟩
  rw [hW8] at PV8 HB8
  obtain ⟨n, hn⟩ : ∃ n, a % N = n := ⟨_, rfl⟩
  have hn1 : n < N := by rw [← hn]; exact Nat.mod_lt _ (by omega)
  have hPV8 := PV8
  obtain ⟨hxx, hcap, b, off, rfl, hcell⟩ := PV8.cells (by rw [PL.out]; omega)
  have hcn : n ≤ cp := by have := PL.out; omega
  have hwin : BytesV W8 (.slice (some ⟨b, off, none⟩) n cp) ((parcel k l).take n) := by
    have := window hcell 0 n cp (by omega) (by rw [PL.out]; omega) (by omega)
    simpa using this
  have HPV8 := Lib.hid hPV8
  have hbad : ∃ c1, up ((parcel k l).take n) = some c1 := by
    have := up_cut k l (by have := NN.out; omega) n (by have := PL.out; omega)
    cases h : up ((parcel k l).take n) with
    | none => exact absurd h this
    | some c1 => exact ⟨c1, rfl⟩
  obtain ⟨c1, hc1⟩ := hbad
  have UC := Lib.hid (unpack_bad c1 _ _ W8 hwin hc1 (by rw [List.length_take]; omega))
  have hnx : ((a : Int) % N) = (n : Int) := by rw [← hn]; rfl
  have HN := Lib.hid hn
  have i1 : (0 : Int) ≤ n := by omega
  have i2 : (n : Int) ≤ cp := by omega
  clear hwin hPV8 PV8 hcell hxx hn
  clear hc1
  go_wp2_with fail
  refine UC.out.mono ?_; rintro e w9 ⟨b9, rfl, _, hb9⟩
  have PV9 := HPV8.out.below hb9 (Nat.le_refl _)
  have HB9 := Lib.hid (HB8.out.trans (hb9.mono HB8.out.size))
  have HPV9 := Lib.hid PV9
  have PVa := Lib.hid (PV9.below ((Below.refl w9.heap.size w9).alloc (Nat.le_refl _) (.cells #[] 5)) (Nat.le_refl _))
  have OWa := Lib.hid (World.ownsRow_lit (base := w9.heap.size) (e := 5) (size := 1) w9 #[] 0 (Nat.le_refl _) (by unfold maxLen; omega) rfl)
  have hsz9 : w9.heap.size ≤ (w9.alloc (.cells #[] 5)).heap.size := by simp
  have hPN := PL.out
  clear hb9 PV9
  have HPN := Lib.hid hPN
  clear hPN
  go_wp2_with (at_builtin; refine wpList_appBytes _ rfl _ _ 27 rfl w9.heap.size i0 Tryd.underlying27 hi hz0 hz1 hz2 _ 0 _ rfl OWa.out _ (parcel k l) rfl PVa.out (by rw [PL.out]; omega) hsz9 ?_)
  intro A10 c10 w10 hown10 hgrow10
  have hb10 : Below w9.heap.size w9 w10 := hgrow10.below OWa.out ((Below.refl _ _).alloc (Nat.le_refl _) _) (Nat.le_refl _) hsz9
  rw [PL.out] at hown10
  rw [PL.out]
  have hs10 := hb10.size
  have OWb := Lib.hid (own_below hown10 ((Below.refl w10.heap.size w10).alloc (Nat.le_refl _) (.cells #[.int .u8 (c.toNat : Int)] 5)) (Nat.le_refl _))
  have FR := Lib.hid (frow w10 #[.int .u8 (c.toNat : Int)] [c] (0, 0) rfl)
  have hsz10 : w9.heap.size ≤ (w10.alloc (.cells #[.int .u8 (c.toNat : Int)] 5)).heap.size := by simp; omega
  have HB10 := Lib.hid hb10
  clear hown10 hgrow10 hb10
  go_wp2_with (at_builtin; refine wpList_appBytes _ rfl _ _ 27 rfl w9.heap.size i0 Tryd.underlying27 hi hz0 hz1 hz2 _ N _ rfl OWb.out _ [c] rfl FR.out (by simp; omega) hsz10 ?_)
  intro A11 c11 w11 hown11 hgrow11
  have hb11 : Below w9.heap.size w9 w11 := hgrow11.below OWb.out (HB10.out.alloc hs10 _) (Nat.le_refl _) hsz10
  have hown11' : w11.ownsRow w9.heap.size 5 1 (.slice A11 (N + 1) c11) (N + 1) (Lib.byteCells (parcel k l ++ [c])) := by
    rw [byteCells_app]
    simpa using hown11
  have UM := Lib.hid (unpack_bad 2 (parcel k l ++ [c]) _ w11 (own_bytesV hown11') (up_more k l (by have := NN.out; omega) c) (by rw [List.length_append, PL.out]; simp; omega))
  have HB11 := Lib.hid hb11
  clear hown11 hgrow11 hb11 hown11' hs10
  go_wp2_with fail
  refine UM.out.mono ?_; rintro e w12 ⟨b12, rfl, hc12, hb12⟩
  have hb12' : Below w9.heap.size w9 w12 := HB11.out.trans (hb12.mono HB11.out.size)
  have HB12 := Lib.hid (HB9.out.trans (hb12'.mono HB9.out.size))
  have PV12 := Lib.hid (HPV9.out.below hb12' (Nat.le_refl _))
  have CO := Lib.hid (code_hit b12 2 w12 (HG.out.below HB12.out (Nat.le_refl _)) hc12)
  clear hc12 hb12 hb12'
  go_wp2_with fail
  refine CO.out.mono ?_; rintro e w13 ⟨rfl, hb13⟩
  have PV13 := Lib.hid (PV12.out.below hb13 (Nat.le_refl _))
  have HB13 := Lib.hid (HB12.out.trans (hb13.mono HB12.out.size))
  clear hb13
  by_cases hc0 : c = 0
  · have tc : ((c.toNat : Int) != 0) = false := by rw [hc0]; rfl
    clear hc0
    go_wp2_with fail
    have UT := HU.out.below HB13.out (Nat.le_refl _)
    rcases hup : up m with _ | c2
    · obtain ⟨hup1, hup2⟩ := up_none hup
      have RW := Lib.hid (unpack_raw m _ w13 UT hup (by omega))
      have hpm : parcel (m.getD 4 0) ((m.take (m.length - 4)).drop 9) = m := hup2.symm
      have hbl : ((m.take (m.length - 4)).drop 9).length ≤ 500 := by simp; omega
      obtain ⟨kk, hkk⟩ : ∃ kk, m.getD 4 0 = kk := ⟨_, rfl⟩
      obtain ⟨bd, hbd⟩ : ∃ bd, (m.take (m.length - 4)).drop 9 = bd := ⟨_, rfl⟩
      rw [hkk, hbd] at RW hpm
      rw [hbd] at hbl
      have HPM := Lib.hid hpm
      clear hkk hbd hup hup1 hup2 hpm UT
      refine RW.out.mono ?_; rintro e wU ⟨vU, rfl, hvU, hbU⟩
      have HBU := Lib.hid (HB13.out.trans (hbU.mono HB13.out.size))
      have PK := Lib.hid (pack_any kk bd vU wU hvU (by omega))
      clear hvU hbU
      go_wp2_with fail
      refine PK.out.mono ?_; rintro e wV ⟨vV, rfl, hoV, hbV⟩
      have HBV := Lib.hid (HBU.out.trans (hbV.mono HBU.out.size))
      rw [HPM.out] at hoV
      have SV := Lib.hid (refSame_true m vV _ wV (own_bytesV hoV) (HU.out.below HBV.out (Nat.le_refl _)) (by omega))
      clear hoV hbV
      go_wp2_with fail
      refine SV.out.mono ?_; rintro e wX ⟨rfl, dX, rfl⟩
      have HBX := Lib.hid (below_drewN' HBV.out dX)
      go_wp2_with fail
      go_ret
      exact ⟨rfl, HBX.out⟩
    · have RW := Lib.hid (unpack_bad c2 m _ w13 UT hup (by omega))
      clear hup UT
      refine RW.out.mono ?_; rintro e wU ⟨bU, rfl, _, hbU⟩
      have HBU := Lib.hid (HB13.out.trans (hbU.mono HB13.out.size))
      clear hbU
      go_wp2_with fail
      go_ret
      exact ⟨rfl, HBU.out⟩
  · have tc : ((c.toNat : Int) != 0) = true := by
      have : c.toNat ≠ 0 := fun e => hc0 (UInt8.toNat_inj.1 e)
      simp; omega
    have HC0 := Lib.hid hc0
    clear hc0
    have PVc := Lib.hid (PV13.out.below ((Below.refl w13.heap.size w13).alloc (Nat.le_refl _) (.cells #[] 5)) (Nat.le_refl _))
    have OWc := Lib.hid (World.ownsRow_lit (base := w13.heap.size) (e := 5) (size := 1) w13 #[] 0 (Nat.le_refl _) (by unfold maxLen; omega) rfl)
    have hsz13 : w13.heap.size ≤ (w13.alloc (.cells #[] 5)).heap.size := by simp
    go_wp2_with (at_builtin; refine wpList_appBytes _ rfl _ _ 27 rfl w13.heap.size i0 Tryd.underlying27 hi hz0 hz1 hz2 _ 0 _ rfl OWc.out _ (parcel k l) rfl PVc.out (by rw [PL.out]; omega) hsz13 ?_)
    intro A14 c14 w14 hown14 hgrow14
    have hb14 : Below w13.heap.size w13 w14 := hgrow14.below OWc.out ((Below.refl _ _).alloc (Nat.le_refl _) _) (Nat.le_refl _) hsz13
    rw [PL.out] at hown14
    rw [PL.out]
    obtain ⟨g, cg, hform, hgb, _, hfz, hcl, hset⟩ := own_set hown14 (by omega)
    injection hform with f1 f2 f3
    subst f1 f3
    obtain ⟨z, hz⟩ : ∃ z : UInt8, (parcel k l).getD n 0 = z := ⟨_, rfl⟩
    have hcn' := hcl n hn1
    have hfz' := hfz n
    have hxor := xor_byte z c
    rw [hz] at hcn'
    have hst := hset n hn1 (z ^^^ c)
    have hbad3 : ∃ c3, up ((parcel k l).set n (z ^^^ c)) = some c3 := by
      have := up_set k l (by have := NN.out; omega) n (z ^^^ c) (by rw [PL.out]; exact hn1) (by rw [hz]; exact xor_ne z c HC0.out)
      cases h : up ((parcel k l).set n (z ^^^ c)) with
      | none => exact absurd h this
      | some c3 => exact ⟨c3, rfl⟩
    obtain ⟨c3, hc3⟩ := hbad3
    have UQ := Lib.hid (unpack_bad c3 _ _ _ hst hc3 (by rw [List.length_set, PL.out]; omega))
    have hbs : Below w13.heap.size w13 (w14.setCell ⟨g, n, none⟩ (.int .u8 ((z ^^^ c).toNat : Int))) := hb14.setCell hgb _
    have HBS := Lib.hid (HB13.out.trans (hbs.mono HB13.out.size))
    have i3 : (n : Int) < N := by omega
    clear hown14 hgrow14 hb14 hgb hfz hcl hset hz hst hc3 hbs f2
    go_wp2_with fail
    refine UQ.out.mono ?_; rintro e w15 ⟨b15, rfl, _, hb15⟩
    have HB15 := Lib.hid (HBS.out.trans (hb15.mono HBS.out.size))
    clear hb15
    go_wp2_with fail
    have UT := HU.out.below HB15.out (Nat.le_refl _)
    rcases hup : up m with _ | c2
    · obtain ⟨hup1, hup2⟩ := up_none hup
      have RW := Lib.hid (unpack_raw m _ w15 UT hup (by omega))
      have hpm : parcel (m.getD 4 0) ((m.take (m.length - 4)).drop 9) = m := hup2.symm
      have hbl : ((m.take (m.length - 4)).drop 9).length ≤ 500 := by simp; omega
      obtain ⟨kk, hkk⟩ : ∃ kk, m.getD 4 0 = kk := ⟨_, rfl⟩
      obtain ⟨bd, hbd⟩ : ∃ bd, (m.take (m.length - 4)).drop 9 = bd := ⟨_, rfl⟩
      rw [hkk, hbd] at RW hpm
      rw [hbd] at hbl
      have HPM := Lib.hid hpm
      clear hkk hbd hup hup1 hup2 hpm UT
      refine RW.out.mono ?_; rintro e wU ⟨vU, rfl, hvU, hbU⟩
      have HBU := Lib.hid (HB15.out.trans (hbU.mono HB15.out.size))
      have PK := Lib.hid (pack_any kk bd vU wU hvU (by omega))
      clear hvU hbU
      go_wp2_with fail
      refine PK.out.mono ?_; rintro e wV ⟨vV, rfl, hoV, hbV⟩
      have HBV := Lib.hid (HBU.out.trans (hbV.mono HBU.out.size))
      rw [HPM.out] at hoV
      have SV := Lib.hid (refSame_true m vV _ wV (own_bytesV hoV) (HU.out.below HBV.out (Nat.le_refl _)) (by omega))
      clear hoV hbV
      go_wp2_with fail
      refine SV.out.mono ?_; rintro e wX ⟨rfl, dX, rfl⟩
      have HBX := Lib.hid (below_drewN' HBV.out dX)
      go_wp2_with fail
      go_ret
      exact ⟨rfl, HBX.out⟩
    · have RW := Lib.hid (unpack_bad c2 m _ w15 UT hup (by omega))
      clear hup UT
      refine RW.out.mono ?_; rintro e wU ⟨bU, rfl, _, hbU⟩
      have HBU := Lib.hid (HB15.out.trans (hbU.mono HB15.out.size))
      clear hbU
      go_wp2_with fail
      go_ret
      exact ⟨rfl, HBU.out⟩
end Go.Proofs.YtkpoeahnlldpgaaDoor
