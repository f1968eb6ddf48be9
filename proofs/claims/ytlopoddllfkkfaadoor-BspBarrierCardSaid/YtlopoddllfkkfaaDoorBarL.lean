/- BspBarrier: the law. -/
import Derived.Test.YtlopoddllfkkfaaDoorBarP
import Derived.Test.YtlopoddllfkkfaaDoorBarM
import Derived.Test.YtlopoddllfkkfaaDoorBspF
namespace Go.Proofs.YtlopoddllfkkfaaDoor
open Go.RowKit

/-- A slice of small numbers. -/
def OrdB (w : World) (v : Value) (n : Nat) : Prop := ∃ A c, v = .slice A n c ∧ ∀ i, i < n → ∃ b off o : Nat, A = some ⟨b, off, none⟩ ∧ o < 256 ∧ w.cell? ⟨b, off + i, none⟩ = some (.int .u8 (o : Int))
theorem OrdB.below {w w' : World} {v : Value} {n : Nat} (h : OrdB w v n) {B : Nat} (hb : Below B w w') (hB : w.heap.size ≤ B) : OrdB w' v n := by
  obtain ⟨A, c, rfl, h⟩ := h
  refine ⟨A, c, rfl, fun i hi => ?_⟩
  obtain ⟨b, off, o, h1, h2, h3⟩ := h i hi
  exact ⟨b, off, o, h1, h2, (hb.cell (p := ⟨b, off + i, none⟩) (Nat.lt_of_lt_of_le (World.block_lt_of_cell? _ _ h3) hB)).trans h3⟩
def BarAt (TL : List (List Int)) (p0 : MP) (vt : Value) (ba m k r : Nat) (w2 wr : World) : Prop := ∃ p, BarP k r p ∧ LawA TL p0 vt ba 0 m p w2 wr
def WaitAt (TL : List (List Int)) (p0 : MP) (vt : Value) (ba m k q L : Nat) (w2 wr : World) : Prop := ∃ p, WaitP k L p ∧ LawA TL p0 vt ba q m p w2 wr
theorem zero_txt (k a : Nat) : ((List.replicate k (⟨#[]⟩ : ByteArray)).getD a ⟨#[]⟩).size ≤ 60 := by
  simp only [List.getD, List.getElem?_replicate]
  split <;> exact Nat.zero_le _
theorem whole_vals {w : World} {g : Nat} {t : TypeId} {us : List Value} (h : Whole w g t us.toArray) (h0 : 0 < us.length) : ValsV w (.slice (some ⟨g, 0, none⟩) us.length us.length) us :=
  Or.inr ⟨h0, g, 0, us.length, rfl, fun i _ => by rw [h.cell]; simp⟩
/-- What New leaves. -/
def NewA (TL : List (List Int)) (p0 : MP) (vt : Value) (w : World) (e : Ending) (w' : World) : Prop := ∃ m, e = .returned (.tuple #[.pointer (some ⟨m, 0, none⟩), .nilIface]) ∧ LawA TL p0 vt w.heap.size 0 m p0 w w'
theorem new_a (TL : List (List Int)) (vt : Value) (X : List ByteArray) (v : Value) (w : World) (hv : ValsV w v (txtC X)) (hT : ListsV w vt TL) (h1 : 1 ≤ X.length) (h2 : X.length ≤ 8) (tl : ∀ a, (TL.getD a []).length ≤ 8) (tr : ∀ a, ∀ t ∈ TL.getD a [], 0 ≤ t ∧ t < (X.length : Int)) (s1 : ∀ a, (X.getD a ⟨#[]⟩).size ≤ 60) :
    Calls Tryd.prog 10 #[.iface 35 (.agg #[vt]), v] w (NewA TL (startP X.length 0 X (List.replicate X.length [])) vt w) := by
  refine (lnew (TL := TL) (vt := vt) X v w hv h1 h2 tl tr s1).mono ?_
  rintro e w' ⟨m, R, rfl, h3, _, h4⟩
  exact ⟨m, rfl, R, h3, h4, fun W hW => hT.below hW (Nat.le_refl _), Nat.le_refl _⟩
set_option maxRecDepth 100000 in
set_option maxHeartbeats 8000000 in
theorem barrier_law (rn : Nat) (hrn : rn < 256) (n : Nat) (vo : Value) (w : World) (hg : ErrT w) (ho : OrdB w vo n) :
    Calls Tryd.prog 7 #[.int .u8 (rn : Int), vo] w fun e w' => e = .returned (.bool true) ∧ Below w.heap.size w w' := by
  obtain ⟨i0, hi0, hz0, hz1, hz2⟩ := info_parts Tryd.infoInt6
  obtain ⟨i1, hi1, hy0, hy1, hy2⟩ := info_parts Tryd.infoRow
  have AL := Lib.hid (alive20 w hg)
  have HO := Lib.hid (fun W (h : Below w.heap.size w W) => ho.below h (Nat.le_refl _))
  have HGE := Lib.hid hg
  obtain ⟨Ao, co, rfl, _⟩ := ho
  have z0 : Int.tmod (rn : Int) 5 = ((rn % 5 : Nat) : Int) := by rw [Int.tmod_eq_emod_of_nonneg (by omega)]; omega
  obtain ⟨z, hz⟩ : ∃ z, rn % 5 = z := ⟨_, rfl⟩
  have z4 : z ≤ 4 := by omega
  rw [hz] at z0
  have zc : IntKind.i64.wrap (rn : Int) = (rn : Int) := by rw [IntKind.wrap_i64]; omega
  clear hg hz hrn
  by_cases h40 : 40 < n
  · have t1 : decide (40 < n) = true := decide_eq_true h40
    have t1' : decide ((40 : Int) < n) = true := decide_eq_true (by omega)
    clear h40
    go_enter Tryd.func7, Tryd.ntmps7
    go_wp2_with fail
    refine AL.out.mono ?_; rintro e w1 ⟨rfl, hb1⟩
    go_wp2_with fail
    go_ret
    exact ⟨rfl, hb1⟩
  have t1 : decide (40 < n) = false := decide_eq_false h40
  have t1' : decide ((40 : Int) < n) = false := decide_eq_false (by omega)
  have H40 := Lib.hid h40
  clear h40
  go_enter Tryd.func7, Tryd.ntmps7
  go_wp2_with fail
  refine AL.out.mono ?_; rintro e w1 ⟨rfl, hb1⟩
  have HB1 := Lib.hid hb1
  clear hb1
  go_upto_region 6 with fail
  obtain ⟨k, hk⟩ : ∃ k, k = z + 1 := ⟨_, rfl⟩
  rw [show (1 + (z : Int)) = ((k : Nat) : Int) by omega]
  have k1 : 1 ≤ k := by omega
  have k5 : k ≤ 5 := by omega
  clear hk z0 zc t1 t1' z4
  go_wp2_with fail
  go_loopg [6, 7] k (fun g tv y wr => ∃ a, a ≤ k ∧ g = k - a ∧ y = .int .i64 (a : Nat) ∧ RowsOwn wr w1.heap.size tv (List.replicate a (allN k)) ∧ Below w1.heap.size w1 wr)
  case atStart => exact ⟨0, Nat.zero_le _, rfl, rfl, RowsOwn.nil _ _, Below.refl _ _⟩
  case round =>
    obtain ⟨a, ha, rfl, rfl, hro, hbr⟩ := hrel
    obtain ⟨wo, hwo⟩ : ∃ W, W = wr := ⟨_, rfl⟩
    subst hwo
    by_cases hlt : a < k
    · have t2 : decide (a < k) = true := decide_eq_true hlt
      have t2' : decide ((a : Int) < k) = true := decide_eq_true (by omega)
      obtain ⟨us, hus, hur⟩ := hro
      rw [List.length_replicate] at hus
      have HUS := Lib.hid hus; have HUR := Lib.hid hur; have HBR := Lib.hid hbr; have HLT := Lib.hid hlt
      obtain ⟨At, ct, rfl⟩ := own_form hus
      have hsz1 : w1.heap.size ≤ wo.heap.size := hbr.size
      clear hus hur hbr hlt ha
      go_wp2_with fail
      go_loopg [8, 9] k (fun g lv y wr => ∃ v, v ≤ k ∧ g = k - v ∧ y = .int .i64 (v : Nat) ∧ wr.ownsRow wo.heap.size 3 1 lv v (intCells (allN v)) ∧ Below wo.heap.size wo wr)
      case atStart => exact ⟨0, Nat.zero_le _, rfl, rfl, World.ownsRow_nil _ _ _ 1, Below.refl _ _⟩
      case round =>
        obtain ⟨v, hv, rfl, rfl, hown, hbr2⟩ := hrel
        have HOW := Lib.hid hown; have HBR2 := Lib.hid hbr2
        obtain ⟨Al, cl, rfl⟩ := own_form hown
        have hsz2 : wo.heap.size ≤ wr.heap.size := hbr2.size
        by_cases hlv : v < k
        · have t3 : decide (v < k) = true := decide_eq_true hlv
          have t3' : decide ((v : Int) < k) = true := decide_eq_true (by omega)
          have i3 : (v : Int) < k := by omega
          have HLV := Lib.hid hlv
          clear hown hbr2 hlv hv
          go_wp2_with (at_builtin; refine wpList_app1g _ rfl _ _ 52 rfl wo.heap.size 3 i0 (.int .i64 0) 8 Tryd.underlying52 hi0 hz0 hz1 hz2 rfl _ v _ rfl HOW.out _ rfl rfl (by omega) (by omega) hsz2 ?_)
          intro A4 c4 w4 hown4 hgrow4
          have HO4 : Hid (w4.ownsRow wo.heap.size 3 1 (.slice A4 (v + 1) c4) (v + 1) (intCells (allN (v + 1)))) := Lib.hid (by rw [allN_snoc, intCells_app]; exact hown4)
          have HB4 := Lib.hid (hgrow4.below HOW.out HBR2.out (Nat.le_refl _) hsz2)
          clear hown4 hgrow4
          go_wp2_with fail
          go_roundg (k - (v + 1))
          case rel => exact ⟨v + 1, HLV.out, rfl, rfl, HO4.out, HB4.out⟩
          case measure => have := HLV.out; omega
        · have t3 : decide (v < k) = false := decide_eq_false hlv
          have t3' : decide ((v : Int) < k) = false := decide_eq_false (by omega)
          obtain rfl : k = v := by omega
          have HUS2 := Lib.hid (own_below HUS.out hbr2 (Nat.le_refl _))
          have HUR2 : Hid (∀ (i : Nat) (u : Value) (L : List Int), us[i]? = some u → (List.replicate a (allN k))[i]? = some L → wr.ownsRow w1.heap.size 3 1 u L.length (intCells L)) := Lib.hid (fun i u L h1 h2 => own_below (HUR.out i u L h1 h2) hbr2 (Nat.le_refl _))
          have HOW2 : Hid (wr.ownsRow w1.heap.size 3 1 (.slice Al k cl) (allN k).length (intCells (allN k))) := Lib.hid (by rw [allN_len]; exact own_base hown hsz1)
          have HBW := Lib.hid (HBR.out.trans (hbr2.mono hsz1))
          have hsz3 : w1.heap.size ≤ wr.heap.size := by omega
          have ha5 : a ≤ 5 := by have := HLT.out; omega
          clear hown hbr2 hlv hv
          go_wp2_with (at_builtin; refine wpList_app1g _ rfl _ _ 23 rfl w1.heap.size 52 i1 (.slice none 0 0) 24 Tryd.underlying23 hi1 hy0 hy1 hy2 rfl _ a _ rfl HUS2.out _ rfl rfl (by omega) (by omega) hsz3 ?_)
          intro A5 c5 w5 hown5 hgrow5
          have hro : RowsOwn w5 w1.heap.size (.slice A5 (a + 1) c5) (List.replicate (a + 1) (allN k)) := by
            rw [List.replicate_succ']
            exact RowsOwn.more (by rw [List.length_replicate]; exact HUS2.out) HUR2.out HOW2.out (by rw [List.length_replicate]; exact hown5) hgrow5
          have HRO := Lib.hid hro
          have HB5 := Lib.hid (hgrow5.below HUS2.out HBW.out (Nat.le_refl _) hsz3)
          clear hown5 hgrow5 hro
          go_wp2_with fail
          go_roundg (k - (a + 1))
          case rel => exact ⟨a + 1, HLT.out, rfl, rfl, HRO.out, HB5.out⟩
          case measure => have := HLT.out; omega
    · have t2 : decide (a < k) = false := decide_eq_false hlt
      have t2' : decide ((a : Int) < k) = false := decide_eq_false (by omega)
      obtain rfl : k = a := by omega
      have HL := Lib.hid hro.lists
      obtain ⟨At, ct, rfl⟩ := hro.form
      have HBR := Lib.hid hbr
      clear hro hbr hlt ha
      obtain ⟨wl, hwl⟩ : ∃ W, W = wo := ⟨_, rfl⟩
      have hb2 : Below w1.heap.size w1 wl := by rw [hwl]; exact HBR.out
      have hll : ListsV wl (.slice At (List.replicate k (allN k)).length ct) (List.replicate k (allN k)) := by rw [hwl]; exact HL.out
      rw [List.length_replicate] at hll
      have hnew := new_a (allTo k) (.slice At k ct) (List.replicate k ⟨#[]⟩) (.slice (some ⟨wl.heap.size, 0, none⟩) k k) (wl.alloc (.cells (madeCells #[.string ⟨#[]⟩] k) 9))
        (by
          have h9 := Whole.new wl 9 (madeCells #[.string ⟨#[]⟩] k)
          rw [made_txt] at h9 ⊢
          have h8 := whole_vals h9 (by rw [txtC_len, List.length_replicate]; exact k1)
          rwa [txtC_len, List.length_replicate] at h8)
        (hll.below ((Below.refl _ _).alloc (Nat.le_refl _) _) (Nat.le_refl _)) (by rw [List.length_replicate]; exact k1) (by rw [List.length_replicate]; omega) (allTo_tl (by omega)) (by rw [List.length_replicate]; exact allTo_tr) (zero_txt k)
      rw [List.length_replicate] at hnew
      have hmk := fun V => make_strs k V (by omega)
      obtain ⟨wm, hwm⟩ : ∃ W, wl.alloc (.cells (madeCells #[.string ⟨#[]⟩] k) 9) = W := ⟨_, rfl⟩
      have hbm : Below w.heap.size w wm := by rw [← hwm]; exact (HB1.out.trans (hb2.mono HB1.out.size)).alloc (HB1.out.trans (hb2.mono HB1.out.size)).size _
      rw [hwm] at hnew
      obtain ⟨p0, hp0⟩ : ∃ p, startP k 0 (List.replicate k ⟨#[]⟩) (List.replicate k []) = p := ⟨_, rfl⟩
      rw [hp0] at hnew
      have HP0 : Hid (BarP k k p0) := Lib.hid (by rw [← hp0]; exact BarP.start k _ _)
      have NW := Lib.hid hnew; have HWM := Lib.hid hwm; have HBM := Lib.hid hbm
      have HGW : Hid (∀ W, Below wm.heap.size wm W → ErrT W) := Lib.hid (fun W h => HGE.out.below (hbm.trans (h.mono hbm.size)) (Nat.le_refl _))
      clear hb2 hll hnew hwm hbm hp0
      have K1 := Lib.hid k1
      subst hwl
      rw [List.length_replicate]
      go_wp2_with fail
      rw [HWM.out]
      refine NW.out.mono ?_; rintro e w3 ⟨m, rfl, hl3⟩
      have HL3 := Lib.hid hl3
      clear hl3 hmk t2 t2'
      go_wp2_with fail
      go_loopg [12] k (fun g y wr => ∃ j r z, j + r = k ∧ g = k - j ∧ y = .int .i64 z ∧ z = (r : Int) - 1 ∧ BarAt (allTo k) p0 (.slice At k ct) wm.heap.size m k r wm wr)
      case atStart => exact ⟨0, k, _, Nat.zero_add _, rfl, rfl, rfl, p0, HP0.out, HL3.out⟩
      case round =>
        obtain ⟨j, r, z, hjr, rfl, rfl, hzr, p, hp, hl⟩ := hrel
        have HL4 := Lib.hid hl
        have hwk := hl.inv.l5
        rw [hp.kk] at hwk
        cases r with
        | succ b =>
          obtain rfl : z = (b : Int) := by omega
          clear hzr
          have HJR := Lib.hid hjr
          have hb5 : b < k := by omega
          obtain ⟨f1, f2, f3, f4, f5⟩ := hp.work hb5 hwk
          have PA := Lib.hid (apass hl (by decide) (by rw [hp.rd]; decide))
          rw [f1, f2] at PA
          have F3 := Lib.hid f3; have F4 := Lib.hid f4; have F5 := Lib.hid f5
          obtain ⟨FL, hFL⟩ : ∃ n, k * (k - b) = n := ⟨_, rfl⟩
          have HFL := Lib.hid hFL
          have hfl25 : FL ≤ 25 := by rw [← hFL]; exact Nat.mul_le_mul k5 (by omega : k - b ≤ 5)
          have hcast : (k : Int) * ((k : Int) - (b : Int)) = (FL : Int) := by
            rw [← hFL, Int.natCast_mul, Int.natCast_sub (by omega)]
          have hw64 : wrap64 ((k : Int) * ((k : Int) - (b : Int))) = (FL : Int) := by rw [hcast, IntWalk.wrap64_in _ ⟨by omega, by omega⟩]
          have HW64 := Lib.hid hw64; have HCA := Lib.hid hcast
          clear hp hl hwk hjr f1 f2 f3 f4 f5 hFL hcast hw64
          go_wp2_with fail
          refine PA.out.mono ?_; rintro e w5 ⟨u5, rfl, hu5, hl5⟩
          have HL5 := Lib.hid hl5
          have CO := Lib.hid (code_is hu5 (HGW.out w5 hl5.bel))
          clear hu5 hl5
          go_wp2_with fail
          refine CO.out.mono ?_; rintro e w6 ⟨rfl, hb6⟩
          have HL6 := Lib.hid (HL5.out.below hb6)
          clear hb6
          have WD := Lib.hid (aworked HL6.out (b : Int) false F4.out)
          go_wp2_with fail
          refine WD.out.mono ?_; rintro e w7 ⟨rfl, hb7⟩
          have HL7 := Lib.hid (HL6.out.below hb7)
          clear hb7
          have WK := Lib.hid (awork HL7.out (by decide) (b : Int))
          rw [F3.out] at WK
          go_wp2_with fail
          refine WK.out.mono ?_; rintro e w8 ⟨u8, rfl, hu8, hl8⟩
          obtain rfl := ErrAs.nil hu8 rfl
          have HL8 := Lib.hid hl8
          clear hu8 hl8
          have FY := Lib.hid (aflying HL8.out (by decide) FL (by rw [F5.out.fly]; exact HFL.out))
          go_wp2_with fail
          refine FY.out.mono ?_; rintro e w9 ⟨rfl, hb9⟩
          have HL9 := Lib.hid (HL8.out.below hb9)
          clear hb9
          obtain ⟨c, hc⟩ : ∃ c : Nat, k - b = c := ⟨_, rfl⟩
          have hkb : (k : Int) - (b : Int) = (c : Int) := by omega
          have hkc : (k : Int) * (c : Int) = (FL : Int) := by rw [← hkb]; exact HCA.out
          clear hc
          go_wp2_with fail
          go_roundg (k - (j + 1))
          case rel => exact ⟨j + 1, b, _, by have := HJR.out; omega, rfl, rfl, rfl, _, F5.out, HL9.out⟩
          case measure => have := HJR.out; omega
        | zero =>
          obtain rfl : z = -1 := by omega
          have HP4 := Lib.hid (hp.wait hwk)
          obtain ⟨kk, hkk⟩ : ∃ n, k * k = n := ⟨_, rfl⟩
          rw [hkk] at HP4
          have k25 : kk ≤ 25 := by rw [← hkk]; exact Nat.mul_le_mul k5 k5
          clear hp hl hwk hjr hzr hkk k1
          go_wp2_with fail
          go_loopg [13] kk (fun g y wr => ∃ i, i ≤ kk ∧ g = kk - i ∧ y = .int .i64 (i : Nat) ∧ WaitAt (allTo k) p0 (.slice At k ct) wm.heap.size m k i (kk - i) wm wr)
          case atStart => exact ⟨0, Nat.zero_le _, rfl, rfl, p, HP4.out, HL4.out⟩
          case round =>
            obtain ⟨i, hi, rfl, rfl, p', hw, hl⟩ := hrel
            have hi25 : i ≤ 25 := by omega
            obtain ⟨L, hLL⟩ : ∃ L, kk - i = L := ⟨_, rfl⟩
            rw [hLL] at hw
            have HLL := Lib.hid hLL
            have FY := Lib.hid (aflying hl (by omega) L hw.fly)
            have HL5 := Lib.hid hl; have HW := Lib.hid hw
            by_cases h0 : 0 < L
            · have t4 : decide (0 < L) = true := decide_eq_true h0
              have t4' : decide ((0 : Int) < L) = true := decide_eq_true (by omega)
              have HLT : Hid (i < kk) := Lib.hid (by omega)
              obtain ⟨f1, f2, f3⟩ := (hw.pass (TL := allTo k)).1 h0
              have F1 := Lib.hid f1; have F2 := Lib.hid f2; have F3 := Lib.hid f3
              have H0 := Lib.hid h0
              have hL25 : L ≤ 25 := by omega
              clear hi hw hl hLL f1 f2 f3 h0
              go_wp2_with fail
              refine FY.out.mono ?_; rintro e w5 ⟨rfl, hb5⟩
              have HL6 := Lib.hid (HL5.out.below hb5)
              clear hb5
              have PA := Lib.hid (apass HL6.out (by omega) (by rw [HW.out.rd]; decide))
              rw [F1.out, F2.out, F3.out] at PA
              go_wp2_with fail
              refine PA.out.mono ?_; rintro e w6 ⟨u6, rfl, hu6, hl6⟩
              have HU6 := Lib.hid hu6; have HL6' := Lib.hid hl6
              have HFO := hu6.form
              have CO := Lib.hid (code_is hu6 (HGW.out w6 hl6.bel))
              clear hu6 hl6
              rcases HFO with rfl | ⟨fb, rfl⟩
              · exact absurd rfl (show ¬ Value.nilIface = Value.nilIface from fun _ => by
                  rcases HU6.out with ⟨h9, _⟩ | ⟨_, b9, s9, h9, _⟩
                  · exact absurd h9 (by decide)
                  · cases h9)
              go_wp2_with fail
              refine CO.out.mono ?_; rintro e w7 ⟨rfl, hb7⟩
              have HL7 := Lib.hid (HL6'.out.below hb7)
              have AT := Lib.hid (at_is (HU6.out.below hb7 (Nat.le_refl _)) (by decide) (HGW.out w7 HL7.out.bel))
              clear hb7
              go_wp2_with fail
              refine AT.out.mono ?_; rintro e w8 ⟨rfl, hb8⟩
              have HL7' := Lib.hid (HL7.out.below hb8)
              clear hb8
              have FY2 := Lib.hid (aflying HL7'.out (by omega) L HW.out.fly)
              go_wp2_with fail
              refine FY2.out.mono ?_; rintro e w9 ⟨rfl, hb9⟩
              have HL7'' := Lib.hid (HL7'.out.below hb9)
              clear hb9
              have HW8 := HW
              by_cases hin : i < n
              · have t5 : decide (i < n) = true := decide_eq_true hin
                have t5' : decide ((i : Int) < n) = true := decide_eq_true (by omega)
                obtain ⟨A9, c9, hA9, hO9⟩ := HO.out w9 (HBM.out.trans (HL7''.out.bel.mono HBM.out.size))
                injection hA9 with hA1 hA2 hA3
                subst hA3
                clear hA2
                obtain ⟨b9, off9, o, h1, h2, h3⟩ := hO9 i hin
                rw [h1] at hA1
                subst hA1
                obtain ⟨d, hd⟩ : ∃ d, o % L = d := ⟨_, rfl⟩
                have HD : Hid (d < L) := Lib.hid (by rw [← hd]; exact Nat.mod_lt _ H0.out)
                have om : Int.tmod (o : Int) (L : Int) = (d : Int) := by rw [Int.tmod_eq_emod_of_nonneg (by omega), ← hd]; omega
                have oc : IntKind.i64.wrap (o : Int) = (o : Int) := by rw [IntKind.wrap_i64]; omega
                have om2 : (o : Int) % (L : Int) = (d : Int) := by rw [← hd]; omega
                have hLn : ¬ L = 0 := by have := H0.out; omega
                have hd25 : d ≤ 25 := by have := HD.out; omega
                have dc : IntKind.i64.wrap (d : Int) = (d : Int) := by rw [IntKind.wrap_i64]; omega
                have hL0 : ¬ (L : Int) = 0 := by have := H0.out; omega
                have i1 : (i : Int) < n := by omega
                have KS := Lib.hid (fun W (hW : Below w9.heap.size w9 W) => And.intro hW ((hW.cell (p := ⟨b9, off9 + i, none⟩) (World.block_lt_of_cell? _ _ h3)).trans h3))
                have FYW := Lib.hid (fun W (hW : Below w9.heap.size w9 W) => (aflying (HL7''.out.below hW) (by omega) L HW.out.fly).mono fun e w' h => And.intro h.1 (hW.trans (h.2.mono hW.size)))
                clear hO9 h1 h2 h3 hd hin A9
                go_upto_region 32 with fail
                go_cut [15] (fun x wx => x = .int .i64 (d : Int) ∧ Below w9.heap.size w9 wx)
                case first =>
                  go_region_held3 (fun W => Below w9.heap.size w9 W ∧ W.cell? ⟨b9, off9 + i, none⟩ = some (.int .u8 (o : Int)))
                    (exact KS.out _ (by first | assumption | exact below_drewN' (Below.refl _ _) 1))
                    ((go_at_call 13; refine (FYW.out _ (by first | assumption | exact below_drewN' (Below.refl _ _) 1)).mono ?_; rintro e' w' ⟨rfl, hb'⟩))
                  all_goals
                    go_wp2_with fail
                    go_meet
                    exact ⟨rfl, by assumption⟩
                case rest =>
                  obtain ⟨rfl, hbx⟩ := hcut
                  have HL8 := Lib.hid (HL7''.out.below hbx)
                  clear hbx om oc dc om2
                  go_wp2_with fail
                  have DL := Lib.hid (adeliver HL8.out (by omega) (d : Int))
                  have e0 : (stepP p'.nt 2 (d : Int) 0 ⟨#[]⟩).2 = 0 := (HW8.out.come (i := d) HD.out HL8.out.inv.inv).1
                  rw [e0] at DL
                  clear e0
                  go_wp2_with fail
                  refine DL.out.mono ?_; rintro e w19 ⟨u9, rfl, hu9, hl9⟩
                  obtain rfl := ErrAs.nil hu9 rfl
                  have HL9 := Lib.hid hl9
                  clear hu9 hl9
                  go_wp2_with fail
                  go_roundg (kk - (i + 1))
                  case rel => exact ⟨i + 1, by have := HLT.out; omega, rfl, rfl, _, by have h := (HW8.out.come (i := d) HD.out HL8.out.inv.inv).2; rwa [show L - 1 = kk - (i + 1) by have := HLL.out; omega] at h, HL9.out⟩
                  case measure => have := HLT.out; have := HLL.out; omega
              · have t5 : decide (i < n) = false := decide_eq_false hin
                have t5' : decide ((i : Int) < n) = false := decide_eq_false (by omega)
                have HL8 := HL7''
                have HD : Hid (0 < L) := H0
                clear hin
                go_wp2_with fail
                have DL := Lib.hid (adeliver HL8.out (by omega) (0 : Int))
                have e0 : (stepP p'.nt 2 (0 : Int) 0 ⟨#[]⟩).2 = 0 := (HW8.out.come (i := 0) HD.out HL8.out.inv.inv).1
                rw [e0] at DL
                clear e0
                go_wp2_with fail
                refine DL.out.mono ?_; rintro e w19 ⟨u9, rfl, hu9, hl9⟩
                obtain rfl := ErrAs.nil hu9 rfl
                have HL9 := Lib.hid hl9
                clear hu9 hl9
                go_wp2_with fail
                go_roundg (kk - (i + 1))
                case rel => exact ⟨i + 1, by have := HLT.out; omega, rfl, rfl, _, by have h := (HW8.out.come (i := 0) HD.out HL8.out.inv.inv).2; rwa [show L - 1 = kk - (i + 1) by have := HLL.out; omega] at h, HL9.out⟩
                case measure => have := HLT.out; have := HLL.out; omega
            · have t4 : decide (0 < L) = false := decide_eq_false h0
              have t4' : decide ((0 : Int) < L) = false := decide_eq_false (by omega)
              obtain ⟨f1, f2, f3⟩ := (hw.pass (TL := allTo k)).2 (by omega)
              have F1 := Lib.hid f1; have F2 := Lib.hid f2; have F3 := Lib.hid f3
              clear hi hw hl hLL f1 f2 f3 h0
              go_wp2_with fail
              refine FY.out.mono ?_; rintro e w5 ⟨rfl, hb5⟩
              have HL6 := Lib.hid (HL5.out.below hb5)
              clear hb5
              have RO := Lib.hid (around HL6.out 0 HW.out.rd)
              go_wp2_with fail
              refine RO.out.mono ?_; rintro e w6 ⟨rfl, hw6⟩
              obtain rfl := hw6.symm
              clear hw6
              have PA := Lib.hid (apass HL6.out (by omega) (by rw [HW.out.rd]; decide))
              rw [F1.out, F2.out, F3.out] at PA
              go_wp2_with fail
              refine PA.out.mono ?_; rintro e w7 ⟨u7, rfl, hu7, hl7⟩
              obtain rfl := hu7.nil
              have HL7 := Lib.hid hl7
              clear hu7 hl7
              have RP := Lib.hid (around HL7.out 1 (by show p'.rd + 1 = 1; rw [HW.out.rd]))
              go_wp2_with fail
              refine RP.out.mono ?_; rintro e w8 ⟨rfl, hw8⟩
              obtain rfl := hw8.symm
              clear hw8
              have WD := Lib.hid (aworked HL7.out 0 false (by split <;> first | exact rep_getD | rfl))
              go_wp2_with fail
              refine WD.out.mono ?_; rintro e w9 ⟨rfl, hb9⟩
              have HL8 := Lib.hid (HL7.out.below hb9)
              clear hb9
              go_wp2_with fail
              go_ret
              exact ⟨rfl, HBM.out.trans (HL8.out.bel.mono HBM.out.size)⟩
end Go.Proofs.YtlopoddllfkkfaaDoor
