/- BspInboxes: the law. Written by gen_boxes20.py. -/
import Derived.Test.YtlopoddllfkkfaaDoorBspY
namespace Go.Proofs.YtlopoddllfkkfaaDoor
open Go.RowKit

theorem lists_nil (w : World) : ListsV w (.slice none 0 0) [] := ⟨[], rfl, fun i u L hu _ => by simp at hu, Or.inl ⟨rfl, _, _, rfl⟩⟩
def ShortTo (X : List ByteArray) (i : Nat) : Prop := ∀ j, j < i → (X.getD j ⟨#[]⟩).size ≤ 40
/-- The machine that sends nothing, after some rounds. -/
def Solo (p0 : MP) (ba m i : Nat) (w2 wr : World) : Prop := ∃ R, LawM [] p0 (.slice none 0 0) ba 0 m R (iterR [] i p0) wr ∧ Below ba w2 wr
/-- What New leaves. -/
def NewSolo (p0 : MP) (w : World) (e : Ending) (w' : World) : Prop := ∃ m R, e = .returned (.tuple #[.pointer (some ⟨m, 0, none⟩), .nilIface]) ∧ LawM [] p0 (.slice none 0 0) w.heap.size 0 m R p0 w' ∧ Below w.heap.size w w'
theorem new_solo (X : List ByteArray) (v : Value) (w : World) (hv : ValsV w v (txtC X)) (h1 : 1 ≤ X.length) (h2 : X.length ≤ 8) (s1 : ∀ a, (X.getD a ⟨#[]⟩).size ≤ 60) :
    Calls Tryd.prog 10 #[.iface 35 (.agg #[.slice none 0 0]), v] w (NewSolo (startP X.length 0 X (List.replicate X.length [])) w) := by
  refine (lnew (TL := []) (vt := .slice none 0 0) X v w hv h1 h2 (fun a => by simp) (fun a t ht => by simp at ht) s1).mono ?_
  rintro e w' ⟨m, R, h1, h2, _, h4⟩
  exact ⟨m, R, h1, h2, h4⟩
theorem round_solo {p0 : MP} {ba m i : Nat} {w2 wr : World} (h : Solo p0 ba m i w2 wr) (hp : p0.rd = 0) (hb : ba ≤ w2.heap.size) (hi : i ≤ 5) :
    Calls Tryd.prog 18 #[.pointer (some ⟨m, 0, none⟩)] wr fun e w' => e = .returned .nilIface ∧ Solo p0 ba m (i + 1) w2 w' := by
  obtain ⟨R, h1, h2⟩ := h
  refine (lfinish h1 (Nat.le_trans hb h2.size) (by omega) (by rw [(iterR_rd [] p0 i).1, hp]; omega) (fun W _ => lists_nil W)).mono ?_
  rintro e w' ⟨rfl, R', k1, _, _, k4⟩
  exact ⟨rfl, R', k1, h2.trans k4⟩
set_option maxRecDepth 100000 in
set_option maxHeartbeats 8000000 in
theorem boxes_law (X : List ByteArray) (rn : Nat) (hrn : rn < 256) (a : Int) (vx : Value) (w : World) (hg : ErrT w) (hx : ValsV w vx (txtC X)) :
    Calls Tryd.prog 6 #[vx, .int .u8 (rn : Int), .int .i64 a] w fun e w' => e = .returned (.bool true) ∧ Below w.heap.size w w' := by
  have AL := Lib.hid (alive20 w hg)
  have HX := Lib.hid (fun W (h : Below w.heap.size w W) => hx.below h (Nat.le_refl _))
  have HGE := Lib.hid hg
  obtain ⟨Ax, cx, rfl⟩ := txt_form hx
  obtain ⟨n, hn⟩ : ∃ n, X.length = n := ⟨_, rfl⟩
  rw [hn] at HX ⊢
  have HN := Lib.hid hn
  have z0 : Int.tmod (rn : Int) 6 = ((rn % 6 : Nat) : Int) := by rw [Int.tmod_eq_emod_of_nonneg (by omega)]; omega
  obtain ⟨z, hz⟩ : ∃ z, rn % 6 = z := ⟨_, rfl⟩
  have z5 : z ≤ 5 := by omega
  rw [hz] at z0
  have zc : IntKind.i64.wrap (rn : Int) = (rn : Int) := by rw [IntKind.wrap_i64]; omega
  clear hg hx hn hz hrn
  by_cases h1 : n < 1
  · have t1 : decide (n < 1) = true := decide_eq_true h1
    have t1' : decide ((n : Int) < 1) = true := decide_eq_true (by omega)
    clear h1
    go_enter Tryd.func6, Tryd.ntmps6
    go_wp2_with fail
    refine AL.out.mono ?_; rintro e w1 ⟨rfl, hb1⟩
    go_wp2_with fail
    go_ret
    exact ⟨rfl, hb1⟩
  have t1 : decide (n < 1) = false := decide_eq_false h1
  have t1' : decide ((n : Int) < 1) = false := decide_eq_false (by omega)
  by_cases h2 : 8 < n
  · have t2 : decide (8 < n) = true := decide_eq_true h2
    have t2' : decide ((8 : Int) < n) = true := decide_eq_true (by omega)
    clear h1 h2
    go_enter Tryd.func6, Tryd.ntmps6
    go_wp2_with fail
    refine AL.out.mono ?_; rintro e w1 ⟨rfl, hb1⟩
    go_wp2_with fail
    go_ret
    exact ⟨rfl, hb1⟩
  have t2 : decide (8 < n) = false := decide_eq_false h2
  have t2' : decide ((8 : Int) < n) = false := decide_eq_false (by omega)
  go_enter Tryd.func6, Tryd.ntmps6
  go_wp2_with fail
  refine AL.out.mono ?_; rintro e w1 ⟨rfl, hb1⟩
  have HB1 := Lib.hid hb1
  clear hb1
  go_wp2_with fail
  clear t1 t1' t2 t2'
  go_loopg [7] n (fun g y wr => ∃ i, i ≤ n ∧ g = n - i ∧ y = .int .i64 (i : Nat) ∧ ShortTo X i ∧ w1 = wr)
  case atStart => exact ⟨0, Nat.zero_le _, rfl, rfl, fun j hj => absurd hj (Nat.not_lt_zero _), rfl⟩
  case round =>
    obtain ⟨i, hi, rfl, rfl, hsh, rfl⟩ := hrel
    by_cases hlt : i < n
    · obtain ⟨b, off, rfl, hqc1, c1⟩ := txt_pos (HX.out w1 HB1.out) (i := i) (by rw [HN.out]; exact hlt)
      clear hqc1
      obtain ⟨y, hy⟩ : ∃ y, X.getD i ⟨#[]⟩ = y := ⟨_, rfl⟩
      rw [hy] at c1
      have t7 : decide (i < n) = true := decide_eq_true hlt
      have t7' : decide ((i : Int) < n) = true := decide_eq_true (by omega)
      have i1 : (i : Int) < n := by omega
      have HLT := Lib.hid hlt
      have HSH := Lib.hid hsh
      have HY := Lib.hid hy
      by_cases h40 : 40 < y.size
      · have t8 : decide (40 < y.size) = true := decide_eq_true h40
        have t8' : decide ((40 : Int) < (y.size : Int)) = true := decide_eq_true (by omega)
        clear hlt hsh hy h40 hi
        go_wp2_with fail
        go_ret
        exact ⟨rfl, HB1.out⟩
      · have t8 : decide (40 < y.size) = false := decide_eq_false h40
        have t8' : decide ((40 : Int) < (y.size : Int)) = false := decide_eq_false (by omega)
        have H40 := Lib.hid h40
        clear hlt hsh hy h40 hi
        go_wp2_with fail
        go_roundg (n - (i + 1))
        case rel =>
          refine ⟨i + 1, HLT.out, rfl, rfl, fun j hj => ?_, rfl⟩
          by_cases hji : j = i
          · rw [hji, HY.out]
            have := H40.out
            omega
          · exact HSH.out j (by omega)
        case measure => have := HLT.out; omega
    · have t7 : decide (i < n) = false := decide_eq_false hlt
      have t7' : decide ((i : Int) < n) = false := decide_eq_false (by omega)
      obtain rfl : n = i := by omega
      have hs40 : ∀ a, (X.getD a ⟨#[]⟩).size ≤ 40 := fun a => by
        by_cases ha : a < n
        · exact hsh a ha
        · simp only [List.getD]; rw [List.getElem?_eq_none (by rw [HN.out]; omega)]; exact Nat.zero_le _
      have NW := Lib.hid (new_solo X _ w1 (HX.out w1 HB1.out) (by rw [HN.out]; omega) (by rw [HN.out]; omega) (fun a => Nat.le_trans (hs40 a) (by decide)))
      have SI := Lib.hid (solo_iter X hs40)
      have HS40 := Lib.hid hs40
      obtain ⟨p0, hp0⟩ : ∃ p, startP X.length 0 X (List.replicate X.length []) = p := ⟨_, rfl⟩
      rw [hp0] at NW SI
      have HP0 : Hid (p0.rd = 0 ∧ p0.k = n) := Lib.hid (by rw [← hp0]; exact ⟨rfl, HN.out⟩)
      have H12 : Hid (1 ≤ n ∧ n ≤ 8) := Lib.hid ⟨by omega, by omega⟩
      clear hlt hsh hi h1 h2 hp0 hs40
      go_wp2_with fail
      refine NW.out.mono ?_; rintro e w3 ⟨m, R, rfl, hm, hb3⟩
      have HB3 := Lib.hid hb3
      have HS3 : Hid (Solo p0 w1.heap.size m 0 w3 w3) := Lib.hid ⟨R, hm, Below.refl _ _⟩
      clear hm hb3
      go_wp2_with fail
      clear t7 t7'
      go_loopg [11] z (fun g y wr => ∃ i, i ≤ z ∧ g = z - i ∧ y = .int .i64 (i : Nat) ∧ Solo p0 w1.heap.size m i w3 wr)
      case atStart => exact ⟨0, Nat.zero_le _, rfl, rfl, HS3.out⟩
      case round =>
        obtain ⟨i, hi, rfl, rfl, hso⟩ := hrel
        have HSO := Lib.hid hso
        by_cases hlt : i < z
        · have t9 : decide (i < z) = true := decide_eq_true hlt
          have t9' : decide ((i : Int) < z) = true := decide_eq_true (by omega)
          have i1 : (i : Int) < z := by omega
          have HLT := Lib.hid hlt
          have FN := Lib.hid (round_solo hso HP0.out.1 HB3.out.size (by omega))
          clear hlt hso hi
          go_wp2_with fail
          refine FN.out.mono ?_; rintro e w7 ⟨rfl, ha⟩
          have HA := Lib.hid ha
          clear ha
          go_wp2_with fail
          go_roundg (z - (i + 1))
          case rel => exact ⟨i + 1, HLT.out, rfl, rfl, HA.out⟩
          case measure => have := HLT.out; omega
        · have t9 : decide (i < z) = false := decide_eq_false hlt
          have t9' : decide ((i : Int) < z) = false := decide_eq_false (by omega)
          obtain rfl : z = i := by omega
          obtain ⟨w8, hw8⟩ : ∃ W, W = wr := ⟨_, rfl⟩
          subst hw8
          obtain ⟨R8, hx8, hb8⟩ := hso
          have HM8 := Lib.hid hx8; have HB8 := Lib.hid hb8
          obtain ⟨st, bx, hit, hsl, hst, hbx⟩ := SI.out z z5
          have SA := Lib.hid (lstates hx8)
          rw [hit, show (startP X.length z st bx).k = X.length from rfl, show (startP X.length z st bx).st = st from rfl, HN.out] at SA
          have HIT := Lib.hid hit; have HST := Lib.hid hst; have HSL := Lib.hid hsl
          clear hlt hx8 hb8 hit hsl hst hbx hi
          go_wp2_with fail
          refine SA.out.mono ?_; rintro e w9 ⟨Aa, ca, rfl, hva, hoa, hb9⟩
          have HVA := Lib.hid hva; have HB9 := Lib.hid hb9
          have HL9 : Hid (LawS p0 w1.heap.size 0 m (startP X.length z st bx) (.slice Aa n ca) st w3 w9) := Lib.hid ⟨R8, by have h := HM8.out.below hb9; rwa [HIT.out] at h, hva, fun g hg => ⟨(own_lies hoa hg).2, fun hr => by have h1 := (HM8.out.1.foot hr).2; have h2 := (own_lies hoa hg).1; omega⟩, HB8.out.trans (hb9.mono (HB3.out.trans HB8.out).size)⟩
          rw [HN.out] at HL9
          clear hva hoa hb9
          go_wp2_with fail
          clear t9 t9'
          have BW9 : Hid (Below w.heap.size w w9) := Lib.hid (HB1.out.trans (((HB3.out.trans HB8.out).trans (HB9.out.mono (HB3.out.trans HB8.out).size)).mono HB1.out.size))
          have HZ5 := Lib.hid z5
          go_loopg [13] n (fun g y wr => ∃ i, i ≤ n ∧ g = n - i ∧ y = .int .i64 (i : Nat) ∧ Below w9.heap.size w9 wr)
          case atStart => exact ⟨0, Nat.zero_le _, rfl, rfl, Below.refl _ _⟩
          case round =>
            obtain ⟨i, hi, rfl, rfl, hbr⟩ := hrel
            obtain ⟨w10, hw10⟩ : ∃ W, W = wr := ⟨_, rfl⟩
            subst hw10
            have HBR := Lib.hid hbr
            by_cases hlt : i < n
            · obtain ⟨b, off, rfl, hqc1, c1⟩ := txt_pos (HX.out w10 (BW9.out.trans (hbr.mono BW9.out.size))) (i := i) (by rw [HN.out]; exact hlt)
              clear hqc1
              obtain ⟨y, hy⟩ : ∃ y, X.getD i ⟨#[]⟩ = y := ⟨_, rfl⟩
              rw [hy] at c1
              have t7 : decide (i < n) = true := decide_eq_true hlt
              have t7' : decide ((i : Int) < n) = true := decide_eq_true (by omega)
              have i1 : (i : Int) < n := by omega
              have HLT := Lib.hid hlt
              have HY := Lib.hid hy
              have LT := Lib.hid (fun W => letter_any i W)
              have HYS : Hid (y.size ≤ 40) := Lib.hid (by rw [← hy]; exact HS40.out i)
              have n8 : n ≤ 8 := H12.out.2
              clear hlt hy hi hbr
              go_wp2_with fail
              go_loopg [14, 15] z (fun g wv rv wr => ∃ r, r ≤ z ∧ g = z - r ∧ rv = .int .i64 (r : Nat) ∧ wv = .string (pwB y i r) ∧ Below w9.heap.size w9 wr)
              case atStart => exact ⟨0, Nat.zero_le _, rfl, rfl, rfl, HBR.out⟩
              case round =>
                obtain ⟨r, hr, rfl, rfl, rfl, hb2⟩ := hrel
                have HB2 := Lib.hid hb2
                by_cases hlr : r < z
                · have t9 : decide (r < z) = true := decide_eq_true hlr
                  have t9' : decide ((r : Int) < z) = true := decide_eq_true (by omega)
                  have r1 : (r : Int) < z := by omega
                  have HLR := Lib.hid hlr
                  have LR := Lib.hid (LT.out wr)
                  obtain ⟨u, hu⟩ : ∃ u, pwB y i r = u := ⟨_, rfl⟩
                  have HU := Lib.hid hu
                  rw [hu]
                  have n1 : ¬ 9223372036854775807 < u.size + (letterB i).size := by
                    have e1 := pwB_size y i r
                    have e2 : (letterB i).size = 1 := rfl
                    have e3 := HYS.out
                    rw [hu] at e1
                    have e4 := HZ5.out
                    omega
                  clear hlr hr hb2 hu
                  go_wp2_with fail
                  refine LR.out.mono ?_; rintro e w11 ⟨rfl, hb11⟩
                  have HB11 := Lib.hid hb11
                  clear hb11
                  go_wp2_with fail
                  go_roundg (z - (r + 1))
                  case rel => exact ⟨r + 1, HLR.out, rfl, rfl, by rw [← HU.out]; rfl, HB2.out.trans (HB11.out.mono HB2.out.size)⟩
                  case measure => have := HLR.out; omega
                · have t9 : decide (r < z) = false := decide_eq_false hlr
                  have t9' : decide ((r : Int) < z) = false := decide_eq_false (by omega)
                  obtain rfl : z = r := by omega
                  obtain ⟨b2, o2, rfl, hqc2, c2⟩ := txt_pos (HVA.out.below hb2 (Nat.le_refl _)) (i := i) (by rw [HSL.out, HN.out]; exact HLT.out)
                  clear hqc2
                  rw [HST.out i (by rw [HN.out]; exact HLT.out), HY.out] at c2
                  obtain ⟨u, hu⟩ : ∃ u, pwB y i z = u := ⟨_, rfl⟩
                  rw [hu] at c2 ⊢
                  clear hlr hr hb2 hu
                  go_wp2_with fail
                  go_roundg (n - (i + 1))
                  case rel => exact ⟨i + 1, HLT.out, rfl, rfl, HB2.out⟩
                  case measure => have := HLT.out; omega
            · have t7 : decide (i < n) = false := decide_eq_false hlt
              have t7' : decide ((i : Int) < n) = false := decide_eq_false (by omega)
              obtain rfl : n = i := by omega
              have HL10 := Lib.hid (HL9.out.below hbr (Nat.le_trans (HB3.out.trans HB8.out).size HB9.out.size))
              have BW11 : ∀ {q : Nat} {p : MP} (W : World), LawS p0 w1.heap.size q m p (.slice Aa n ca) st w3 W → Below w.heap.size w W := fun W hl => by
                obtain ⟨_, _, _, _, h4⟩ := hl
                exact HB1.out.trans ((HB3.out.trans h4).mono HB1.out.size)
              clear hlt hi hbr t7 t7'
              by_cases hin : 0 ≤ a ∧ a < n
              · obtain ⟨d, rfl⟩ : ∃ d : Nat, a = d := ⟨a.toNat, by omega⟩
                obtain ⟨f1, f2, f3, f4⟩ := twice_in n z st bx d (by omega)
                have s1 : decide ((0 : Int) ≤ d) = true := decide_eq_true (by omega)
                have s2 : decide ((d : Int) < n) = true := decide_eq_true (by omega)
                have s2' : decide (d < n) = true := decide_eq_true (by omega)
                have F1 := Lib.hid f1; have F2 := Lib.hid f2; have F3 := Lib.hid f3; have F4 := Lib.hid f4
                clear f1 f2 f3 f4 hin
                have K1 := Lib.hid (work_solo HL10.out HB3.out.size (by decide) (d : Int))
                rw [F1.out] at K1
                go_wp2_with fail
                refine K1.out.mono ?_; rintro e w11 ⟨u1, rfl, hu1, hl1⟩
                have HL11 := Lib.hid hl1
                have HG11 : Hid (ErrT w11) := Lib.hid (HGE.out.below (BW11 w11 hl1) (Nat.le_refl _))
                have CD := Lib.hid (code_as hu1 HG11.out)
                clear hu1 hl1
                go_wp2_with fail
                refine CD.out.mono ?_; rintro e w12 ⟨rfl, hb12⟩
                have HL12 := Lib.hid (HL11.out.below hb12 (LawS.low HL11.out HB3.out.size))
                clear hb12
                have K2 := Lib.hid (work_solo HL12.out HB3.out.size (by decide) (d : Int))
                rw [F2.out, F3.out] at K2
                go_wp2_with fail
                refine K2.out.mono ?_; rintro e w13 ⟨u2, rfl, hu2, hl2⟩
                have HL13 := Lib.hid hl2
                have HG13 : Hid (ErrT w13) := Lib.hid (HGE.out.below (BW11 w13 hl2) (Nat.le_refl _))
                have CD2 := Lib.hid (code_as hu2 HG13.out)
                clear hu2 hl2
                go_wp2_with fail
                refine CD2.out.mono ?_; rintro e w14 ⟨rfl, hb14⟩
                have HL14 := Lib.hid (HL13.out.below hb14 (LawS.low HL13.out HB3.out.size))
                clear hb14
                go_wp2_with fail
                have SB := Lib.hid (states_solo (n := n) HL14.out rfl rfl)
                go_wp2_with fail
                refine SB.out.mono ?_; rintro e w15 ⟨Ab, cb, rfl, hob, hb15⟩
                obtain ⟨gt, cs, rfl, hgt, hwh, hsz, hcs⟩ := own_open hob H12.out.1
                have HGT := Lib.hid hgt
                have HM15 : Hid (MineAt st n gt 0 w15) := Lib.hid ⟨cs, hwh, hsz, fun j _ hj => hcs j hj⟩
                have HL15 := Lib.hid (HL14.out.below hb15 (LawS.low HL14.out HB3.out.size))
                have HB15 := Lib.hid hb15
                clear hob hb15 hgt hwh hsz hcs
                have WD := Lib.hid (worked_solo HL15.out (d : Int) true (by rw [if_pos (show 0 ≤ (d : Int) ∧ (d : Int) < (workP (startP n z st bx) d []).k from ⟨of_decide_eq_true s1, of_decide_eq_true s2⟩)]; exact F4.out))
                go_wp2_with fail
                refine WD.out.mono ?_; rintro e w16 ⟨rfl, hb16⟩
                have HL16 := Lib.hid (HL15.out.below hb16 (LawS.low HL15.out HB3.out.size))
                have HB16 := Lib.hid (HB15.out.trans (hb16.mono HB15.out.size))
                have HM16 := Lib.hid (HM15.out.below hb16)
                clear hb16
                have FL := Lib.hid (flying_solo HL16.out (by decide) rfl)
                go_wp2_with fail
                refine FL.out.mono ?_; rintro e w17 ⟨rfl, hb17⟩
                have HL17 := Lib.hid (HL16.out.below hb17 (LawS.low HL16.out HB3.out.size))
                have HB17 := Lib.hid (HB16.out.trans (hb17.mono HB16.out.size))
                have HM17 := Lib.hid (HM16.out.below hb17)
                clear hb17
                go_wp2_with fail
                clear HM15 HM16 HL15 HL16 HL12 HL11 HL13 HB15 HB16
                go_loopg [20] n (fun g y wr => ∃ i, i ≤ n ∧ g = n - i ∧ y = .int .i64 (i : Nat) ∧ MineAt st n gt i wr ∧ Below w14.heap.size w14 wr)
                case atStart => exact ⟨0, Nat.zero_le _, rfl, rfl, HM17.out, HB17.out⟩
                case round =>
                  obtain ⟨i, hi, rfl, rfl, hmi, hbr⟩ := hrel
                  have HMI := Lib.hid hmi; have HBR2 := Lib.hid hbr
                  have hl := HL14.out.below hbr (LawS.low HL14.out HB3.out.size)
                  have HL18 := Lib.hid hl
                  obtain ⟨R9, _, hv, _, _⟩ := hl
                  by_cases hlt : i < n
                  · obtain ⟨b2, o2, rfl, hq2, c2⟩ := txt_pos hv (i := i) (by rw [HSL.out, HN.out]; exact hlt)
                    clear hq2
                    have c3 := hmi.cell hlt
                    obtain ⟨u, hu⟩ : ∃ u, st.getD i ⟨#[]⟩ = u := ⟨_, rfl⟩
                    rw [hu] at c2 c3
                    have e7 : decide (i < n) = true := decide_eq_true hlt
                    have e7' : decide ((i : Int) < n) = true := decide_eq_true (by omega)
                    have i1 : (i : Int) < n := by omega
                    have i2 : (0 : Int) ≤ i := by omega
                    have n8 : n ≤ 8 := H12.out.2
                    have HLT := Lib.hid hlt
                    clear hlt hi hbr hmi hv hu
                    go_upto_region 39 with fail
                    go_quiet (fail)
                    go_upto_region 41 with fail
                    generalize hwz : World.drewN wr _ = wz
                    have c4 : wz.cell? ⟨gt, i, none⟩ = some (.string u) := by rw [← hwz]; exact c3
                    have HMZ : Hid (MineAt st n gt i wz) := Lib.hid (by rw [← hwz]; exact HMI.out)
                    have HBZ : Hid (Below w14.heap.size w14 wz) := Lib.hid (by rw [← hwz]; exact below_drewN' HBR2.out _)
                    have c5 := HMZ.out.free
                    clear hwz c2 c3
                    go_wp2_with fail
                    go_roundg (n - (i + 1))
                    case rel => exact ⟨i + 1, HLT.out, rfl, rfl, MineAt.step HMZ.out _, HBZ.out.setCell HGT.out _⟩
                    case measure => have := HLT.out; omega
                  · have e7 : decide (i < n) = false := decide_eq_false hlt
                    have e7' : decide ((i : Int) < n) = false := decide_eq_false (by omega)
                    obtain rfl : n = i := by omega
                    obtain ⟨b2, o2, rfl, hq2, c2⟩ := txt_pos hv (i := 0) (by rw [HSL.out, HN.out]; exact H12.out.1)
                    clear hq2
                    obtain ⟨u, hu⟩ : ∃ u, st.getD 0 ⟨#[]⟩ = u := ⟨_, rfl⟩
                    rw [hu] at c2
                    replace c2 : wr.cell? ⟨b2, o2, none⟩ = some (.string u) := c2
                    have SC := Lib.hid (fun W (hW : Below wr.heap.size wr W) => states_first (n := n) HL18.out hW HB3.out.size rfl rfl H12.out.1 hu)
                    have RC := Lib.hid (fun W (hW : Below wr.heap.size wr W) => roundN_solo (z := z) (HL18.out.below hW (LawS.low HL18.out HB3.out.size)) rfl)
                    have KS := Lib.hid (fun W (hW : Below wr.heap.size wr W) => (hW.cell (p := ⟨b2, o2, none⟩) (World.block_lt_of_cell? _ _ c2)).trans c2)
                    have i1 : (0 : Int) < n := by have := H12.out.1; omega
                    have i2 : 0 < n := H12.out.1
                    have SC2 := Lib.hid (fun W (hW : Below wr.heap.size wr W) => (SC.out W hW).mono fun e w' ⟨g, cap, h1, h2, h3⟩ => (show ∃ g cap, e = Ending.returned (Value.slice (some ⟨g, 0, none⟩) n cap) ∧ w'.cell? ⟨g, 0, none⟩ = some (Value.string u) ∧ w'.cell? ⟨b2, o2, none⟩ = some (Value.string u) ∧ Below wr.heap.size wr w' from ⟨g, cap, h1, h2, KS.out w' h3, h3⟩))
                    clear hlt hi hbr hmi hv hu
                    go_upto_region 42 with fail
                    go_region_with (first | (go_at_call 20; refine (SC2.out _ (by first | assumption | exact Below.refl _ _ | exact below_drewN' (Below.refl _ _) _)).mono ?_; rintro e' w19 ⟨g19, cap19, rfl, hc19, hd19, hb19⟩) | (go_at_call 22; refine (RC.out _ (by first | assumption | exact Below.refl _ _ | exact below_drewN' (Below.refl _ _) _)).mono ?_; rintro e' w20 ⟨rfl, rfl⟩))
                    all_goals (go_wp2_with fail; go_ret; exact ⟨rfl, (BW11 wr HL18.out).trans (hb19.mono (BW11 wr HL18.out).size)⟩)
              · obtain ⟨f1, f2⟩ := twice_out n z st bx a hin
                have F1 := Lib.hid f1; have F2 := Lib.hid f2
                clear f1 f2
                by_cases ha0 : 0 ≤ a
                · have s1 : decide ((0 : Int) ≤ a) = true := decide_eq_true ha0
                  have s2 : decide (a < n) = false := decide_eq_false (fun h => hin ⟨ha0, h⟩)
                  clear ha0 hin
                  have K1 := Lib.hid (work_solo HL10.out HB3.out.size (by decide) a)
                  rw [F1.out, F2.out] at K1
                  go_wp2_with fail
                  refine K1.out.mono ?_; rintro e w11 ⟨u1, rfl, hu1, hl1⟩
                  have HL11 := Lib.hid hl1
                  have HG11 : Hid (ErrT w11) := Lib.hid (HGE.out.below (BW11 w11 hl1) (Nat.le_refl _))
                  have CD := Lib.hid (code_as hu1 HG11.out)
                  clear hu1 hl1
                  go_wp2_with fail
                  refine CD.out.mono ?_; rintro e w12 ⟨rfl, hb12⟩
                  have HL12 := Lib.hid (HL11.out.below hb12 (LawS.low HL11.out HB3.out.size))
                  clear hb12
                  have K2 := Lib.hid (work_solo HL12.out HB3.out.size (by decide) a)
                  rw [F1.out, F2.out] at K2
                  go_wp2_with fail
                  refine K2.out.mono ?_; rintro e w13 ⟨u2, rfl, hu2, hl2⟩
                  have HL13 := Lib.hid hl2
                  have HG13 : Hid (ErrT w13) := Lib.hid (HGE.out.below (BW11 w13 hl2) (Nat.le_refl _))
                  have CD2 := Lib.hid (code_as hu2 HG13.out)
                  clear hu2 hl2
                  go_wp2_with fail
                  refine CD2.out.mono ?_; rintro e w14 ⟨rfl, hb14⟩
                  have HL14 := Lib.hid (HL13.out.below hb14 (LawS.low HL13.out HB3.out.size))
                  clear hb14
                  go_wp2_with fail
                  have SB := Lib.hid (states_solo (n := n) HL14.out rfl rfl)
                  go_wp2_with fail
                  refine SB.out.mono ?_; rintro e w15 ⟨Ab, cb, rfl, hob, hb15⟩
                  obtain ⟨gt, cs, rfl, hgt, hwh, hsz, hcs⟩ := own_open hob H12.out.1
                  have HGT := Lib.hid hgt
                  have HM15 : Hid (MineAt st n gt 0 w15) := Lib.hid ⟨cs, hwh, hsz, fun j _ hj => hcs j hj⟩
                  have HL15 := Lib.hid (HL14.out.below hb15 (LawS.low HL14.out HB3.out.size))
                  have HB15 := Lib.hid hb15
                  clear hob hb15 hgt hwh hsz hcs
                  have WD := Lib.hid (worked_solo HL15.out a false (if_neg (fun h => of_decide_eq_false s2 h.2)))
                  go_wp2_with fail
                  refine WD.out.mono ?_; rintro e w16 ⟨rfl, hb16⟩
                  have HL16 := Lib.hid (HL15.out.below hb16 (LawS.low HL15.out HB3.out.size))
                  have HB16 := Lib.hid (HB15.out.trans (hb16.mono HB15.out.size))
                  have HM16 := Lib.hid (HM15.out.below hb16)
                  clear hb16
                  have FL := Lib.hid (flying_solo HL16.out (by decide) rfl)
                  go_wp2_with fail
                  refine FL.out.mono ?_; rintro e w17 ⟨rfl, hb17⟩
                  have HL17 := Lib.hid (HL16.out.below hb17 (LawS.low HL16.out HB3.out.size))
                  have HB17 := Lib.hid (HB16.out.trans (hb17.mono HB16.out.size))
                  have HM17 := Lib.hid (HM16.out.below hb17)
                  clear hb17
                  go_wp2_with fail
                  clear HM15 HM16 HL15 HL16 HL12 HL11 HL13 HB15 HB16
                  go_loopg [20] n (fun g y wr => ∃ i, i ≤ n ∧ g = n - i ∧ y = .int .i64 (i : Nat) ∧ MineAt st n gt i wr ∧ Below w14.heap.size w14 wr)
                  case atStart => exact ⟨0, Nat.zero_le _, rfl, rfl, HM17.out, HB17.out⟩
                  case round =>
                    obtain ⟨i, hi, rfl, rfl, hmi, hbr⟩ := hrel
                    have HMI := Lib.hid hmi; have HBR2 := Lib.hid hbr
                    have hl := HL14.out.below hbr (LawS.low HL14.out HB3.out.size)
                    have HL18 := Lib.hid hl
                    obtain ⟨R9, _, hv, _, _⟩ := hl
                    by_cases hlt : i < n
                    · obtain ⟨b2, o2, rfl, hq2, c2⟩ := txt_pos hv (i := i) (by rw [HSL.out, HN.out]; exact hlt)
                      clear hq2
                      have c3 := hmi.cell hlt
                      obtain ⟨u, hu⟩ : ∃ u, st.getD i ⟨#[]⟩ = u := ⟨_, rfl⟩
                      rw [hu] at c2 c3
                      have e7 : decide (i < n) = true := decide_eq_true hlt
                      have e7' : decide ((i : Int) < n) = true := decide_eq_true (by omega)
                      have i1 : (i : Int) < n := by omega
                      have i2 : (0 : Int) ≤ i := by omega
                      have n8 : n ≤ 8 := H12.out.2
                      have HLT := Lib.hid hlt
                      clear hlt hi hbr hmi hv hu
                      go_upto_region 39 with fail
                      go_quiet (fail)
                      go_upto_region 41 with fail
                      generalize hwz : World.drewN wr _ = wz
                      have c4 : wz.cell? ⟨gt, i, none⟩ = some (.string u) := by rw [← hwz]; exact c3
                      have HMZ : Hid (MineAt st n gt i wz) := Lib.hid (by rw [← hwz]; exact HMI.out)
                      have HBZ : Hid (Below w14.heap.size w14 wz) := Lib.hid (by rw [← hwz]; exact below_drewN' HBR2.out _)
                      have c5 := HMZ.out.free
                      clear hwz c2 c3
                      go_wp2_with fail
                      go_roundg (n - (i + 1))
                      case rel => exact ⟨i + 1, HLT.out, rfl, rfl, MineAt.step HMZ.out _, HBZ.out.setCell HGT.out _⟩
                      case measure => have := HLT.out; omega
                    · have e7 : decide (i < n) = false := decide_eq_false hlt
                      have e7' : decide ((i : Int) < n) = false := decide_eq_false (by omega)
                      obtain rfl : n = i := by omega
                      obtain ⟨b2, o2, rfl, hq2, c2⟩ := txt_pos hv (i := 0) (by rw [HSL.out, HN.out]; exact H12.out.1)
                      clear hq2
                      obtain ⟨u, hu⟩ : ∃ u, st.getD 0 ⟨#[]⟩ = u := ⟨_, rfl⟩
                      rw [hu] at c2
                      replace c2 : wr.cell? ⟨b2, o2, none⟩ = some (.string u) := c2
                      have SC := Lib.hid (fun W (hW : Below wr.heap.size wr W) => states_first (n := n) HL18.out hW HB3.out.size rfl rfl H12.out.1 hu)
                      have RC := Lib.hid (fun W (hW : Below wr.heap.size wr W) => roundN_solo (z := z) (HL18.out.below hW (LawS.low HL18.out HB3.out.size)) rfl)
                      have KS := Lib.hid (fun W (hW : Below wr.heap.size wr W) => (hW.cell (p := ⟨b2, o2, none⟩) (World.block_lt_of_cell? _ _ c2)).trans c2)
                      have i1 : (0 : Int) < n := by have := H12.out.1; omega
                      have i2 : 0 < n := H12.out.1
                      have SC2 := Lib.hid (fun W (hW : Below wr.heap.size wr W) => (SC.out W hW).mono fun e w' ⟨g, cap, h1, h2, h3⟩ => (show ∃ g cap, e = Ending.returned (Value.slice (some ⟨g, 0, none⟩) n cap) ∧ w'.cell? ⟨g, 0, none⟩ = some (Value.string u) ∧ w'.cell? ⟨b2, o2, none⟩ = some (Value.string u) ∧ Below wr.heap.size wr w' from ⟨g, cap, h1, h2, KS.out w' h3, h3⟩))
                      clear hlt hi hbr hmi hv hu
                      go_upto_region 42 with fail
                      go_region_with (first | (go_at_call 20; refine (SC2.out _ (by first | assumption | exact Below.refl _ _ | exact below_drewN' (Below.refl _ _) _)).mono ?_; rintro e' w19 ⟨g19, cap19, rfl, hc19, hd19, hb19⟩) | (go_at_call 22; refine (RC.out _ (by first | assumption | exact Below.refl _ _ | exact below_drewN' (Below.refl _ _) _)).mono ?_; rintro e' w20 ⟨rfl, rfl⟩))
                      all_goals (go_wp2_with fail; go_ret; exact ⟨rfl, (BW11 wr HL18.out).trans (hb19.mono (BW11 wr HL18.out).size)⟩)
                · have s1 : decide ((0 : Int) ≤ a) = false := decide_eq_false ha0
                  clear ha0 hin
                  have K1 := Lib.hid (work_solo HL10.out HB3.out.size (by decide) a)
                  rw [F1.out, F2.out] at K1
                  go_wp2_with fail
                  refine K1.out.mono ?_; rintro e w11 ⟨u1, rfl, hu1, hl1⟩
                  have HL11 := Lib.hid hl1
                  have HG11 : Hid (ErrT w11) := Lib.hid (HGE.out.below (BW11 w11 hl1) (Nat.le_refl _))
                  have CD := Lib.hid (code_as hu1 HG11.out)
                  clear hu1 hl1
                  go_wp2_with fail
                  refine CD.out.mono ?_; rintro e w12 ⟨rfl, hb12⟩
                  have HL12 := Lib.hid (HL11.out.below hb12 (LawS.low HL11.out HB3.out.size))
                  clear hb12
                  have K2 := Lib.hid (work_solo HL12.out HB3.out.size (by decide) a)
                  rw [F1.out, F2.out] at K2
                  go_wp2_with fail
                  refine K2.out.mono ?_; rintro e w13 ⟨u2, rfl, hu2, hl2⟩
                  have HL13 := Lib.hid hl2
                  have HG13 : Hid (ErrT w13) := Lib.hid (HGE.out.below (BW11 w13 hl2) (Nat.le_refl _))
                  have CD2 := Lib.hid (code_as hu2 HG13.out)
                  clear hu2 hl2
                  go_wp2_with fail
                  refine CD2.out.mono ?_; rintro e w14 ⟨rfl, hb14⟩
                  have HL14 := Lib.hid (HL13.out.below hb14 (LawS.low HL13.out HB3.out.size))
                  clear hb14
                  go_wp2_with fail
                  have SB := Lib.hid (states_solo (n := n) HL14.out rfl rfl)
                  go_wp2_with fail
                  refine SB.out.mono ?_; rintro e w15 ⟨Ab, cb, rfl, hob, hb15⟩
                  obtain ⟨gt, cs, rfl, hgt, hwh, hsz, hcs⟩ := own_open hob H12.out.1
                  have HGT := Lib.hid hgt
                  have HM15 : Hid (MineAt st n gt 0 w15) := Lib.hid ⟨cs, hwh, hsz, fun j _ hj => hcs j hj⟩
                  have HL15 := Lib.hid (HL14.out.below hb15 (LawS.low HL14.out HB3.out.size))
                  have HB15 := Lib.hid hb15
                  clear hob hb15 hgt hwh hsz hcs
                  have WD := Lib.hid (worked_solo HL15.out a false (if_neg (fun h => of_decide_eq_false s1 h.1)))
                  go_wp2_with fail
                  refine WD.out.mono ?_; rintro e w16 ⟨rfl, hb16⟩
                  have HL16 := Lib.hid (HL15.out.below hb16 (LawS.low HL15.out HB3.out.size))
                  have HB16 := Lib.hid (HB15.out.trans (hb16.mono HB15.out.size))
                  have HM16 := Lib.hid (HM15.out.below hb16)
                  clear hb16
                  have FL := Lib.hid (flying_solo HL16.out (by decide) rfl)
                  go_wp2_with fail
                  refine FL.out.mono ?_; rintro e w17 ⟨rfl, hb17⟩
                  have HL17 := Lib.hid (HL16.out.below hb17 (LawS.low HL16.out HB3.out.size))
                  have HB17 := Lib.hid (HB16.out.trans (hb17.mono HB16.out.size))
                  have HM17 := Lib.hid (HM16.out.below hb17)
                  clear hb17
                  go_wp2_with fail
                  clear HM15 HM16 HL15 HL16 HL12 HL11 HL13 HB15 HB16
                  go_loopg [20] n (fun g y wr => ∃ i, i ≤ n ∧ g = n - i ∧ y = .int .i64 (i : Nat) ∧ MineAt st n gt i wr ∧ Below w14.heap.size w14 wr)
                  case atStart => exact ⟨0, Nat.zero_le _, rfl, rfl, HM17.out, HB17.out⟩
                  case round =>
                    obtain ⟨i, hi, rfl, rfl, hmi, hbr⟩ := hrel
                    have HMI := Lib.hid hmi; have HBR2 := Lib.hid hbr
                    have hl := HL14.out.below hbr (LawS.low HL14.out HB3.out.size)
                    have HL18 := Lib.hid hl
                    obtain ⟨R9, _, hv, _, _⟩ := hl
                    by_cases hlt : i < n
                    · obtain ⟨b2, o2, rfl, hq2, c2⟩ := txt_pos hv (i := i) (by rw [HSL.out, HN.out]; exact hlt)
                      clear hq2
                      have c3 := hmi.cell hlt
                      obtain ⟨u, hu⟩ : ∃ u, st.getD i ⟨#[]⟩ = u := ⟨_, rfl⟩
                      rw [hu] at c2 c3
                      have e7 : decide (i < n) = true := decide_eq_true hlt
                      have e7' : decide ((i : Int) < n) = true := decide_eq_true (by omega)
                      have i1 : (i : Int) < n := by omega
                      have i2 : (0 : Int) ≤ i := by omega
                      have n8 : n ≤ 8 := H12.out.2
                      have HLT := Lib.hid hlt
                      clear hlt hi hbr hmi hv hu
                      go_upto_region 39 with fail
                      go_quiet (fail)
                      go_upto_region 41 with fail
                      generalize hwz : World.drewN wr _ = wz
                      have c4 : wz.cell? ⟨gt, i, none⟩ = some (.string u) := by rw [← hwz]; exact c3
                      have HMZ : Hid (MineAt st n gt i wz) := Lib.hid (by rw [← hwz]; exact HMI.out)
                      have HBZ : Hid (Below w14.heap.size w14 wz) := Lib.hid (by rw [← hwz]; exact below_drewN' HBR2.out _)
                      have c5 := HMZ.out.free
                      clear hwz c2 c3
                      go_wp2_with fail
                      go_roundg (n - (i + 1))
                      case rel => exact ⟨i + 1, HLT.out, rfl, rfl, MineAt.step HMZ.out _, HBZ.out.setCell HGT.out _⟩
                      case measure => have := HLT.out; omega
                    · have e7 : decide (i < n) = false := decide_eq_false hlt
                      have e7' : decide ((i : Int) < n) = false := decide_eq_false (by omega)
                      obtain rfl : n = i := by omega
                      obtain ⟨b2, o2, rfl, hq2, c2⟩ := txt_pos hv (i := 0) (by rw [HSL.out, HN.out]; exact H12.out.1)
                      clear hq2
                      obtain ⟨u, hu⟩ : ∃ u, st.getD 0 ⟨#[]⟩ = u := ⟨_, rfl⟩
                      rw [hu] at c2
                      replace c2 : wr.cell? ⟨b2, o2, none⟩ = some (.string u) := c2
                      have SC := Lib.hid (fun W (hW : Below wr.heap.size wr W) => states_first (n := n) HL18.out hW HB3.out.size rfl rfl H12.out.1 hu)
                      have RC := Lib.hid (fun W (hW : Below wr.heap.size wr W) => roundN_solo (z := z) (HL18.out.below hW (LawS.low HL18.out HB3.out.size)) rfl)
                      have KS := Lib.hid (fun W (hW : Below wr.heap.size wr W) => (hW.cell (p := ⟨b2, o2, none⟩) (World.block_lt_of_cell? _ _ c2)).trans c2)
                      have i1 : (0 : Int) < n := by have := H12.out.1; omega
                      have i2 : 0 < n := H12.out.1
                      have SC2 := Lib.hid (fun W (hW : Below wr.heap.size wr W) => (SC.out W hW).mono fun e w' ⟨g, cap, h1, h2, h3⟩ => (show ∃ g cap, e = Ending.returned (Value.slice (some ⟨g, 0, none⟩) n cap) ∧ w'.cell? ⟨g, 0, none⟩ = some (Value.string u) ∧ w'.cell? ⟨b2, o2, none⟩ = some (Value.string u) ∧ Below wr.heap.size wr w' from ⟨g, cap, h1, h2, KS.out w' h3, h3⟩))
                      clear hlt hi hbr hmi hv hu
                      go_upto_region 42 with fail
                      go_region_with (first | (go_at_call 20; refine (SC2.out _ (by first | assumption | exact Below.refl _ _ | exact below_drewN' (Below.refl _ _) _)).mono ?_; rintro e' w19 ⟨g19, cap19, rfl, hc19, hd19, hb19⟩) | (go_at_call 22; refine (RC.out _ (by first | assumption | exact Below.refl _ _ | exact below_drewN' (Below.refl _ _) _)).mono ?_; rintro e' w20 ⟨rfl, rfl⟩))
                      all_goals (go_wp2_with fail; go_ret; exact ⟨rfl, (BW11 wr HL18.out).trans (hb19.mono (BW11 wr HL18.out).size)⟩)
end Go.Proofs.YtlopoddllfkkfaaDoor
