/- NetAll. -/
import Derived.Test.YtbecgfeoacncdaaDoorAllT
namespace Go.Proofs.YtbecgfeoacncdaaDoor
open Go.RowKit

theorem come_fly {n : NetP} {a c : Int} {x : ByteArray} (h0 : 0 ≤ a) (h1 : a < n.fly.length) : (stepP n 2 a c x).1.fly.length + 1 = n.fly.length := by
  unfold stepP
  rw [if_neg (by decide), dif_pos ⟨h0, h1⟩, if_neg (by decide)]
  have hc : ∀ m l, (cameP m l).fly = m.fly := fun m l => by unfold cameP; split <;> rfl
  show (cameP _ _).fly.length + 1 = _
  rw [hc]
  show (n.fly.take a.toNat ++ n.fly.drop (a.toNat + 1)).length + 1 = _
  rw [List.length_append, List.length_take, List.length_drop]
  omega
/-- What is left of a step. -/
def CutO (a : Nat) (wr : World) (x : Value) (w' : World) : Prop := x = .int .i64 a ∧ Below wr.heap.size wr w'
/-- The order's numbers, as a walk reads them. -/
def OrdV (w : World) (v : Value) (r : Nat) : Prop := ∃ A c, v = .slice A r c ∧ ∀ i, i < r → ∃ b off, A = some ⟨b, off, none⟩ ∧ ∃ x : Nat, x < 65536 ∧ w.cell? ⟨b, off + i, none⟩ = some (.int .u16 x)
theorem OrdV.below {w w' : World} {v : Value} {r : Nat} (h : OrdV w v r) (hb : Below w.heap.size w w') : OrdV w' v r := by
  obtain ⟨A, c, rfl, h⟩ := h
  refine ⟨A, c, rfl, fun i hi => ?_⟩
  obtain ⟨b, off, rfl, x, hx, hc⟩ := h i hi
  exact ⟨b, off, rfl, x, hx, (hb.cell (p := ⟨b, off + i, none⟩) (World.block_lt_of_cell? _ _ hc)).trans hc⟩
set_option maxRecDepth 100000 in
set_option maxHeartbeats 8000000 in
theorem all_law {w : World} (hg : ErrT w) {v u : Value} {S : List Let} {r : Nat} (hS : LetsAt w v S) (hlen : S.length ≤ 9223372036854775807) (hO : OrdV w u r) (hr : r ≤ 9223372036854775807) (a d : Nat) (ha : a ≤ 255) (hd : d ≤ 255) :
    Calls Tryd.prog 4 #[.int .u8 a, v, u, .int .u8 d] w fun e w' => e = .returned (.bool true) ∧ Below w.heap.size w w' := by
  have AL := Lib.hid (alive_ok w hg)
  have HG := Lib.hid hg; have HS := Lib.hid hS; have HO := Lib.hid hO; have HLEN := Lib.hid hlen
  obtain ⟨A, c, rfl, _⟩ := hS
  obtain ⟨A', c', rfl, _⟩ := hO
  obtain ⟨n, hnn⟩ : ∃ n, S.length = n := ⟨_, rfl⟩
  have HN := Lib.hid hnn
  rw [hnn] at HS hlen ⊢
  obtain ⟨p, hp⟩ : ∃ p, a % 6 = p := ⟨_, rfl⟩
  have hp5 : p ≤ 5 := by omega
  have q1 : Int.tmod (a : Int) 6 = (p : Int) := by rw [← hp]; rfl
  obtain ⟨t, ht⟩ : ∃ t, d % 20 = t := ⟨_, rfl⟩
  have ht19 : t ≤ 19 := by omega
  have q2 : Int.tmod (d : Int) 20 = (t : Int) := by rw [← ht]; rfl
  have q3 : IntKind.i64.wrap (1 + (p : Int)) = ((p + 1 : Nat) : Int) := by rw [IntKind.wrap_i64]; omega
  clear hg hnn hp ht
  go_enter Tryd.func4, Tryd.ntmps4
  go_wp2_with fail
  refine AL.out.mono ?_
  rintro e w1 ⟨rfl, hb1⟩
  have FR := Lib.hid (far_any (HS.out.below hb1 (Nat.le_refl _)) HLEN.out)
  have HB1 := Lib.hid hb1
  clear hb1
  rw [HN.out] at FR
  go_wp2_with fail
  refine FR.out.mono ?_
  rintro e w2 ⟨z, rfl, hw, hz⟩
  obtain rfl := hw.symm
  have HZ := Lib.hid hz
  clear hz hw
  cases z with
  | true =>
    go_wp2_with fail
    go_ret
    exact ⟨rfl, HB1.out⟩
  | false =>
  obtain ⟨h60, _⟩ := HZ.out (by first | rfl | trivial)
  by_cases hr200 : 200 < r
  · have t1 : decide ((200 : Int) < (r : Int)) = true := decide_eq_true (by omega)
    have t1' : decide (200 < r) = true := decide_eq_true hr200
    go_wp2_with fail
    go_ret
    exact ⟨rfl, HB1.out⟩
  have t1 : decide ((200 : Int) < (r : Int)) = false := decide_eq_false (by omega)
  have t1' : decide (200 < r) = false := decide_eq_false hr200
  have NA := Lib.hid (newk_b (w := w1) (base := w1.heap.size) (Nat.le_refl _) (p + 1) (by omega) (by omega))
  clear hlen hr
  go_wp2_with fail
  refine NA.out.mono ?_; rintro e w2 ⟨_, rfl, b, R0, rfl, hN, _, hb⟩
  have A1 := Lib.hid hN; have X1 := Lib.hid hb
  have NB := Lib.hid (newk_b (w := w2) (base := w1.heap.size) hb.size (p + 1) (by omega) (by omega))
  clear hN hb
  go_wp2_with fail
  refine NB.out.mono ?_; rintro e w3 ⟨_, rfl, b2, R20, rfl, hN, hR, hb⟩
  have A2 := Lib.hid (A1.out.below hb); have X2 := Lib.hid (X1.out.trans (hb.mono X1.out.size)); have B2 := Lib.hid hN
  have OF2 : Hid (Off R0 R20) := Lib.hid (fun j h1 h2 => by have a1 := (A1.out.foot h1).2; have a2 := hR j h2; omega)
  clear hN hR hb
  go_wp2_with fail
  go_loopg [14] n (fun g y wr => ∃ (k N : Nat) (nn : NetP) (T : Int → Int → Int → ByteArray) (R R2 : Nat → Prop), k ≤ n ∧ g = n - k ∧ y = .int .i64 (k : Nat) ∧ N ≤ k ∧ NetB wr w1.heap.size N nn b R ∧ NetB wr w1.heap.size N nn b2 R2 ∧ Off R R2 ∧ Good nn k ∧ FullI nn T ∧ nn.k = p + 1 ∧ Below w1.heap.size w1 wr)
  case atStart => exact ⟨0, 0, _, _, R0, R20, Nat.zero_le _, rfl, rfl, Nat.le_refl _, A2.out, B2.out, OF2.out, Good.fresh (by omega), FullI.fresh _, rfl, X2.out⟩
  case round =>
    obtain ⟨k, N, nn, T, R, R2, hk, rfl, rfl, hNk, hA, hBn, hoff, hGd, hFu, hkp, hB⟩ := hrel
    have HA := Lib.hid hA; have HBn := Lib.hid hBn; have HOF := Lib.hid hoff; have HGD := Lib.hid hGd; have HFU := Lib.hid hFu; have HKP := Lib.hid hkp; have HB := Lib.hid hB
    clear hA hBn hoff hGd hFu hkp hB
    by_cases hlt : k < n
    · obtain ⟨sb, off, rfl, e0, e1, e2, e3⟩ := (HS.out.below (HB1.out.trans (HB.out.mono HB1.out.size)) (Nat.le_refl _)).pos (i := k) (by rw [HN.out]; exact hlt)
      have hpos2 := fun (W : World) (hW : Below w1.heap.size wr W) => (HS.out.below (HB1.out.trans ((HB.out.trans hW).mono HB1.out.size)) (Nat.le_refl _)).pos (i := k) (by rw [HN.out]; exact hlt)
      obtain ⟨⟨f, tt, s, x⟩, hl⟩ : ∃ l, S[k]'(by rw [HN.out]; exact hlt) = l := ⟨_, rfl⟩
      rw [hl] at e0 e1 e2 e3 hpos2
      simp only at e0 e1 e2 e3 hpos2
      have HLT := Lib.hid hlt
      have t3 : decide (k < n) = true := decide_eq_true hlt
      have t3' : decide ((k : Int) < (n : Int)) = true := decide_eq_true (by omega)
      have i1 : (k : Int) < n := by omega
      have i2 : (0 : Int) ≤ k := by omega
      by_cases hf : f = 0
      · subst hf
        have HGG : Hid (∀ W, Below w1.heap.size wr W → ErrT W) := fun W hW => HG.out.below (HB1.out.trans ((HB.out.trans hW).mono HB1.out.size)) (Nat.le_refl _)
        obtain ⟨n', hn'⟩ : ∃ n', (stepP nn 0 tt s x).1 = n' := ⟨_, rfl⟩
        obtain ⟨cd, hcd⟩ : ∃ n', (stepP nn 0 tt s x).2 = n' := ⟨_, rfl⟩
        have hN1000 : N ≤ 1000 := by omega
        have hd1 := do_b HA.out HGD.out (by omega) hN1000 HB.out.size HGG.out 0 tt s x
        rw [hn', hcd] at hd1
        have hd2 : ∀ W, Below w1.heap.size wr W → w1.heap.size ≤ W.heap.size → NetB W w1.heap.size N nn b2 R2 → Calls Tryd.prog 13 #[.pointer (some ⟨b2, 0, none⟩), .agg #[.int .i64 0, .int .i64 tt, .int .i64 s, .string x]] W (DoB w1.heap.size (N + 1) n' cd b2 R2 W) := by
          intro W hW hz hN
          have := do_b hN HGD.out (by omega) hN1000 hz (fun X hX => HGG.out X (hW.trans hX)) 0 tt s x
          rwa [hn', hcd] at this
        have hst := HGD.out.step (by omega) 0 tt s x
        rw [hn'] at hst
        have hka : n'.k = p + 1 := by rw [← hn', stepP_k]; exact HKP.out
        have hfu := HFU.out.sends tt s x
        rw [hn'] at hfu
        have HD1 := Lib.hid hd1; have HD2 := Lib.hid hd2; have HST := Lib.hid hst; have HKA := Lib.hid hka; have HFU2 := Lib.hid hfu; have HPOS := Lib.hid hpos2
        clear hl hn' hcd hd1 hd2 hst hka hfu hpos2 hN1000
        go_wp2_with fail
        refine HD1.out.mono ?_; rintro e w4 ⟨rfl, R4, hN4, hf4, hR4, hb4⟩
        have HB4 := Lib.hid (HBn.out.stay hf4 (fun j h1 h2 => HOF.out j h2 h1))
        have HA4 := Lib.hid hN4; have X4 := Lib.hid hb4
        have OF4 : Hid (Off R4 R2) := Lib.hid (fun j h1 h2 => by
          rcases hR4 j h1 with h | h
          · exact HOF.out j h h2
          · have := (HBn.out.foot h2).2; omega)
        have HD4 := Lib.hid (HD2.out w4 hb4 (Nat.le_trans HB.out.size hb4.size) HB4.out)
        obtain ⟨sb', off', hz, g0, g1, g2, g3⟩ := HPOS.out w4 hb4
        injection hz with hz
        injection hz with z1 z2
        subst z1 z2
        clear hN4 hf4 hR4 hb4 e0 e1 e2 e3
        go_wp2_with fail
        refine HD4.out.mono ?_; rintro e w6 ⟨rfl, R6, hN6, hf6, hR6, hb6⟩
        have HA6 := Lib.hid (HA4.out.stay hf6 OF4.out)
        have OF6 : Hid (Off R4 R6) := Lib.hid (fun j h1 h2 => by
          rcases hR6 j h2 with h | h
          · exact OF4.out j h1 h
          · have := (HA4.out.foot h1).2; omega)
        have HB6 := Lib.hid hN6; have X6 := Lib.hid (HB.out.trans (X4.out.trans hb6))
        clear hN6 hf6 hR6 hb6 g0 g1 g2 g3
        go_wp2_with fail
        go_roundg (n - (k + 1))
        case rel =>
          obtain ⟨T', hT⟩ := HFU2.out
          exact ⟨k + 1, N + 1, n', T', R4, R6, HLT.out, rfl, by go_num, by omega, HA6.out, HB6.out, OF6.out, HST.out, hT, HKA.out, X6.out⟩
        case measure => have := HLT.out; omega
      · have u1 : decide (f = 0) = false := decide_eq_false hf
        have u2 : (f == 0) = false := by simpa using hf
        clear hpos2 hl
        go_wp2_with fail
        go_roundg (n - (k + 1))
        case rel => exact ⟨k + 1, N, nn, T, R, R2, HLT.out, rfl, by go_num, by omega, HA.out, HBn.out, HOF.out, HGD.out.mono (by omega), HFU.out, HKP.out, HB.out⟩
        case measure => have := HLT.out; omega
    · obtain rfl : k = n := by omega
      have t3 : decide (k < k) = false := decide_eq_false (by omega)
      go_wp2_with fail
      go_loopg [17] t (fun g y wr => ∃ (i N1 : Nat) (na : NetP) (R : Nat → Prop), i ≤ t ∧ g = t - i ∧ y = .int .i64 (i : Nat) ∧ N1 ≤ N + i ∧ NetB wr w1.heap.size N1 na b R ∧ NetB wr w1.heap.size N nn b2 R2 ∧ Off R R2 ∧ Good na (k + i) ∧ FullI na T ∧ na.sent = nn.sent ∧ na.k = p + 1 ∧ Below w1.heap.size w1 wr)
      case atStart => exact ⟨0, N, nn, R, Nat.zero_le _, rfl, rfl, Nat.le_refl _, HA.out, HBn.out, HOF.out, HGD.out, HFU.out, rfl, HKP.out, HB.out⟩
      case round =>
        obtain ⟨i, N1, na, R, hi, rfl, rfl, hNi, hA, hBn, hoff, hGd, hFu, hsent, hka, hB⟩ := hrel
        have HA := Lib.hid hA; have HB2 := Lib.hid hBn; have HOF := Lib.hid hoff; have HGD3 := Lib.hid hGd; have HFU3 := Lib.hid hFu; have HSE := Lib.hid hsent; have HKP3 := Lib.hid hka; have HB := Lib.hid hB
        clear hA hBn hoff hGd hFu hsent hka hB
        by_cases hlt2 : i < t
        · have hst := HGD3.out.step (by omega) 1 i 0 ⟨#[]⟩
          have hfu := HFU3.out.double i 0 ⟨#[]⟩
          have hkk : (stepP na 1 i 0 ⟨#[]⟩).1.k = p + 1 := by rw [stepP_k]; exact HKP3.out
          have hdb := double_b HA.out HGD3.out (by omega) HB.out.size i 0 ⟨#[]⟩
          obtain ⟨n', hn'⟩ : ∃ n', (stepP na 1 i 0 ⟨#[]⟩).1 = n' := ⟨_, rfl⟩
          rw [hn'] at hst hfu hkk hdb
          have HST := Lib.hid hst; have HFU5 := Lib.hid hfu; have HKK := Lib.hid hkk; have HDB := Lib.hid hdb; have HLT := Lib.hid hlt2
          have t4 : decide (i < t) = true := decide_eq_true hlt2
          have t4' : decide ((i : Int) < (t : Int)) = true := decide_eq_true (by omega)
          clear hst hfu hkk hdb hn'
          go_wp2_with fail
          refine HDB.out.mono ?_; rintro e w4 ⟨u4, rfl, _, R4, hN4, hf4, hR4, hb4⟩
          have hduo := duo_step HB2.out (fun j h1 h2 => HOF.out j h2 h1) hf4 hR4
          have HREL := Lib.hid (And.intro hN4 (And.intro hduo (HB.out.trans hb4)))
          clear hN4 hf4 hR4 hb4 hduo
          go_wp2_with fail
          go_roundg (t - (i + 1))
          case rel => exact ⟨i + 1, N1 + 1, n', R4, HLT.out, rfl, by go_num, by omega, HREL.out.1, HREL.out.2.1.1, fun j h1 h2 => HREL.out.2.1.2 j h2 h1, HST.out, HFU5.out.1, HFU5.out.2.trans HSE.out, HKK.out, HREL.out.2.2⟩
          case measure => have := HLT.out; omega
        · obtain rfl : i = t := by omega
          have t4 : decide (i < i) = false := decide_eq_false (by omega)
          obtain ⟨fl0, hfl0⟩ : ∃ m, na.fly.length = m := ⟨_, rfl⟩
          have hfl79 : fl0 ≤ 79 := by have := HGD3.out.fl; omega
          have HFL0 := Lib.hid hfl0
          clear hfl0
          go_wp2_with fail
          go_loopg [18] fl0 (fun g y wr => ∃ (j N1 M : Nat) (nb : NetP) (R : Nat → Prop), nb.fly.length = g ∧ y = .int .i64 (j : Nat) ∧ j + g ≤ 200 ∧ N1 + g ≤ 200 ∧ M + g ≤ 200 ∧ NetB wr w1.heap.size N1 nb b R ∧ NetB wr w1.heap.size N nn b2 R2 ∧ Off R R2 ∧ Good nb M ∧ FullI nb T ∧ nb.sent = nn.sent ∧ nb.k = p + 1 ∧ Below w1.heap.size w1 wr)
          case atStart => exact ⟨0, N1, k + i, na, R, HFL0.out, rfl, by omega, by omega, by omega, HA.out, HB2.out, HOF.out, HGD3.out, HFU3.out, HSE.out, HKP3.out, HB.out⟩
          case round =>
            obtain ⟨j, N1, M, nb, R, rfl, rfl, hj, hN1, hM, hA, hBn, hoff, hGd, hFu, hsent, hka, hB⟩ := hrel
            obtain ⟨q, hq⟩ : ∃ m, nb.fly.length = m := ⟨_, rfl⟩
            have FL := Lib.hid (flying_b hA (by omega) hq)
            rw [hq] at hj hN1 hM
            have HA := Lib.hid hA; have HB2 := Lib.hid hBn; have HOF := Lib.hid hoff; have HGD4 := Lib.hid hGd; have HFU4 := Lib.hid hFu; have HSE := Lib.hid hsent; have HKP4 := Lib.hid hka; have HB := Lib.hid hB; have HQ := Lib.hid hq
            clear hA hBn hoff hGd hFu hsent hka hB hq
            go_wp2_with fail
            refine FL.out.mono ?_; rintro e w4 ⟨Ax, cx, rfl, hb⟩
            have HA4 := Lib.hid (HA.out.below hb); have HB4 := Lib.hid (HB2.out.below hb); have X4 := Lib.hid (HB.out.trans (hb.mono HB.out.size))
            clear hb
            by_cases hq0 : q = 0
            · subst hq0
              have HNIL := Lib.hid (List.eq_nil_of_length_eq_zero HQ.out)
              obtain ⟨fb, hfb⟩ : ∃ m, nn.fly.length = m := ⟨_, rfl⟩
              have hfb60 : fb ≤ 60 := by have := HGD.out.fl; omega
              have HFB := Lib.hid hfb
              clear hfb
              go_wp2_with fail
              go_loopg [] fb (fun g wr => ∃ (N2 M2 : Nat) (nc : NetP) (R2' : Nat → Prop), nc.fly.length = g ∧ N2 + g ≤ 200 ∧ M2 + g ≤ 200 ∧ NetB wr w1.heap.size N2 nc b2 R2' ∧ NetB wr w1.heap.size N1 nb b R ∧ Off R R2' ∧ Good nc M2 ∧ FullI nc T ∧ nc.sent = nn.sent ∧ nc.k = p + 1 ∧ Below w1.heap.size w1 wr)
              case atStart => exact ⟨N, k, nn, R2, HFB.out, by omega, by omega, HB4.out, HA4.out, HOF.out, HGD.out, HFU.out, rfl, HKP.out, X4.out⟩
              case round =>
                obtain ⟨N2, M2, nc, R2', rfl, hN2, hM2, hC, hA, hoff, hGd, hFu, hsent, hka, hB⟩ := hrel
                obtain ⟨q2, hq2⟩ : ∃ m, nc.fly.length = m := ⟨_, rfl⟩
                have FL2 := Lib.hid (flying_b hC (by omega) hq2)
                rw [hq2] at hN2 hM2
                have HC := Lib.hid hC; have HA5 := Lib.hid hA; have HOF5 := Lib.hid hoff; have HGD5 := Lib.hid hGd; have HFU5 := Lib.hid hFu; have HSE5 := Lib.hid hsent; have HKP5 := Lib.hid hka; have HB5 := Lib.hid hB; have HQ2 := Lib.hid hq2
                clear hA hC hoff hGd hFu hsent hka hB hq2
                go_wp2_with fail
                refine FL2.out.mono ?_; rintro e w6 ⟨Ay, cy, rfl, hb⟩
                have HA6 := Lib.hid (HA5.out.below hb); have HC6 := Lib.hid (HC.out.below hb); have X6 := Lib.hid (HB5.out.trans (hb.mono HB5.out.size))
                clear hb
                by_cases hq0 : q2 = 0
                · subst hq0
                  have HNIL2 := Lib.hid (List.eq_nil_of_length_eq_zero HQ2.out)
                  go_wp2_with fail
                  go_loopg [20] (p + 1) (fun g y wr => ∃ cw, cw ≤ p + 1 ∧ g = p + 1 - cw ∧ y = .int .i64 (cw : Nat) ∧ NetB wr w1.heap.size N1 nb b R ∧ NetB wr w1.heap.size N2 nc b2 R2' ∧ Below w1.heap.size w1 wr)
                  case atStart => exact ⟨0, Nat.zero_le _, rfl, rfl, HA6.out, HC6.out, X6.out⟩
                  case round =>
                    obtain ⟨cw, hcw, rfl, rfl, hA, hC, hB⟩ := hrel
                    have HB8 := Lib.hid hB; have HA8 := Lib.hid hA; have HC8 := Lib.hid hC
                    by_cases hltc : cw < p + 1
                    · obtain ⟨L, hL⟩ : ∃ L, allL nn.sent T cw (p + 1) = L := ⟨_, rfl⟩
                      obtain ⟨m, hm⟩ : ∃ m, L.length = m := ⟨_, rfl⟩
                      have hM60 : ∀ a, nn.sent a cw ≤ 60 := fun a => Nat.le_trans (HGD.out.sn a cw) (by omega)
                      have hm1 : m ≤ 360 := by
                        have h1 := allL_len nn.sent T cw 60 hM60 (p + 1)
                        rw [hL, hm] at h1
                        omega
                      have hnum : ∀ l, l ∈ L → 0 ≤ l.s ∧ l.s < 60 := fun l hl => by
                        rw [← hL] at hl
                        exact allL_num nn.sent T cw 60 hM60 _ l hl
                      have hnb : Nb L := by rw [← hL]; exact allL_nb nn.sent T cw (p + 1)
                      have IA := Lib.hid (inbox_all hA HGD4.out (by omega) HFU4.out HNIL.out HSE.out HKP4.out hltc hL hm)
                      have IB := Lib.hid (fun W (hW : Below wr.heap.size wr W) => inbox_all (hC.below hW) HGD5.out (by omega) HFU5.out HNIL2.out HSE5.out HKP5.out hltc hL hm)
                      have HNUM := Lib.hid hnum; have HNB := Lib.hid hnb; have HMM := Lib.hid hm; have HLTC := Lib.hid hltc
                      have t8 : decide (cw < p + 1) = true := decide_eq_true hltc
                      have t8' : decide ((cw : Int) < ((p : Int) + 1)) = true := decide_eq_true (by omega)
                      clear hA hC hB hL hm hM60 hnum hnb
                      go_wp2_with fail
                      refine IA.out.mono ?_; rintro e w8 ⟨Ax, cx, rfl, hlx, hb8⟩
                      have HLX := Lib.hid hlx; have IB2 := Lib.hid (IB.out w8 hb8); have HX8 := Lib.hid hb8
                      clear hlx hb8
                      go_wp2_with fail
                      refine IB2.out.mono ?_; rintro e w9 ⟨Ay, cy, rfl, hly, hb9⟩
                      have HLX9 := Lib.hid (HLX.out.below hb9 (Nat.le_refl _)); have HLY := Lib.hid hly; have HX9 := Lib.hid (HX8.out.trans (hb9.mono HX8.out.size))
                      clear hly hb9
                      go_wp2_with fail
                      go_loopg [23] m (fun g y wx => ∃ i d, i ≤ m ∧ g = m - i ∧ y = .int .i64 (i : Nat) ∧ wx = w9.drewN d)
                      case atStart => exact ⟨0, 0, Nat.zero_le _, rfl, rfl, rfl⟩
                      case round =>
                        obtain ⟨i6, d6, hi6, rfl, rfl, rfl⟩ := hrel
                        by_cases hlt6 : i6 < m
                        · have hiL : i6 < L.length := by rw [HMM.out]; exact hlt6
                          obtain ⟨⟨xf, xt, xs, xx⟩, hx⟩ : ∃ x, L[i6] = x := ⟨_, rfl⟩
                          obtain ⟨ga, oa, rfl, d0, d1, d2, d3⟩ := HLX9.out.pos (i := i6) hiL
                          obtain ⟨gb, ob, rfl, e0, e1, e2, e3⟩ := HLY.out.pos (i := i6) hiL
                          rw [hx] at d0 d1 d2 d3 e0 e1 e2 e3
                          simp only at d0 d1 d2 d3 e0 e1 e2 e3
                          have Q1 := fun W => neq_let ⟨xf, xt, xs, xx⟩ ⟨xf, xt, xs, xx⟩ W
                          rw [show eqLB ⟨xf, xt, xs, xx⟩ ⟨xf, xt, xs, xx⟩ = true from (eqLB_iff _ _).2 rfl] at Q1
                          simp only [letV] at Q1
                          have Q2 := fun x y W => guard_let .neq x y #[.int .i64 xf, .int .i64 xt, .int .i64 xs, .string xx] #[.int .i64 xf, .int .i64 xt, .int .i64 xs, .string xx] W
                          have t9 : decide (i6 < m) = true := decide_eq_true hlt6
                          have t9' : decide ((i6 : Int) < (m : Int)) = true := decide_eq_true (by omega)
                          have j1 : (i6 : Int) < m := by omega
                          have j2 : (0 : Int) ≤ i6 := by omega
                          have HLT6 := Lib.hid hlt6
                          by_cases hi0 : i6 = 0
                          · have t10 : decide ((0 : Int) < (i6 : Int)) = false := decide_eq_false (by omega)
                            have t10' : decide (0 < i6) = false := decide_eq_false (by omega)
                            clear hx hiL hi0
                            go_wp2_with fail
                            go_quiet (fail)
                            go_wp2_with fail
                            go_roundg (m - (i6 + 1))
                            case rel => exact ⟨i6 + 1, _, HLT6.out, rfl, by go_num, rfl⟩
                            case measure => have := HLT6.out; omega
                          · obtain ⟨i5, rfl⟩ : ∃ i5, i6 = i5 + 1 := ⟨i6 - 1, by omega⟩
                            obtain ⟨⟨pf, pt, ps, px⟩, hp5⟩ : ∃ x, L[i5]'(by omega) = x := ⟨_, rfl⟩
                            obtain ⟨ga', oa', hA', z0, z1, z2, z3⟩ := HLX9.out.pos (i := i5) (by rw [HMM.out]; omega)
                            injection hA' with hA'
                            injection hA' with q1 q2
                            subst q1 q2
                            rw [hp5] at z0 z1 z2 z3
                            simp only at z0 z1 z2 z3
                            have hnbx : pf = xf → xs = ps + 1 := fun h => HNB.out i5 ⟨pf, pt, ps, px⟩ ⟨xf, xt, xs, xx⟩ (by rw [List.getElem?_eq_getElem (by omega), hp5]) (by rw [List.getElem?_eq_getElem hiL, hx]) h
                            have hps := HNUM.out ⟨pf, pt, ps, px⟩ (by rw [← hp5]; exact List.getElem_mem _)
                            simp only at hps
                            obtain ⟨hps0, hps1⟩ := hps
                            have sw : IntKind.i64.wrap (ps + 1) = ps + 1 := by rw [IntKind.wrap_i64] <;> omega
                            have sj : IntKind.i64.wrap (((i5 + 1 : Nat) : Int) - 1) = (i5 : Int) := by rw [IntKind.wrap_i64] <;> omega
                            have sj' : IntKind.i64.wrap ((i5 : Int) + 1 - 1) = (i5 : Int) := by rw [IntKind.wrap_i64] <;> omega
                            have t10 : decide ((0 : Int) < (i5 : Int) + 1) = true := decide_eq_true (by omega)
                            have j3 : (i5 : Int) < m := by omega
                            have j4 : (0 : Int) ≤ i5 := by omega
                            clear hx hp5 hiL hi0
                            by_cases hfe : pf = xf
                            · obtain rfl := hnbx hfe
                              subst hfe
                              have u1 : (pf == pf) = true := by simp
                              have u2 : (ps + 1 != ps + 1) = false := by simp
                              clear hnbx
                              go_wp2_with fail
                              go_quiet (fail)
                              go_wp2_with fail
                              go_roundg (m - (i5 + 1 + 1))
                              case rel => exact ⟨i5 + 1 + 1, _, HLT6.out, rfl, by go_num, rfl⟩
                              case measure => have := HLT6.out; omega
                            · have u1 : (xf == pf) = false := by simpa using fun h => hfe h.symm
                              have u1' : decide (xf = pf) = false := decide_eq_false (fun h => hfe h.symm)
                              clear hnbx
                              go_wp2_with fail
                              go_quiet (fail)
                              go_wp2_with fail
                              go_roundg (m - (i5 + 1 + 1))
                              case rel => exact ⟨i5 + 1 + 1, _, HLT6.out, rfl, by go_num, rfl⟩
                              case measure => have := HLT6.out; omega
                        · obtain rfl : i6 = m := by omega
                          have t9 : decide (i6 < i6) = false := decide_eq_false (by omega)
                          have hbd := below_drewN' HX9.out d6
                          have HREL := Lib.hid (And.intro (HA8.out.below hbd) (And.intro (HC8.out.below hbd) (HB8.out.trans (hbd.mono HB8.out.size))))
                          clear hbd
                          go_wp2_with fail
                          go_roundg (p + 1 - (cw + 1))
                          case rel => exact ⟨cw + 1, HLTC.out, rfl, by go_num, HREL.out.1, HREL.out.2.1, HREL.out.2.2⟩
                          case measure => have := HLTC.out; omega
                    · obtain rfl : cw = p + 1 := by omega
                      have t8 : decide (p + 1 < p + 1) = false := decide_eq_false (by omega)
                      have QA := Lib.hid (quiet_b hA HFU4.out HNIL.out)
                      have QB := Lib.hid (quiet_b hC HFU5.out HNIL2.out)
                      clear hA hC hB
                      go_wp2_with fail
                      refine QA.out.mono ?_; rintro e wz ⟨rfl, hw⟩; obtain rfl := hw.symm
                      clear hw
                      go_wp2_with fail
                      refine QB.out.mono ?_; rintro e wz ⟨rfl, hw⟩; obtain rfl := hw.symm
                      clear hw
                      go_wp2_with fail
                      go_ret
                      exact ⟨rfl, HB1.out.trans (HB8.out.mono HB1.out.size)⟩
                · have t7 : decide (0 < q2) = true := decide_eq_true (by omega)
                  have t7' : decide ((0 : Int) < (q2 : Int)) = true := decide_eq_true (by omega)
                  have hstp := HGD5.out.step (by omega) 2 0 0 ⟨#[]⟩
                  have hfly := come_fly (n := nc) (a := (0 : Int)) (c := 0) (x := ⟨#[]⟩) (by omega) (by have := HQ2.out; omega)
                  have hcm := HFU5.out.come 0 0 ⟨#[]⟩
                  have hkk : (stepP nc 2 0 0 ⟨#[]⟩).1.k = p + 1 := by rw [stepP_k]; exact HKP5.out
                  have hdl := deliver_b HC6.out HGD5.out (by omega) (by omega) X6.out.size (0 : Int) 0 ⟨#[]⟩
                  obtain ⟨n', hn'⟩ : ∃ n', (stepP nc 2 0 0 ⟨#[]⟩).1 = n' := ⟨_, rfl⟩
                  rw [hn'] at hstp hfly hcm hkk hdl
                  have HSTP := Lib.hid hstp; have HFLY := Lib.hid hfly; have HCM := Lib.hid hcm; have HKK := Lib.hid hkk; have HDL := Lib.hid hdl
                  clear hstp hfly hcm hkk hdl hn'
                  go_wp2_with fail
                  refine HDL.out.mono ?_; rintro e w7 ⟨u7, rfl, _, R7, hN7, hf7, hR7, hb7⟩
                  have hduo := duo_step HA6.out HOF5.out hf7 hR7
                  have HREL := Lib.hid (And.intro hN7 (And.intro hduo (X6.out.trans hb7)))
                  clear hN7 hf7 hR7 hb7 hduo
                  go_wp2_with fail
                  go_roundg (q2 - 1)
                  case rel => exact ⟨N2 + 1, M2 + 1, n', R7, by have := HFLY.out; have := HQ2.out; omega, by omega, by omega, HREL.out.1, HREL.out.2.1.1, HREL.out.2.1.2, HSTP.out, HCM.out.1, HCM.out.2.trans HSE5.out, HKK.out, HREL.out.2.2⟩
                  case measure => have := HQ2.out; omega
            · have t5 : decide (0 < q) = true := decide_eq_true (by omega)
              have t5' : decide ((0 : Int) < (q : Int)) = true := decide_eq_true (by omega)
              have i3 : (0 : Int) < q := by omega
              by_cases hjr : j < r
              · obtain ⟨Ao, co, ho, hpo⟩ := (HO.out.below HB1.out).below X4.out
                injection ho with ho1 ho2 ho3
                subst ho1 ho3
                obtain ⟨ob, oo, hoA, xx, hxx, hcx⟩ := hpo j hjr
                subst hoA
                obtain ⟨at', hat⟩ : ∃ a, xx % q = a := ⟨_, rfl⟩
                have hatq : at' < q := by rw [← hat]; exact Nat.mod_lt _ (by omega)
                have q4 : Int.tmod (xx : Int) (q : Int) = (at' : Int) := by rw [← hat]; rfl
                have q5 : IntKind.i64.wrap (xx : Int) = (xx : Int) := by rw [IntKind.wrap_i64]; omega
                have hol : ob < w4.heap.size := World.block_lt_of_cell? _ _ hcx
                have KS := Lib.hid (fun (W : World) (hb : Below w4.heap.size w4 W) => (show Below w4.heap.size w4 W ∧ W.cell? ⟨ob, oo + j, none⟩ = some (.int .u16 xx) from ⟨hb, (hb.cell (p := ⟨ob, oo + j, none⟩) hol).trans hcx⟩))
                have HFW : Hid (∀ W, Below w4.heap.size w4 W → Calls Tryd.prog 15 #[.pointer (some ⟨b, 0, none⟩)] W fun e w' => ∃ A c, e = .returned (.slice A q c) ∧ Below w4.heap.size w4 w') :=
                  Lib.hid (fun W hb => (flying_b (HA4.out.below hb) (by have := HQ.out; omega) HQ.out).mono (fun e w' h => by obtain ⟨A, c, h1, h2⟩ := h; exact ⟨A, c, h1, hb.trans (h2.mono hb.size)⟩))
                have t6 : decide (j < r) = true := decide_eq_true hjr
                have t6' : decide ((j : Int) < (r : Int)) = true := decide_eq_true (by omega)
                have i4 : (j : Int) < r := by omega
                have i5 : (0 : Int) ≤ j := by omega
                have i6 : ¬ (q : Int) = 0 := by omega
                have HAT := Lib.hid hatq
                clear hpo hat hxx hol hcx
                go_upto_region 25 with fail
                go_cut [19] (fun x wx => CutO at' w4 x wx)
                case first =>
                  go_region_held3 (fun W => Below w4.heap.size w4 W ∧ W.cell? ⟨ob, oo + j, none⟩ = some (.int .u16 xx))
                    (exact KS.out _ (by first | assumption | exact below_drewN' (Below.refl _ _) 1))
                    (first
                      | (go_at_call 15; refine (HFW.out _ (by first | assumption | exact below_drewN' (Below.refl _ _) 1)).mono ?_; rintro e' w5 ⟨Af, cf, rfl, hb5⟩))
                  all_goals
                    go_wp2
                    go_meet
                    exact ⟨rfl, by assumption⟩
                case rest =>
                  obtain ⟨rfl, hbO⟩ := hcut
                  have hstp := HGD4.out.step (by omega) 2 at' 0 ⟨#[]⟩
                  have hfly := come_fly (n := nb) (a := (at' : Int)) (c := 0) (x := ⟨#[]⟩) (by omega) (by have := HQ.out; omega)
                  have hcm := HFU4.out.come at' 0 ⟨#[]⟩
                  have hkk : (stepP nb 2 at' 0 ⟨#[]⟩).1.k = p + 1 := by rw [stepP_k]; exact HKP4.out
                  have hdl := deliver_b (HA4.out.below hbO) HGD4.out (by omega) (by omega) (X4.out.trans (hbO.mono X4.out.size)).size (at' : Int) 0 ⟨#[]⟩
                  obtain ⟨n', hn'⟩ : ∃ n', (stepP nb 2 at' 0 ⟨#[]⟩).1 = n' := ⟨_, rfl⟩
                  rw [hn'] at hstp hfly hcm hkk hdl
                  have HSTP := Lib.hid hstp; have HFLY := Lib.hid hfly; have HCM := Lib.hid hcm; have HKK := Lib.hid hkk; have HDL := Lib.hid hdl
                  clear hstp hfly hcm hkk hdl hn'
                  go_wp2_with fail
                  refine HDL.out.mono ?_; rintro e w6 ⟨u6, rfl, _, R6, hN6, hf6, hR6, hb6⟩
                  have hduo := duo_step (HB4.out.below hbO) (fun j h1 h2 => HOF.out j h2 h1) hf6 hR6
                  have HREL := Lib.hid (And.intro hN6 (And.intro hduo ((X4.out.trans (hbO.mono X4.out.size)).trans hb6)))
                  clear hN6 hf6 hR6 hb6 hduo
                  go_wp2_with fail
                  go_roundg (q - 1)
                  case rel => exact ⟨j + 1, N1 + 1, M + 1, n', R6, by have := HFLY.out; have := HQ.out; omega, by go_num, by omega, by omega, by omega, HREL.out.1, HREL.out.2.1.1, fun j h1 h2 => HREL.out.2.1.2 j h2 h1, HSTP.out, HCM.out.1, HCM.out.2.trans HSE.out, HKK.out, HREL.out.2.2⟩
                  case measure => have := HQ.out; omega
              · have t6 : decide (j < r) = false := decide_eq_false hjr
                have t6' : decide ((j : Int) < (r : Int)) = false := decide_eq_false (by omega)
                have hstp := HGD4.out.step (by omega) 2 0 0 ⟨#[]⟩
                have hfly := come_fly (n := nb) (a := (0 : Int)) (c := 0) (x := ⟨#[]⟩) (by omega) (by have := HQ.out; omega)
                have hcm := HFU4.out.come 0 0 ⟨#[]⟩
                have hkk : (stepP nb 2 0 0 ⟨#[]⟩).1.k = p + 1 := by rw [stepP_k]; exact HKP4.out
                have hdl := deliver_b HA4.out HGD4.out (by omega) (by omega) X4.out.size (0 : Int) 0 ⟨#[]⟩
                obtain ⟨n', hn'⟩ : ∃ n', (stepP nb 2 0 0 ⟨#[]⟩).1 = n' := ⟨_, rfl⟩
                rw [hn'] at hstp hfly hcm hkk hdl
                have HSTP := Lib.hid hstp; have HFLY := Lib.hid hfly; have HCM := Lib.hid hcm; have HKK := Lib.hid hkk; have HDL := Lib.hid hdl
                clear hstp hfly hcm hkk hdl hn'
                go_wp2_with fail
                refine HDL.out.mono ?_; rintro e w6 ⟨u6, rfl, _, R6, hN6, hf6, hR6, hb6⟩
                have hduo := duo_step HB4.out (fun j h1 h2 => HOF.out j h2 h1) hf6 hR6
                have HREL := Lib.hid (And.intro hN6 (And.intro hduo (X4.out.trans hb6)))
                clear hN6 hf6 hR6 hb6 hduo
                go_wp2_with fail
                go_roundg (q - 1)
                case rel => exact ⟨j + 1, N1 + 1, M + 1, n', R6, by have := HFLY.out; have := HQ.out; omega, by go_num, by omega, by omega, by omega, HREL.out.1, HREL.out.2.1.1, fun j h1 h2 => HREL.out.2.1.2 j h2 h1, HSTP.out, HCM.out.1, HCM.out.2.trans HSE.out, HKK.out, HREL.out.2.2⟩
                case measure => have := HQ.out; omega
end Go.Proofs.YtbecgfeoacncdaaDoor
