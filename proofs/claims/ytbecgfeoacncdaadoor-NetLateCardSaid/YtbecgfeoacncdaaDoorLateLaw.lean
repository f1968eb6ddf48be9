/- NetLate. -/
import Derived.Test.YtbecgfeoacncdaaDoorLateP
import Derived.Test.YtbecgfeoacncdaaDoorArg19
import Derived.Test.YtbecgfeoacncdaaDoorApart19
import Derived.Deep.CutBlock
import Derived.Deep.DeepCutAuto
import Derived.Deep.RegionHeld3
import Derived.Deep.DrawnRows
namespace Go.Proofs.YtbecgfeoacncdaaDoor
open Go.RowKit

set_option maxRecDepth 100000 in
set_option maxHeartbeats 8000000 in
theorem late_any {w : World} (hg : ErrT w) {v : Value} {S : List Let} (hS : LetsAt w v S) (hlen : S.length ≤ 9223372036854775807) (i : Nat) (hi : i ≤ 255) :
    Calls Tryd.prog 7 #[v, .int .u8 i] w fun e w' => e = .returned (.bool true) ∧ Below w.heap.size w w' := by
  have AL := Lib.hid (alive_ok w hg)
  have HG := Lib.hid hg; have HS := Lib.hid hS; have HLEN := Lib.hid hlen
  obtain ⟨A, c, rfl, _⟩ := hS
  obtain ⟨n, hnn⟩ : ∃ n, S.length = n := ⟨_, rfl⟩
  have HN := Lib.hid hnn
  rw [hnn] at HS hlen ⊢
  clear hg hnn
  go_enter Tryd.func7, Tryd.ntmps7
  go_wp2_with fail
  refine AL.out.mono ?_
  rintro e w1 ⟨rfl, hb1⟩
  have FR := Lib.hid (far_any (HS.out.below hb1 (Nat.le_refl _)) HLEN.out)
  have HB1 := Lib.hid hb1
  clear hb1
  rw [HN.out] at FR
  go_wp2_with fail
  refine FR.out.mono ?_
  rintro e w2 ⟨z, rfl, hw, hz⟩
  obtain rfl := hw.symm
  have HZ := Lib.hid hz
  clear hz
  cases z with
  | true =>
    go_wp2_with fail
    go_ret
    exact ⟨rfl, HB1.out⟩
  | false =>
    obtain ⟨h60, hnear⟩ := HZ.out rfl
    have HNEAR := Lib.hid hnear
    have HNEW := Lib.hid (netNew_any 3 w1)
    clear hnear
    go_wp2_with fail
    refine HNEW.out.mono ?_
    rintro e w2 ⟨hb2, ⟨j, p, hj, _, _, rfl, hN⟩ | ⟨h0, _⟩⟩
    case inr => omega
    obtain rfl : j = 3 := by omega
    clear hj
    obtain ⟨b, mb, cb, v1, F1, G1, rfl, hN1⟩ := hN
    have HB2 := Lib.hid hb2; have HN1 := Lib.hid hN1
    clear hb2 hN1
    go_wp2_with fail
    go_loopg [7] n (fun g y wr => ∃ (k : Nat) (nn : NetP) (T : Int → Int → Int → ByteArray) (L : List Let) (vv : Value) (F G : Value → Option Value), k ≤ n ∧ g = n - k ∧ y = .int .i64 (k : Nat) ∧ NetIn wr w1.heap.size k nn b mb cb vv F G ∧ Good nn k ∧ Inv nn T L ∧ nn.k = 3 ∧ Below w1.heap.size w1 wr)
    case atStart => exact ⟨0, _, _, _, _, _, _, Nat.zero_le _, rfl, rfl, HN1.out, Good.fresh (by decide), Inv.fresh 3, rfl, HB2.out⟩
    case round =>
      obtain ⟨k, nn, T, L, vv, F, G, hk, rfl, rfl, hN, hG, hI, hk3, hB⟩ := hrel
      by_cases hlt : k < n
      · obtain ⟨sb, off, rfl, e0, e1, e2, e3⟩ := (HS.out.below (HB1.out.trans (hB.mono HB1.out.size)) (Nat.le_refl _)).pos (i := k) (by rw [HN.out]; exact hlt)
        obtain ⟨⟨f, t, s, x⟩, hl⟩ : ∃ l, S[k]'(by rw [HN.out]; exact hlt) = l := ⟨_, rfl⟩
        have hnr := HNEAR.out (S[k]'(by rw [HN.out]; exact hlt)) (List.getElem_mem _)
        rw [hl] at e0 e1 e2 e3 hnr
        simp only at e0 e1 e2 e3
        have hf1 : 0 ≤ f := hnr.1
        have hf2 : f ≤ 2 := hnr.2.1
        have HGG : Hid (∀ W, Below w1.heap.size wr W → ErrT W) := fun W hW => HG.out.below (HB1.out.trans ((hB.trans hW).mono HB1.out.size)) (Nat.le_refl _)
        have HM1 := Lib.hid (missing_any ⟨b, mb, cb, vv, F, G, rfl, hN⟩)
        have HDO := Lib.hid (do_any hN hG (by omega) (by omega) hB.size HGG.out f t s x)
        have hsm := step_miss nn f t s x
        have HST := Lib.hid (hG.step (by omega) f t s x)
        have HIV := Lib.hid (hI.step f t s x)
        have hk3' : (stepP nn f t s x).1.k = 3 := by rw [stepP_k]; exact hk3
        have HNN := Lib.hid hN; have HB := Lib.hid hB; have HK3 := Lib.hid hk3'; have HLT := Lib.hid hlt
        have b1 := hG.m1
        have b2 := hG.m2
        obtain ⟨m0, hm0⟩ : ∃ m, nn.miss = m := ⟨_, rfl⟩
        obtain ⟨m1, hm1⟩ : ∃ m, (stepP nn f t s x).1.miss = m := ⟨_, rfl⟩
        obtain ⟨cd, hcd⟩ : ∃ m, (stepP nn f t s x).2 = m := ⟨_, rfl⟩
        rw [hm0] at hsm HM1 b1 b2
        rw [hcd] at HDO
        rw [hm1, hcd] at hsm
        have HSM := Lib.hid hsm; have HM1E := Lib.hid hm1; have HL := Lib.hid hl
        have t3 : decide (k < n) = true := decide_eq_true hlt
        have t3' : decide ((k : Int) < (n : Int)) = true := decide_eq_true (by omega)
        have i1 : (k : Int) < n := by omega
        have i2 : (0 : Int) ≤ k := by omega
        clear hN hG hI hk3 hk3' hB hl hnr hsm hm0 hm1 hcd
        go_wp2_with fail
        refine HM1.out.mono ?_; rintro e wz ⟨rfl, hw⟩; obtain rfl := hw.symm
        clear hw
        go_wp2_with fail
        refine HDO.out.mono ?_; rintro e w4 ⟨rfl, hl⟩
        have hb4 := hl.go HNN.out HB.out.size
        obtain ⟨v4, F4, G4, hN4, _, _⟩ := hl
        have HM2 := missing_any ⟨b, mb, cb, v4, F4, G4, rfl, hN4⟩
        rw [HM1E.out] at HM2
        have HM2 := Lib.hid HM2
        obtain ⟨sb', off', hA, d0, _, _, _⟩ := (HS.out.below (HB1.out.trans ((HB.out.trans hb4).mono HB1.out.size)) (Nat.le_refl _)).pos (i := k) (by rw [HN.out]; exact hlt)
        injection hA with hA
        injection hA with z1 z2
        subst z1 z2
        rw [HL.out] at d0
        simp only at d0
        obtain ⟨T', L', hI', _⟩ := HIV.out
        have HREL := Lib.hid (And.intro hN4 (And.intro hI' (HB.out.trans hb4)))
        obtain ⟨hs1, hs2⟩ := HSM.out
        clear hN4 hI' hb4 HM1 HDO
        by_cases hcd : cd = 0
        · subst hcd
          obtain ⟨q0, q1, q2⟩ := hs2 rfl
          clear hs1 hs2
          rcases (by omega : f = 0 ∨ f = 1 ∨ f = 2) with rfl | rfl | rfl
          · obtain rfl : m1 = m0 + 1 := q0 rfl
            clear q0 q1 q2
            have u1 : (m0 + 1 != m0) = true := by simp; omega
            go_wp2_with fail
            refine HM2.out.mono ?_; rintro e wy ⟨rfl, hw⟩; obtain rfl := hw.symm
            clear hw
            go_wp2_with fail
            go_roundg (n - (k + 1))
            case rel => exact ⟨k + 1, _, T', L', v4, F4, G4, HLT.out, rfl, by go_num, HREL.out.1, HST.out, HREL.out.2.1, HK3.out, HREL.out.2.2⟩
            case measure => have := HLT.out; omega
          · obtain rfl : m1 = m0 := q1 rfl
            clear q0 q1 q2
            go_wp2_with fail
            refine HM2.out.mono ?_; rintro e wy ⟨rfl, hw⟩; obtain rfl := hw.symm
            clear hw
            go_wp2_with fail
            go_roundg (n - (k + 1))
            case rel => exact ⟨k + 1, _, T', L', v4, F4, G4, HLT.out, rfl, by go_num, HREL.out.1, HST.out, HREL.out.2.1, HK3.out, HREL.out.2.2⟩
            case measure => have := HLT.out; omega
          · rcases q2 (by decide) (by decide) with rfl | rfl
            · clear q0 q1 q2
              go_wp2_with fail
              refine HM2.out.mono ?_; rintro e wy ⟨rfl, hw⟩; obtain rfl := hw.symm
              clear hw
              go_wp2_with fail
              go_roundg (n - (k + 1))
              case rel => exact ⟨k + 1, _, T', L', v4, F4, G4, HLT.out, rfl, by go_num, HREL.out.1, HST.out, HREL.out.2.1, HK3.out, HREL.out.2.2⟩
              case measure => have := HLT.out; omega
            · clear q0 q1 q2
              have u1 : (m0 - 1 != m0) = true := by simp; omega
              go_wp2_with fail
              refine HM2.out.mono ?_; rintro e wy ⟨rfl, hw⟩; obtain rfl := hw.symm
              clear hw
              go_wp2_with fail
              go_roundg (n - (k + 1))
              case rel => exact ⟨k + 1, _, T', L', v4, F4, G4, HLT.out, rfl, by go_num, HREL.out.1, HST.out, HREL.out.2.1, HK3.out, HREL.out.2.2⟩
              case measure => have := HLT.out; omega
        · obtain rfl : m1 = m0 := hs1 hcd
          have u1 : decide (cd = 0) = false := decide_eq_false hcd
          have u2 : (cd == 0) = false := by simpa using hcd
          have u3 : (cd != 0) = true := by simpa using hcd
          clear hs1 hs2
          go_wp2_with fail
          refine HM2.out.mono ?_; rintro e wy ⟨rfl, hw⟩; obtain rfl := hw.symm
          clear hw
          go_wp2_with fail
          go_roundg (n - (k + 1))
          case rel => exact ⟨k + 1, _, T', L', v4, F4, G4, HLT.out, rfl, by go_num, HREL.out.1, HST.out, HREL.out.2.1, HK3.out, HREL.out.2.2⟩
          case measure => have := HLT.out; omega
      · obtain rfl : k = n := by omega
        have t3 : decide (k < k) = false := decide_eq_false (by omega)
        obtain ⟨q, hq⟩ : ∃ q, nn.fly.length = q := ⟨_, rfl⟩
        have hq60 : q ≤ 60 := by have := hG.fl; omega
        have FL := flying_any ⟨b, mb, cb, vv, F, G, rfl, hN⟩ (by omega)
        rw [hq] at FL
        have hfoot : ∀ g, Foot b mb cb vv g → g < wr.heap.size := fun g hg => (hN.foot hg).2
        have FL := Lib.hid FL; have HQ := Lib.hid hq; have HNN := Lib.hid hN; have HGD := Lib.hid hG; have HIV := Lib.hid hI; have HK3 := Lib.hid hk3; have HB := Lib.hid hB; have HFT := Lib.hid hfoot
        clear hq hN hG hI hk3 hB hfoot
        go_wp2_with fail
        refine FL.out.mono ?_; rintro e w3 ⟨v3, rfl, ho, hb3⟩
        have hlf := own_lets ho
        have hlt3 := ho.lt
        obtain ⟨A3, c3, rfl⟩ := own_form ho
        have HB3 := Lib.hid (HB.out.trans (hb3.mono HB.out.size)); have HN3 := Lib.hid (HNN.out.below hb3 (Nat.le_refl _)); have HLF := Lib.hid hlf
        have hbs : ∀ g, (Value.slice A3 q c3).ownBlock = some g → Beside w3 b mb cb vv g := fun g hg => ⟨(hlt3 g hg).2, fun k hk => by have h1 := HFT.out k hk; have h2 := (hlt3 g hg).1; omega⟩
        have HBS := Lib.hid hbs
        clear ho hb3 hlf hlt3 hbs
        by_cases hq0 : q = 0
        · subst hq0
          go_wp2_with fail
          go_ret
          exact ⟨rfl, HB1.out.trans (HB3.out.mono HB1.out.size)⟩
        · obtain ⟨at', hat⟩ : ∃ a, i % q = a := ⟨_, rfl⟩
          have hat1 : at' < q := by rw [← hat]; exact Nat.mod_lt _ (by omega)
          have htm : Int.tmod (i : Int) (q : Int) = (at' : Int) := by rw [← hat]; rfl
          obtain ⟨⟨xf, xt, xs, xx⟩, hx⟩ : ∃ x, nn.fly[at']'(by rw [HQ.out]; exact hat1) = x := ⟨_, rfl⟩
          obtain ⟨n2, n3, n4, T3, L3, e2, e3, hl3, e4, hI3, hca, hs4, hc4, hm4, hk3, hk4, hht⟩ := late_pure HIV.out at' (by rw [HQ.out]; exact hat1) hx
          rw [HQ.out] at hl3 e4
          obtain ⟨g, off, rfl, _, _, _, _⟩ := HLF.out.pos (i := at') (by rw [HQ.out]; exact hat1)
          have HPU := Lib.hid (And.intro e3 (And.intro hl3 (And.intro e4 (And.intro hI3 (And.intro hca (And.intro hs4 (And.intro hc4 (And.intro hm4 (And.intro hk3 (And.intro hk4 hht))))))))))
          have D2 := double_step HN3.out HGD.out (by omega) at' 0 ⟨#[]⟩
          rw [e2] at D2
          have g2 := HGD.out.step (by omega) 1 at' 0 ⟨#[]⟩
          rw [e2] at g2
          have D2 := Lib.hid D2; have HG2 := Lib.hid g2; have HX := Lib.hid hx
          have hqi : ¬ (q : Int) = 0 := by omega
          have tq : decide ((q : Int) = 0) = false := decide_eq_false hqi
          clear hat e2 hI3 hca hs4 hc4 hm4 hk3 hk4 hht e3 hl3 e4 hx g2
          go_wp2_with fail
          refine D2.out.mono ?_; rintro e w4 ⟨u, rfl, he, hl⟩
          obtain rfl := he.nil rfl
          have hb4 := hl.go HN3.out HB3.out.size
          obtain ⟨v4, F4, G4, hN4, hst4, hbs4⟩ := hl.beside (HBS.out g rfl)
          have hlf4 := HLF.out.stay (w' := w4) (fun k hk => by have hk' : some g = some k := hk; injection hk' with hk'; subst hk'; exact hst4)
          have D3 := deliver_step hN4 HG2.out (by omega) (by omega) 2 at' 0 ⟨#[]⟩ (by decide) (by decide)
          rw [HPU.out.1] at D3
          have g3 := HG2.out.step (by omega) 2 at' 0 ⟨#[]⟩
          rw [HPU.out.1] at g3
          have D3 := Lib.hid D3; have HG3 := Lib.hid g3; have HB4 := Lib.hid (HB3.out.trans hb4); have HN4 := Lib.hid hN4; have HLF4 := Lib.hid hlf4; have HBS4 := Lib.hid hbs4
          clear hb4 hN4 hst4 hbs4 hlf4 g3 he
          go_wp2_with fail
          refine D3.out.mono ?_; rintro e w5 ⟨u, rfl, he, hl⟩
          obtain rfl := he.nil rfl
          have hb5 := hl.go HN4.out HB4.out.size
          obtain ⟨v5, F5, G5, hN5, hst5, hbs5⟩ := hl.beside HBS4.out
          have hlf5 := HLF4.out.stay (w' := w5) (fun k hk => by have hk' : some g = some k := hk; injection hk' with hk'; subst hk'; exact hst5)
          obtain ⟨g', off', hA, _, c5, _, _⟩ := hlf5.pos (i := at') (by rw [HQ.out]; exact hat1)
          injection hA with hA
          injection hA with z1 z2
          subst z1 z2
          rw [HX.out] at c5
          simp only at c5
          have hk3 : n3.k = 3 := by rw [HPU.out.2.2.2.2.2.2.2.2.1]; exact HK3.out
          have IB := inbox_ok hN5 xt HG3.out.k (by rw [HPU.out.2.2.2.2.2.2.2.2.1]; exact HPU.out.2.2.2.2.2.2.2.2.2.2) (fun a => Nat.le_trans (HG3.out.sn a xt) (by omega))
          obtain ⟨LR, hLR⟩ : ∃ l, inboxL n3 xt n3.k = l := ⟨_, rfl⟩
          rw [hLR] at IB
          have HIB := Lib.hid IB; have HLR := Lib.hid hLR; have HB5 := Lib.hid (HB4.out.trans hb5); have HN5 := Lib.hid hN5; have HLF5 := Lib.hid hlf5; have HBS5 := Lib.hid hbs5; have HKK := Lib.hid hk3
          clear hb5 hN5 hst5 hbs5 hlf5 IB hLR hk3 he
          go_wp2_with fail
          refine HIB.out.mono ?_; rintro e w6 ⟨u, rfl, hf6, hb6⟩
          obtain ⟨A6, c6, hu, _⟩ := id hf6
          subst hu
          obtain ⟨r, hr⟩ : ∃ r, LR.length = r := ⟨_, rfl⟩
          rw [hr]
          have HR := Lib.hid hr
          have hN6 := HN5.out.below hb6 (Nat.le_refl _)
          have HM6 := missing_any ⟨b, mb, cb, v5, F5, G5, rfl, hN6⟩
          have FL6 := flying_any ⟨b, mb, cb, v5, F5, G5, rfl, hN6⟩ (by have := HG3.out.fl; omega)
          obtain ⟨m3, hm3⟩ : ∃ m, n3.miss = m := ⟨_, rfl⟩
          rw [hm3] at HM6
          rw [HPU.out.2.1] at FL6
          have HM6 := Lib.hid HM6; have FL6 := Lib.hid FL6; have HM3 := Lib.hid hm3
          have HB6 := Lib.hid (HB5.out.trans (hb6.mono HB5.out.size)); have HN6 := Lib.hid hN6; have HLF6 := Lib.hid (HLF5.out.below hb6 (Nat.le_refl _)); have HBS6 := Lib.hid (HBS5.out.below hb6)
          clear hf6 hb6 hr hN6 hm3 c5
          go_wp2_with fail
          refine HM6.out.mono ?_; rintro e wz ⟨rfl, hw⟩; obtain rfl := hw.symm
          clear hw
          go_wp2_with fail
          refine FL6.out.mono ?_; rintro e w7 ⟨v7, rfl, ho, hb7⟩
          obtain ⟨A7, c7, rfl⟩ := own_form ho
          have hN7 := HN6.out.below hb7 (Nat.le_refl _)
          have D4 := deliver_step hN7 HG3.out (by omega) (by omega) 2 ((q : Int) - 1) 0 ⟨#[]⟩ (by decide) (by decide)
          rw [HPU.out.2.2.1] at D4
          have g4 := HG3.out.step (by omega) 2 ((q : Int) - 1) 0 ⟨#[]⟩
          rw [HPU.out.2.2.1] at g4
          have D4 := Lib.hid D4; have HG4 := Lib.hid g4
          have HB7 := Lib.hid (HB6.out.trans (hb7.mono HB6.out.size)); have HN7 := Lib.hid hN7; have HLF7 := Lib.hid (HLF6.out.below hb7 (Nat.le_refl _)); have HBS7 := Lib.hid (HBS6.out.below hb7)
          clear ho hb7 hN7 g4
          go_wp2_with fail
          refine D4.out.mono ?_; rintro e w8 ⟨u, rfl, he, hl⟩
          obtain rfl := he.nil rfl
          have hb8 := hl.go HN7.out HB7.out.size
          obtain ⟨v8, F8, G8, hN8, hst8, hbs8⟩ := hl.beside HBS7.out
          have hlf8 := HLF7.out.stay (w' := w8) (fun k hk => by have hk' : some g = some k := hk; injection hk' with hk'; subst hk'; exact hst8)
          obtain ⟨g', off', hA, _, c8, _, _⟩ := hlf8.pos (i := at') (by rw [HQ.out]; exact hat1)
          injection hA with hA
          injection hA with z1 z2
          subst z1 z2
          rw [HX.out] at c8
          simp only at c8
          have IB8 := inbox_ok hN8 xt HG4.out.k (by rw [HPU.out.2.2.2.2.2.2.2.2.2.1]; exact HPU.out.2.2.2.2.2.2.2.2.2.2) (fun a => Nat.le_trans (HG4.out.sn a xt) (by omega))
          have hsame : inboxL n4 xt n4.k = LR := by
            rw [inbox_of n3 n4 xt HPU.out.2.2.2.2.2.1 HPU.out.2.2.2.2.2.2.1, HPU.out.2.2.2.2.2.2.2.2.2.1, ← HPU.out.2.2.2.2.2.2.2.2.1]
            exact HLR.out
          rw [hsame] at IB8
          have HIB8 := Lib.hid IB8; have HB8 := Lib.hid (HB7.out.trans hb8); have HN8 := Lib.hid hN8; have HLF8 := Lib.hid hlf8
          clear hb8 hN8 hst8 hbs8 hlf8 IB8 hsame he
          go_wp2_with fail
          refine HIB8.out.mono ?_; rintro e w9 ⟨u, rfl, hf9, hb9⟩
          obtain ⟨A9, c9, hu, _⟩ := id hf9
          subst hu
          rw [HR.out] at hf9 ⊢
          have hN9 := HN8.out.below hb9 (Nat.le_refl _)
          have HM9 := missing_any ⟨b, mb, cb, v8, F8, G8, rfl, hN9⟩
          rw [HPU.out.2.2.2.2.2.2.2.1, HM3.out] at HM9
          have HM9 := Lib.hid HM9; have HF9 := Lib.hid hf9.lets; have HLF9 := Lib.hid (HLF8.out.below hb9 (Nat.le_refl _)); have HB9 := Lib.hid (HB8.out.trans (hb9.mono HB8.out.size))
          clear hf9 hb9 hN9 c8
          go_wp2_with fail
          refine HM9.out.mono ?_; rintro e wz ⟨rfl, hw⟩; obtain rfl := hw.symm
          clear hw
          go_wp2_with fail
          have HC : Hid (LR.countP (fun l => eqLB l ⟨xf, xt, xs, xx⟩) = 1) := by
            have hc := inbox_count (x := ⟨xf, xt, xs, xx⟩) HPU.out.2.2.2.1 HPU.out.2.2.2.2.1
            simp only at hc
            rw [HLR.out] at hc
            exact hc
          have hr3 : r ≤ 3000 := by
            have h1 := inboxL_len (n := n3) (c := xt) (M := 1000) (fun a => Nat.le_trans (HG3.out.sn a xt) (by omega)) n3.k
            rw [HLR.out, HR.out, HKK.out] at h1
            omega
          go_loopg [16, 17] r (fun gg hv yv wr => ∃ k2 d, k2 ≤ r ∧ gg = r - k2 ∧ hv = .int .i64 ((LR.take k2).countP (fun l => eqLB l ⟨xf, xt, xs, xx⟩) : Nat) ∧ yv = .int .i64 (k2 : Nat) ∧ wr = w9.drewN d)
          case atStart => exact ⟨0, 0, Nat.zero_le _, rfl, rfl, rfl, rfl⟩
          case round =>
            obtain ⟨k2, d, hk2, rfl, rfl, rfl, rfl⟩ := hrel
            obtain ⟨cnt, hcnt⟩ : ∃ m, (LR.take k2).countP (fun l => eqLB l ⟨xf, xt, xs, xx⟩) = m := ⟨_, rfl⟩
            have hcb : cnt ≤ k2 := by
              rw [← hcnt]
              refine Nat.le_trans (List.countP_le_length) ?_
              rw [List.length_take]
              omega
            rw [hcnt]
            by_cases hlt2 : k2 < r
            · have hk2l : k2 < LR.length := by rw [HR.out]; exact hlt2
              obtain ⟨g9, off9, rfl, d0, d1, d2, d3⟩ := HF9.out.pos (i := k2) hk2l
              obtain ⟨⟨yf, yt, ys, yx⟩, hy⟩ : ∃ y, LR[k2] = y := ⟨_, rfl⟩
              rw [hy] at d0 d1 d2 d3
              obtain ⟨g', off', hA, x0, x1, x2, x3⟩ := HLF9.out.pos (i := at') (by rw [HQ.out]; exact hat1)
              injection hA with hA
              injection hA with z1 z2
              subst z1 z2
              rw [HX.out] at x0 x1 x2 x3
              simp only at d0 d1 d2 d3 x0 x1 x2 x3
              obtain ⟨z, hz⟩ : ∃ z, eqLB ⟨yf, yt, ys, yx⟩ ⟨xf, xt, xs, xx⟩ = z := ⟨_, rfl⟩
              have Q1 := fun W => eql_let ⟨yf, yt, ys, yx⟩ ⟨xf, xt, xs, xx⟩ W
              rw [hz] at Q1
              simp only [letV] at Q1
              have Q2 := fun x y W => guard_let .eql x y #[.int .i64 yf, .int .i64 yt, .int .i64 ys, .string yx] #[.int .i64 xf, .int .i64 xt, .int .i64 xs, .string xx] W
              have hnx : (LR.take (k2 + 1)).countP (fun l => eqLB l ⟨xf, xt, xs, xx⟩) = cnt + (if z = true then 1 else 0) := by
                rw [List.take_succ_eq_append_getElem hk2l, List.countP_append, hcnt, hy]
                simp only [List.countP_cons, List.countP_nil, hz, Nat.zero_add]
              have t3 : decide (k2 < r) = true := decide_eq_true hlt2
              have t3' : decide ((k2 : Int) < (r : Int)) = true := decide_eq_true (by omega)
              have j1 : (k2 : Int) < r := by omega
              have j2 : (0 : Int) ≤ k2 := by omega
              have j3 : (at' : Int) < q := by omega
              have j4 : (0 : Int) ≤ at' := by omega
              have HNX := Lib.hid hnx; have HLT2 := Lib.hid hlt2
              clear hcnt hnx hy hz hk2l
              cases z with
              | true =>
                go_wp2_with fail
                go_quiet (fail)
                go_wp2_with fail
                go_roundg (r - (k2 + 1))
                case rel => exact ⟨k2 + 1, _, HLT2.out, rfl, by rw [HNX.out]; simp, by go_num, rfl⟩
                case measure => have := HLT2.out; omega
              | false =>
                go_wp2_with fail
                go_quiet (fail)
                go_wp2_with fail
                go_roundg (r - (k2 + 1))
                case rel => exact ⟨k2 + 1, _, HLT2.out, rfl, by rw [HNX.out, if_neg (by decide)]; rfl, by go_num, rfl⟩
                case measure => have := HLT2.out; omega
            · obtain rfl : k2 = r := by omega
              have t3 : decide (k2 < k2) = false := decide_eq_false (by omega)
              have hc1 : cnt = 1 := by
                rw [← hcnt, ← HR.out, List.take_length]
                exact HC.out
              subst hc1
              clear hcnt
              go_wp2_with fail
              go_ret
              exact ⟨rfl, below_drewN' (HB1.out.trans (HB9.out.mono HB1.out.size)) _⟩
end Go.Proofs.YtbecgfeoacncdaaDoor
