/- The document's Picks: its contract. -/
import Derived.Test.YtploaffmhemjkaaRefPicksP
import Derived.Test.YtploaffmhemjkaaRowsIns
import Derived.Test.YtploaffmhemjkaaSets3
import Derived.Test.YtploaffmhemjkaaSets2
namespace Go.Proofs.Ytploaffmhemjkaa
open Go.RowKit

set_option maxRecDepth 100000 in
set_option maxHeartbeats 4000000 in
theorem refPicks_any (S : List Int) (k : Int) (v : Value) (w : World) (h : SeqV w v S) (hS : Rising S) (hn : S.length ≤ 9) :
    Calls Try.prog 44 #[v, .int .i64 k] w fun e w' => ∃ v' O, e = .returned v' ∧ Upto S k (2 ^ S.length) O ∧ ListsV w' v' O ∧ Below w.heap.size w w' := by
  obtain ⟨A, c, rfl⟩ := IntsV.form h
  obtain ⟨n, hl⟩ : ∃ n, S.length = n := ⟨_, rfl⟩
  have H := Lib.hid h
  rw [hl] at H hn ⊢
  have HL := Lib.hid hl; have HS := Lib.hid hS
  obtain ⟨N, hN⟩ : ∃ N, 2 ^ n = N := ⟨_, rfl⟩
  have hNI : (2 : Int) ^ n = (N : Int) := by rw [← hN]; simp
  have hN5 : N ≤ 512 := by rw [← hN]; exact Nat.pow_le_pow_right (n := 2) (by omega) hn
  rw [hN]
  have HN := Lib.hid hN
  obtain ⟨j0, hi0, hz0, hz1, hz2⟩ := info_parts Try.infoInt6
  obtain ⟨j1, hi1, ky0, ky1, ky2⟩ := info_parts Try.infoRow
  clear h hl hS hN
  go_enter Try.func44, Try.ntmps44
  go_wp2_with fail
  go_loopg [5, 6] N (fun g x y wr => ∃ m O, m ≤ N ∧ g = N - m ∧ y = .int .i64 (m : Nat) ∧ RowsOwn wr w.heap.size x O ∧ Upto S k m O ∧ O.length ≤ m ∧ Below w.heap.size w wr)
  case atStart => exact ⟨0, [], Nat.zero_le _, rfl, rfl, RowsOwn.nil _ _, Upto.start S k, Nat.le_refl _, Below.refl _ _⟩
  case round =>
    obtain ⟨m, O, hm, rfl, rfl, hown, hup, hlen, hb⟩ := hrel
    obtain ⟨Ax, cx, rfl⟩ := hown.form
    obtain ⟨q, hq⟩ : ∃ q, O.length = q := ⟨_, rfl⟩
    have HOWN := Lib.hid hown; have HUP := Lib.hid hup; have HB := Lib.hid hb; have HQ := Lib.hid hq
    rw [hq] at HOWN hlen ⊢
    have hsz := hb.size
    clear hown hup hb hq
    by_cases hlt : m < N
    · have t1 : decide ((m : Int) < N) = true := decide_eq_true (by omega)
      have t1' : decide (m < N) = true := decide_eq_true hlt
      have HLT := Lib.hid hlt
      clear hlt
      go_wp2_with fail
      obtain ⟨wo, rfl⟩ : ∃ x, x = wr := ⟨_, rfl⟩
      go_loopg [7, 8] n (fun g x y wr => ∃ i, i ≤ n ∧ g = n - i ∧ y = .int .i64 (i : Nat) ∧ wr.ownsRow wo.heap.size 3 1 x (subR (S.take i) m).length (intCells (subR (S.take i) m)) ∧ Below wo.heap.size wo wr)
      case atStart => exact ⟨0, Nat.zero_le _, rfl, rfl, World.ownsRow_nil _ _ _ _, Below.refl _ _⟩
      case round =>
        obtain ⟨i, hi, rfl, rfl, hrow, hbr⟩ := hrel
        obtain ⟨Ap, cp, rfl⟩ := own_form hrow
        obtain ⟨T, hT⟩ : ∃ T, subR (S.take i) m = T := ⟨_, rfl⟩
        rw [hT] at hrow ⊢
        obtain ⟨p, hp⟩ : ∃ p, T.length = p := ⟨_, rfl⟩
        have hpi : p ≤ i := by
          have := (subR_sub (S.take i) m).length_le
          rw [hT, hp, List.length_take] at this
          omega
        rw [hp] at hrow ⊢
        have HT := Lib.hid hT; have HP := Lib.hid hp; have HROW := Lib.hid hrow; have HBR := Lib.hid hbr
        have hszr := hbr.size
        clear hT hp
        by_cases hli : i < n
        · obtain ⟨b, off, rfl, hcell⟩ := IntsV.pos (by have := (H.out.below HB.out (Nat.le_refl _)).below hbr (Nat.le_refl _); unfold SeqV at this; rw [HL.out] at this; exact this) hli
          have hc := hcell i hli
          obtain ⟨z, hz⟩ : ∃ z : Int, S.getD i 0 = z := ⟨_, rfl⟩
          have hc' : wr.cell? ⟨b, off + i, none⟩ = some (.int .i64 z) := by rw [← hz]; exact hc
          have hiS : i < S.length := by rw [HL.out]; exact hli
          have HST : Hid (subR (S.take (i + 1)) m = T ++ (if m / 2 ^ i % 2 = 1 then [z] else [])) := Lib.hid (by
            have e1 : S[i] = z := by rw [← hz]; simp [List.getD, hiS]
            rw [List.take_succ_eq_append_getElem hiS, subR_snoc, HT.out, e1, List.length_take, Nat.min_eq_left (by omega)])
          have hdv : (m : Int) / (2 : Int) ^ i = ((m / 2 ^ i : Nat) : Int) := by simp
          obtain ⟨D, hD⟩ : ∃ D, m / 2 ^ i = D := ⟨_, rfl⟩
          have hDm : D ≤ 512 := by rw [← hD]; have := Nat.div_le_self m (2 ^ i); omega
          rw [hD] at hdv HST
          have t2 : decide (i < n) = true := decide_eq_true hli
          have i1 : (i : Int) < n := by omega
          have i2 : (0 : Int) ≤ i := by omega
          have i3 : i ≤ 64 := by omega
          have i3' : (i : Int) ≤ 64 := by omega
          have HLI := Lib.hid hli
          clear hcell hc hz hiS hD hrow hbr hli
          by_cases hbit : D % 2 = 1
          · have t3 : (((D : Int) % 2) == 1) = true := beq_iff_eq.2 (by omega)
            have HF : Hid (subR (S.take (i + 1)) m = T ++ [z]) := Lib.hid (by rw [HST.out, if_pos hbit])
            clear hbit
            go_wp2_with (at_builtin; refine wpList_app1g _ rfl _ _ 22 rfl wo.heap.size 3 j0 (.int .i64 0) 8 Try.underlying22 hi0 hz0 hz1 hz2 rfl _ p _ rfl HROW.out _ rfl rfl (by omega) (by omega) hszr ?_)
            intro A2 k2 w2 hown2 hgrow2
            have HO2 : Hid (w2.ownsRow wo.heap.size 3 1 (.slice A2 (p + 1) k2) (subR (S.take (i + 1)) m).length (intCells (subR (S.take (i + 1)) m))) := Lib.hid (by
              rw [HF.out, intCells_app, List.length_append, HP.out]; exact hown2)
            have HB2 := Lib.hid (hgrow2.below HROW.out HBR.out (Nat.le_refl _) hszr)
            clear hown2 hgrow2
            go_wp2_with fail
            go_roundg (n - (i + 1))
            case rel => exact ⟨i + 1, HLI.out, rfl, by go_num, HO2.out, HB2.out⟩
            case measure => have := HLI.out; omega
          · have t3 : (((D : Int) % 2) == 1) = false := beq_eq_false_iff_ne.2 (by omega)
            have HF : Hid (subR (S.take (i + 1)) m = T) := Lib.hid (by rw [HST.out, if_neg hbit, List.append_nil])
            clear hbit
            go_wp2_with fail
            go_roundg (n - (i + 1))
            case rel => exact ⟨i + 1, HLI.out, rfl, by go_num, by rw [HF.out, HP.out]; exact HROW.out, HBR.out⟩
            case measure => have := HLI.out; omega
        · obtain rfl : i = n := by omega
          have t2 : decide (i < i) = false := by simp
          have hTS : T = subR S m := by rw [← HT.out, List.take_of_length_le (by rw [HL.out]; omega)]
          have HTS := Lib.hid hTS
          have hro := HOWN.out.below hbr (Nat.le_refl _)
          have hbw : Below w.heap.size w wr := HB.out.trans (hbr.mono HB.out.size)
          have HRO := Lib.hid hro; have HBW := Lib.hid hbw
          clear hro hbw hTS hrow hbr hli
          by_cases hpk : (p : Int) = k
          · have t3 : ((p : Int) != k) = false := by simp [hpk]
            have HPK := Lib.hid hpk
            clear hpk
            go_wp2_with fail
            obtain ⟨wb, rfl⟩ : ∃ x, x = wr := ⟨_, rfl⟩
            go_loopg [9] q (fun g y w2 => ∃ a, a ≤ q ∧ a = g ∧ y = .int .i64 (a : Nat) ∧ (∀ i, a ≤ i → i < q → cmpL T (O.getD i []) < 0) ∧ Below wb.heap.size wb w2)
            case atStart => exact ⟨q, Nat.le_refl _, rfl, rfl, fun i h1 h2 => by omega, Below.refl _ _⟩
            case round =>
              obtain ⟨a, haq, rfl, rfl, hall, hb2⟩ := hrel
              have HALL := Lib.hid hall; have HB2 := Lib.hid hb2
              have hro := HRO.out.below hb2 (Nat.le_refl _)
              have hrow := own_below HROW.out hb2 (Nat.le_refl _)
              have hsz2 := hb2.size
              have HRO2 := Lib.hid hro; have HROW2 := Lib.hid hrow
              clear hall hb2 hro hrow
              rcases (by omega : a = q ∨ a < q) with hqa | hqa
              · subst hqa
                have hend : (a = 0) ∨ (∃ a', a = a' + 1) := by cases a with | zero => exact Or.inl rfl | succ n => exact Or.inr ⟨n, rfl⟩
                rcases hend with ha0 | ⟨a', ha1⟩
                · have t4 : decide (0 < a) = false := decide_eq_false (by omega)
                  have t4' : decide ((0 : Int) < a) = false := decide_eq_false (by omega)
                  have HPL : Hid (a = 0 ∨ ¬ cmpL T (O.getD (a - 1) []) < 0) := Lib.hid (Or.inl ha0)
                  have HRO3 := HRO2; have HROW3 := HROW2; have HB3 := HB2
                  obtain ⟨w3, rfl⟩ : ∃ z, z = wr := ⟨_, rfl⟩
                  clear ha0
                  obtain ⟨us, hown, hr⟩ := HRO3.out
                  have hus : us.length = O.length := by have := hown.1; simpa using this
                  have hcx := (own_capI hown).2
                  have hov := own_vals hown
                  have hone : ∀ y, y ∈ us → y.oneCell' = true := by
                    intro y hy
                    obtain ⟨j, hj, rfl⟩ := List.getElem_of_mem hy
                    obtain ⟨_, _, e⟩ := own_form (hr j _ _ (List.getElem?_eq_getElem hj) (List.getElem?_eq_getElem (by omega)))
                    rw [e]; rfl
                  have HONE1 : Hid (∀ y, y ∈ us.take a → y.oneCell' = true) := Lib.hid (fun y hy => hone y (List.take_subset _ _ hy))
                  have HONE2 : Hid (∀ y, y ∈ us.drop a → y.oneCell' = true) := Lib.hid (fun y hy => hone y (List.drop_subset _ _ hy))
                  have HTL : Hid ((us.take a).length = a) := Lib.hid (by rw [List.length_take, hus, HQ.out]; omega)
                  have HDL : Hid (a + 1 + (us.drop a).length = O.length + 1) := Lib.hid (by rw [List.length_drop, hus, HQ.out]; omega)
                  have OW0 := World.ownsRow_lit (base := w3.heap.size) (e := 22) (size := 1) w3 #[] 0 (Nat.le_refl _) (by unfold maxLen; omega) rfl
                  have hA0 : Below w3.heap.size w3 (w3.alloc (.cells #[] 22)) := (Below.refl _ _).alloc (Nat.le_refl _) _
                  have HVT := Lib.hid ((vals_take hov a haq).below hA0 (Nat.le_refl _))
                  have HNIL : Hid (us.drop a = []) := Lib.hid (List.drop_of_length_le (by rw [hus, HQ.out]; omega))
                  obtain ⟨P1, hP1⟩ : ∃ P, us.take a = P := ⟨_, rfl⟩
                  obtain ⟨P2, hP2⟩ : ∃ P, us.drop a = P := ⟨_, rfl⟩
                  rw [hP1] at HVT HONE1 HTL
                  rw [hP2] at HONE2 HDL HNIL
                  have HP1 := Lib.hid hP1; have HP2 := Lib.hid hP2
                  clear hP1 hP2
                  have HR3 := Lib.hid hr; have HUS := Lib.hid hus
                  have HOW0 := Lib.hid OW0; have HA0 := Lib.hid hA0
                  have hsz0 : w3.heap.size ≤ (w3.alloc (.cells #[] 22)).heap.size := hA0.size
                  have j1' : (a : Int) ≤ cx := by omega
                  have j2' : (0 : Int) ≤ a := by omega
                  have j3' : (a : Int) ≤ a := by omega
                  clear hown hr hus hov hone OW0 hA0
                  go_wp2_with (at_builtin; refine wpList_appVals _ rfl _ _ 40 22 (.slice none 0 0) 24 rfl w3.heap.size j1 Try.underlying40 hi1 ky0 ky1 ky2 rfl (by decide) _ 0 _ rfl HOW0.out _ P1 rfl HVT.out HONE1.out (by rw [HTL.out]; omega) hsz0 ?_)
                  intro A4 c4 w4 hown4 hgrow4
                  have hb4 : Below w3.heap.size w3 w4 := hgrow4.below HOW0.out HA0.out (Nat.le_refl _) hsz0
                  rw [HTL.out] at hown4
                  rw [HTL.out]
                  have hs4 := hb4.size
                  have hown4' : w4.ownsRow w3.heap.size 22 1 (.slice A4 a c4) a P1 := by simpa using hown4
                  have HOW4 := Lib.hid hown4'; have HB4 := Lib.hid hb4
                  clear hown4 hgrow4 hb4 hown4'
                  go_wp2_with (at_builtin; refine wpList_app1g _ rfl _ _ 40 rfl w3.heap.size 22 j1 (.slice none 0 0) 24 Try.underlying40 hi1 ky0 ky1 ky2 rfl _ a _ rfl HOW4.out _ rfl rfl (by omega) (by omega) hs4 ?_)
                  intro A5 c5 w5 hown5 hgrow5
                  have hb5 : Below w3.heap.size w3 w5 := hgrow5.below HOW4.out HB4.out (Nat.le_refl _) hs4
                  have hs5 := hb5.size
                  have HOW5 := Lib.hid hown5; have HB5 := Lib.hid hb5
                  clear hown5 hgrow5 hb5
                  go_wp2_with (at_builtin; refine wpList_appVals _ rfl _ _ 40 22 (.slice none 0 0) 24 rfl w3.heap.size j1 Try.underlying40 hi1 ky0 ky1 ky2 rfl (by decide) _ (a + 1) _ rfl HOW5.out _ P2 rfl (Or.inl ⟨HNIL.out, _, _, rfl⟩) HONE2.out (by have := HDL.out; have := HQ.out; omega) hs5 ?_)
                  all_goals
                    intro A6 c6 w6 hown6 hgrow6
                    have hb6 : Below w3.heap.size w3 w6 := hgrow6.below HOW5.out HB5.out (Nat.le_refl _) hs5
                    rw [HDL.out] at hown6 ⊢
                    have hown6' : w6.ownsRow w3.heap.size 22 1 (.slice A6 (O.length + 1) c6) (O.length + 1) (us.take a ++ [.slice Ap p cp] ++ us.drop a) := by rw [HP1.out, HP2.out]; simpa using hown6
                    have RO6 := Lib.hid (RowsOwn.ins (a := a) (T := T) (by rw [HQ.out]; exact haq) HUS.out (own_base hown6' (Nat.le_trans (HBW.out.size) HB3.out.size)) (fun i u L hu hL => own_below (HR3.out i u L hu hL) hb6 (Nat.le_refl _)) (by rw [HP.out]; exact own_base (own_below HROW3.out hb6 (Nat.le_refl _)) hsz))
                    have BW6 := Lib.hid ((HBW.out.trans (HB3.out.mono HBW.out.size)).trans (hb6.mono (Nat.le_trans HBW.out.size HB3.out.size)))
                    have up := HUP.out.step (at_ := a) HS.out (by rw [HL.out, HN.out]; exact HLT.out) (by rw [← HTS.out, HP.out]; exact HPK.out) (by rw [HQ.out]; exact haq) (by have := HPL.out; rw [← HTS.out]; omega) (by rw [← HTS.out, HQ.out]; exact HALL.out)
                    rw [← HTS.out] at up
                    have UP := Lib.hid up
                    have LEN : Hid ((O.take a ++ [T] ++ O.drop a).length ≤ m + 1) := Lib.hid (by have := HQ.out; simp; omega)
                    clear hown6 hown6' hgrow6 hb6 up
                    go_wp2_with fail
                    go_roundg (N - (m + 1))
                    case rel => exact ⟨m + 1, _, HLT.out, rfl, by go_num, RO6.out, UP.out, LEN.out, BW6.out⟩
                    case measure => have := HLT.out; omega
                · obtain ⟨b', off', u, hA', hc', hu⟩ := HRO2.out.lists.pos (i := a') (by rw [HQ.out]; omega)
                  subst hA'
                  have ea : (a : Int) - 1 = (a' : Nat) := by omega
                  have e1 : O.getD (a - 1) [] = O[a']'(by rw [HQ.out]; omega) := by
                    have h1 : a - 1 = a' := by omega
                    have h2 : a' < O.length := by rw [HQ.out]; omega
                    simp [List.getD, h1, h2]
                  obtain ⟨V, hV⟩ : ∃ V, O[a']'(by rw [HQ.out]; omega) = V := ⟨_, rfl⟩
                  rw [hV] at hu e1
                  have hVl : V.length ≤ 9 := by
                    obtain ⟨j, _, h2, h3⟩ := (HUP.out.mem V).1 (by rw [← hV]; exact List.getElem_mem _)
                    have := HPK.out
                    omega
                  have R := refCompare_any T V _ _ _ (own_seqC HROW2.out).1 hu.1 (by rw [HP.out]; omega) (by omega)
                  obtain ⟨x, hx⟩ : ∃ x, cmpL T V = x := ⟨_, rfl⟩
                  rw [hx] at R
                  have HR := Lib.hid R
                  have t4 : decide (0 < a) = true := decide_eq_true (by omega)
                  have t4' : decide ((0 : Int) < a) = true := decide_eq_true (by omega)
                  have i1 : (a' : Int) < a := by omega
                  have i2 : (0 : Int) ≤ a' := by omega
                  have i3 : a ≤ 512 := by omega
                  have HXV : Hid (cmpL T (O.getD (a - 1) []) = x) := Lib.hid (by rw [e1, hx])
                  have HA1 := Lib.hid ha1
                  clear hV R hx e1 hu hVl ha1
                  go_wp2_with fail
                  refine HR.out.mono ?_; rintro e w3' ⟨rfl, d, hw3⟩
                  have HB3 := Lib.hid (below_drewN' HB2.out d)
                  have HRO3 := Lib.hid (HRO2.out.below (below_drewN' (Below.refl _ _) d) (Nat.le_refl _))
                  have HROW3 := Lib.hid (own_below HROW2.out (below_drewN' (Below.refl _ _) d) (Nat.le_refl _))
                  rw [← hw3] at HB3 HRO3 HROW3
                  obtain ⟨w3, rfl⟩ : ∃ z, z = w3' := ⟨_, rfl⟩
                  clear hw3
                  by_cases hx0 : x < 0
                  · have t5 : decide (x < 0) = true := decide_eq_true hx0
                    have HX0 := Lib.hid hx0
                    clear hx0
                    go_wp2_with fail
                    go_roundg a'
                    case rel =>
                      refine ⟨a', by have := HA1.out; omega, rfl, by go_num, fun i h1 h2 => ?_, HB3.out⟩
                      rcases (by have := HA1.out; omega : i = a - 1 ∨ a ≤ i) with rfl | h3
                      · rw [HXV.out]; exact HX0.out
                      · exact HALL.out i h3 h2
                    case measure => have := HA1.out; omega
                  · have t5 : decide (x < 0) = false := decide_eq_false hx0
                    have HPL : Hid (a = 0 ∨ ¬ cmpL T (O.getD (a - 1) []) < 0) := Lib.hid (Or.inr (by rw [HXV.out]; exact hx0))
                    clear hx0
                    obtain ⟨us, hown, hr⟩ := HRO3.out
                    have hus : us.length = O.length := by have := hown.1; simpa using this
                    have hcx := (own_capI hown).2
                    have hov := own_vals hown
                    have hone : ∀ y, y ∈ us → y.oneCell' = true := by
                      intro y hy
                      obtain ⟨j, hj, rfl⟩ := List.getElem_of_mem hy
                      obtain ⟨_, _, e⟩ := own_form (hr j _ _ (List.getElem?_eq_getElem hj) (List.getElem?_eq_getElem (by omega)))
                      rw [e]; rfl
                    have HONE1 : Hid (∀ y, y ∈ us.take a → y.oneCell' = true) := Lib.hid (fun y hy => hone y (List.take_subset _ _ hy))
                    have HONE2 : Hid (∀ y, y ∈ us.drop a → y.oneCell' = true) := Lib.hid (fun y hy => hone y (List.drop_subset _ _ hy))
                    have HTL : Hid ((us.take a).length = a) := Lib.hid (by rw [List.length_take, hus, HQ.out]; omega)
                    have HDL : Hid (a + 1 + (us.drop a).length = O.length + 1) := Lib.hid (by rw [List.length_drop, hus, HQ.out]; omega)
                    have OW0 := World.ownsRow_lit (base := w3.heap.size) (e := 22) (size := 1) w3 #[] 0 (Nat.le_refl _) (by unfold maxLen; omega) rfl
                    have hA0 : Below w3.heap.size w3 (w3.alloc (.cells #[] 22)) := (Below.refl _ _).alloc (Nat.le_refl _) _
                    have HVT := Lib.hid ((vals_take hov a haq).below hA0 (Nat.le_refl _))
                    have HNIL : Hid (us.drop a = []) := Lib.hid (List.drop_of_length_le (by rw [hus, HQ.out]; omega))
                    obtain ⟨P1, hP1⟩ : ∃ P, us.take a = P := ⟨_, rfl⟩
                    obtain ⟨P2, hP2⟩ : ∃ P, us.drop a = P := ⟨_, rfl⟩
                    rw [hP1] at HVT HONE1 HTL
                    rw [hP2] at HONE2 HDL HNIL
                    have HP1 := Lib.hid hP1; have HP2 := Lib.hid hP2
                    clear hP1 hP2
                    have HR3 := Lib.hid hr; have HUS := Lib.hid hus
                    have HOW0 := Lib.hid OW0; have HA0 := Lib.hid hA0
                    have hsz0 : w3.heap.size ≤ (w3.alloc (.cells #[] 22)).heap.size := hA0.size
                    have j1' : (a : Int) ≤ cx := by omega
                    have j2' : (0 : Int) ≤ a := by omega
                    have j3' : (a : Int) ≤ a := by omega
                    clear hown hr hus hov hone OW0 hA0
                    go_wp2_with (at_builtin; refine wpList_appVals _ rfl _ _ 40 22 (.slice none 0 0) 24 rfl w3.heap.size j1 Try.underlying40 hi1 ky0 ky1 ky2 rfl (by decide) _ 0 _ rfl HOW0.out _ P1 rfl HVT.out HONE1.out (by rw [HTL.out]; omega) hsz0 ?_)
                    intro A4 c4 w4 hown4 hgrow4
                    have hb4 : Below w3.heap.size w3 w4 := hgrow4.below HOW0.out HA0.out (Nat.le_refl _) hsz0
                    rw [HTL.out] at hown4
                    rw [HTL.out]
                    have hs4 := hb4.size
                    have hown4' : w4.ownsRow w3.heap.size 22 1 (.slice A4 a c4) a P1 := by simpa using hown4
                    have HOW4 := Lib.hid hown4'; have HB4 := Lib.hid hb4
                    clear hown4 hgrow4 hb4 hown4'
                    go_wp2_with (at_builtin; refine wpList_app1g _ rfl _ _ 40 rfl w3.heap.size 22 j1 (.slice none 0 0) 24 Try.underlying40 hi1 ky0 ky1 ky2 rfl _ a _ rfl HOW4.out _ rfl rfl (by omega) (by omega) hs4 ?_)
                    intro A5 c5 w5 hown5 hgrow5
                    have hb5 : Below w3.heap.size w3 w5 := hgrow5.below HOW4.out HB4.out (Nat.le_refl _) hs4
                    have hs5 := hb5.size
                    have HOW5 := Lib.hid hown5; have HB5 := Lib.hid hb5
                    clear hown5 hgrow5 hb5
                    go_wp2_with (at_builtin; refine wpList_appVals _ rfl _ _ 40 22 (.slice none 0 0) 24 rfl w3.heap.size j1 Try.underlying40 hi1 ky0 ky1 ky2 rfl (by decide) _ (a + 1) _ rfl HOW5.out _ P2 rfl (Or.inl ⟨HNIL.out, _, _, rfl⟩) HONE2.out (by have := HDL.out; have := HQ.out; omega) hs5 ?_)
                    all_goals
                      intro A6 c6 w6 hown6 hgrow6
                      have hb6 : Below w3.heap.size w3 w6 := hgrow6.below HOW5.out HB5.out (Nat.le_refl _) hs5
                      rw [HDL.out] at hown6 ⊢
                      have hown6' : w6.ownsRow w3.heap.size 22 1 (.slice A6 (O.length + 1) c6) (O.length + 1) (us.take a ++ [.slice Ap p cp] ++ us.drop a) := by rw [HP1.out, HP2.out]; simpa using hown6
                      have RO6 := Lib.hid (RowsOwn.ins (a := a) (T := T) (by rw [HQ.out]; exact haq) HUS.out (own_base hown6' (Nat.le_trans (HBW.out.size) HB3.out.size)) (fun i u L hu hL => own_below (HR3.out i u L hu hL) hb6 (Nat.le_refl _)) (by rw [HP.out]; exact own_base (own_below HROW3.out hb6 (Nat.le_refl _)) hsz))
                      have BW6 := Lib.hid ((HBW.out.trans (HB3.out.mono HBW.out.size)).trans (hb6.mono (Nat.le_trans HBW.out.size HB3.out.size)))
                      have up := HUP.out.step (at_ := a) HS.out (by rw [HL.out, HN.out]; exact HLT.out) (by rw [← HTS.out, HP.out]; exact HPK.out) (by rw [HQ.out]; exact haq) (by have := HPL.out; rw [← HTS.out]; omega) (by rw [← HTS.out, HQ.out]; exact HALL.out)
                      rw [← HTS.out] at up
                      have UP := Lib.hid up
                      have LEN : Hid ((O.take a ++ [T] ++ O.drop a).length ≤ m + 1) := Lib.hid (by have := HQ.out; simp; omega)
                      clear hown6 hown6' hgrow6 hb6 up
                      go_wp2_with fail
                      go_roundg (N - (m + 1))
                      case rel => exact ⟨m + 1, _, HLT.out, rfl, by go_num, RO6.out, UP.out, LEN.out, BW6.out⟩
                      case measure => have := HLT.out; omega
              · obtain ⟨b, off, uu, hA, hcu, _⟩ := HRO2.out.lists.pos (i := a) (by rw [HQ.out]; exact hqa)
                subst hA
                have hend : (a = 0) ∨ (∃ a', a = a' + 1) := by cases a with | zero => exact Or.inl rfl | succ n => exact Or.inr ⟨n, rfl⟩
                rcases hend with ha0 | ⟨a', ha1⟩
                · have t4 : decide (0 < a) = false := decide_eq_false (by omega)
                  have t4' : decide ((0 : Int) < a) = false := decide_eq_false (by omega)
                  have HPL : Hid (a = 0 ∨ ¬ cmpL T (O.getD (a - 1) []) < 0) := Lib.hid (Or.inl ha0)
                  have HRO3 := HRO2; have HROW3 := HROW2; have HB3 := HB2
                  obtain ⟨w3, rfl⟩ : ∃ z, z = wr := ⟨_, rfl⟩
                  clear ha0
                  obtain ⟨us, hown, hr⟩ := HRO3.out
                  have hus : us.length = O.length := by have := hown.1; simpa using this
                  have hcx := (own_capI hown).2
                  have hov := own_vals hown
                  have hone : ∀ y, y ∈ us → y.oneCell' = true := by
                    intro y hy
                    obtain ⟨j, hj, rfl⟩ := List.getElem_of_mem hy
                    obtain ⟨_, _, e⟩ := own_form (hr j _ _ (List.getElem?_eq_getElem hj) (List.getElem?_eq_getElem (by omega)))
                    rw [e]; rfl
                  have HONE1 : Hid (∀ y, y ∈ us.take a → y.oneCell' = true) := Lib.hid (fun y hy => hone y (List.take_subset _ _ hy))
                  have HONE2 : Hid (∀ y, y ∈ us.drop a → y.oneCell' = true) := Lib.hid (fun y hy => hone y (List.drop_subset _ _ hy))
                  have HTL : Hid ((us.take a).length = a) := Lib.hid (by rw [List.length_take, hus, HQ.out]; omega)
                  have HDL : Hid (a + 1 + (us.drop a).length = O.length + 1) := Lib.hid (by rw [List.length_drop, hus, HQ.out]; omega)
                  have OW0 := World.ownsRow_lit (base := w3.heap.size) (e := 22) (size := 1) w3 #[] 0 (Nat.le_refl _) (by unfold maxLen; omega) rfl
                  have hA0 : Below w3.heap.size w3 (w3.alloc (.cells #[] 22)) := (Below.refl _ _).alloc (Nat.le_refl _) _
                  have HVT := Lib.hid ((vals_take hov a haq).below hA0 (Nat.le_refl _))
                  have HVD := Lib.hid (vals_drop hov a haq)
                  have hck : ¬ cx = a := by omega
                  obtain ⟨P1, hP1⟩ : ∃ P, us.take a = P := ⟨_, rfl⟩
                  obtain ⟨P2, hP2⟩ : ∃ P, us.drop a = P := ⟨_, rfl⟩
                  rw [hP1] at HVT HONE1 HTL
                  rw [hP2] at HONE2 HDL HVD
                  have HP1 := Lib.hid hP1; have HP2 := Lib.hid hP2
                  clear hP1 hP2
                  have HR3 := Lib.hid hr; have HUS := Lib.hid hus
                  have HOW0 := Lib.hid OW0; have HA0 := Lib.hid hA0
                  have hsz0 : w3.heap.size ≤ (w3.alloc (.cells #[] 22)).heap.size := hA0.size
                  have j1' : (a : Int) ≤ cx := by omega
                  have j2' : (0 : Int) ≤ a := by omega
                  have j3' : (a : Int) ≤ q := by omega
                  clear hown hr hus hov hone OW0 hA0
                  go_wp2_with (at_builtin; refine wpList_appVals _ rfl _ _ 40 22 (.slice none 0 0) 24 rfl w3.heap.size j1 Try.underlying40 hi1 ky0 ky1 ky2 rfl (by decide) _ 0 _ rfl HOW0.out _ P1 rfl HVT.out HONE1.out (by rw [HTL.out]; omega) hsz0 ?_)
                  intro A4 c4 w4 hown4 hgrow4
                  have hb4 : Below w3.heap.size w3 w4 := hgrow4.below HOW0.out HA0.out (Nat.le_refl _) hsz0
                  rw [HTL.out] at hown4
                  rw [HTL.out]
                  have hs4 := hb4.size
                  have hown4' : w4.ownsRow w3.heap.size 22 1 (.slice A4 a c4) a P1 := by simpa using hown4
                  have HOW4 := Lib.hid hown4'; have HB4 := Lib.hid hb4
                  clear hown4 hgrow4 hb4 hown4'
                  go_wp2_with (at_builtin; refine wpList_app1g _ rfl _ _ 40 rfl w3.heap.size 22 j1 (.slice none 0 0) 24 Try.underlying40 hi1 ky0 ky1 ky2 rfl _ a _ rfl HOW4.out _ rfl rfl (by omega) (by omega) hs4 ?_)
                  intro A5 c5 w5 hown5 hgrow5
                  have hb5 : Below w3.heap.size w3 w5 := hgrow5.below HOW4.out HB4.out (Nat.le_refl _) hs4
                  have hs5 := hb5.size
                  have HOW5 := Lib.hid hown5; have HB5 := Lib.hid hb5
                  clear hown5 hgrow5 hb5
                  have HVD5 := Lib.hid (HVD.out.below HB5.out (Nat.le_refl _))
                  go_wp2_with (at_builtin; refine wpList_appVals _ rfl _ _ 40 22 (.slice none 0 0) 24 rfl w3.heap.size j1 Try.underlying40 hi1 ky0 ky1 ky2 rfl (by decide) _ (a + 1) _ rfl HOW5.out _ P2 rfl HVD5.out HONE2.out (by have := HDL.out; have := HQ.out; omega) hs5 ?_)
                  all_goals
                    intro A6 c6 w6 hown6 hgrow6
                    have hb6 : Below w3.heap.size w3 w6 := hgrow6.below HOW5.out HB5.out (Nat.le_refl _) hs5
                    rw [HDL.out] at hown6 ⊢
                    have hown6' : w6.ownsRow w3.heap.size 22 1 (.slice A6 (O.length + 1) c6) (O.length + 1) (us.take a ++ [.slice Ap p cp] ++ us.drop a) := by rw [HP1.out, HP2.out]; simpa using hown6
                    have RO6 := Lib.hid (RowsOwn.ins (a := a) (T := T) (by rw [HQ.out]; exact haq) HUS.out (own_base hown6' (Nat.le_trans (HBW.out.size) HB3.out.size)) (fun i u L hu hL => own_below (HR3.out i u L hu hL) hb6 (Nat.le_refl _)) (by rw [HP.out]; exact own_base (own_below HROW3.out hb6 (Nat.le_refl _)) hsz))
                    have BW6 := Lib.hid ((HBW.out.trans (HB3.out.mono HBW.out.size)).trans (hb6.mono (Nat.le_trans HBW.out.size HB3.out.size)))
                    have up := HUP.out.step (at_ := a) HS.out (by rw [HL.out, HN.out]; exact HLT.out) (by rw [← HTS.out, HP.out]; exact HPK.out) (by rw [HQ.out]; exact haq) (by have := HPL.out; rw [← HTS.out]; omega) (by rw [← HTS.out, HQ.out]; exact HALL.out)
                    rw [← HTS.out] at up
                    have UP := Lib.hid up
                    have LEN : Hid ((O.take a ++ [T] ++ O.drop a).length ≤ m + 1) := Lib.hid (by have := HQ.out; simp; omega)
                    clear hown6 hown6' hgrow6 hb6 up
                    go_wp2_with fail
                    go_roundg (N - (m + 1))
                    case rel => exact ⟨m + 1, _, HLT.out, rfl, by go_num, RO6.out, UP.out, LEN.out, BW6.out⟩
                    case measure => have := HLT.out; omega
                · obtain ⟨b', off', u, hA', hc', hu⟩ := HRO2.out.lists.pos (i := a') (by rw [HQ.out]; omega)
                  injection hA' with hA'; injection hA' with hb' ho'; subst hb' ho'
                  have ea : (a : Int) - 1 = (a' : Nat) := by omega
                  have e1 : O.getD (a - 1) [] = O[a']'(by rw [HQ.out]; omega) := by
                    have h1 : a - 1 = a' := by omega
                    have h2 : a' < O.length := by rw [HQ.out]; omega
                    simp [List.getD, h1, h2]
                  obtain ⟨V, hV⟩ : ∃ V, O[a']'(by rw [HQ.out]; omega) = V := ⟨_, rfl⟩
                  rw [hV] at hu e1
                  have hVl : V.length ≤ 9 := by
                    obtain ⟨j, _, h2, h3⟩ := (HUP.out.mem V).1 (by rw [← hV]; exact List.getElem_mem _)
                    have := HPK.out
                    omega
                  have R := refCompare_any T V _ _ _ (own_seqC HROW2.out).1 hu.1 (by rw [HP.out]; omega) (by omega)
                  obtain ⟨x, hx⟩ : ∃ x, cmpL T V = x := ⟨_, rfl⟩
                  rw [hx] at R
                  have HR := Lib.hid R
                  have t4 : decide (0 < a) = true := decide_eq_true (by omega)
                  have t4' : decide ((0 : Int) < a) = true := decide_eq_true (by omega)
                  have i1 : (a' : Int) < q := by omega
                  have i2 : (0 : Int) ≤ a' := by omega
                  have i3 : a ≤ 512 := by omega
                  have HXV : Hid (cmpL T (O.getD (a - 1) []) = x) := Lib.hid (by rw [e1, hx])
                  have HA1 := Lib.hid ha1
                  clear hV R hx e1 hu hVl ha1
                  go_wp2_with fail
                  refine HR.out.mono ?_; rintro e w3' ⟨rfl, d, hw3⟩
                  have HB3 := Lib.hid (below_drewN' HB2.out d)
                  have HRO3 := Lib.hid (HRO2.out.below (below_drewN' (Below.refl _ _) d) (Nat.le_refl _))
                  have HROW3 := Lib.hid (own_below HROW2.out (below_drewN' (Below.refl _ _) d) (Nat.le_refl _))
                  rw [← hw3] at HB3 HRO3 HROW3
                  obtain ⟨w3, rfl⟩ : ∃ z, z = w3' := ⟨_, rfl⟩
                  clear hw3
                  by_cases hx0 : x < 0
                  · have t5 : decide (x < 0) = true := decide_eq_true hx0
                    have HX0 := Lib.hid hx0
                    clear hx0
                    go_wp2_with fail
                    go_roundg a'
                    case rel =>
                      refine ⟨a', by have := HA1.out; omega, rfl, by go_num, fun i h1 h2 => ?_, HB3.out⟩
                      rcases (by have := HA1.out; omega : i = a - 1 ∨ a ≤ i) with rfl | h3
                      · rw [HXV.out]; exact HX0.out
                      · exact HALL.out i h3 h2
                    case measure => have := HA1.out; omega
                  · have t5 : decide (x < 0) = false := decide_eq_false hx0
                    have HPL : Hid (a = 0 ∨ ¬ cmpL T (O.getD (a - 1) []) < 0) := Lib.hid (Or.inr (by rw [HXV.out]; exact hx0))
                    clear hx0
                    obtain ⟨us, hown, hr⟩ := HRO3.out
                    have hus : us.length = O.length := by have := hown.1; simpa using this
                    have hcx := (own_capI hown).2
                    have hov := own_vals hown
                    have hone : ∀ y, y ∈ us → y.oneCell' = true := by
                      intro y hy
                      obtain ⟨j, hj, rfl⟩ := List.getElem_of_mem hy
                      obtain ⟨_, _, e⟩ := own_form (hr j _ _ (List.getElem?_eq_getElem hj) (List.getElem?_eq_getElem (by omega)))
                      rw [e]; rfl
                    have HONE1 : Hid (∀ y, y ∈ us.take a → y.oneCell' = true) := Lib.hid (fun y hy => hone y (List.take_subset _ _ hy))
                    have HONE2 : Hid (∀ y, y ∈ us.drop a → y.oneCell' = true) := Lib.hid (fun y hy => hone y (List.drop_subset _ _ hy))
                    have HTL : Hid ((us.take a).length = a) := Lib.hid (by rw [List.length_take, hus, HQ.out]; omega)
                    have HDL : Hid (a + 1 + (us.drop a).length = O.length + 1) := Lib.hid (by rw [List.length_drop, hus, HQ.out]; omega)
                    have OW0 := World.ownsRow_lit (base := w3.heap.size) (e := 22) (size := 1) w3 #[] 0 (Nat.le_refl _) (by unfold maxLen; omega) rfl
                    have hA0 : Below w3.heap.size w3 (w3.alloc (.cells #[] 22)) := (Below.refl _ _).alloc (Nat.le_refl _) _
                    have HVT := Lib.hid ((vals_take hov a haq).below hA0 (Nat.le_refl _))
                    have HVD := Lib.hid (vals_drop hov a haq)
                    have hck : ¬ cx = a := by omega
                    obtain ⟨P1, hP1⟩ : ∃ P, us.take a = P := ⟨_, rfl⟩
                    obtain ⟨P2, hP2⟩ : ∃ P, us.drop a = P := ⟨_, rfl⟩
                    rw [hP1] at HVT HONE1 HTL
                    rw [hP2] at HONE2 HDL HVD
                    have HP1 := Lib.hid hP1; have HP2 := Lib.hid hP2
                    clear hP1 hP2
                    have HR3 := Lib.hid hr; have HUS := Lib.hid hus
                    have HOW0 := Lib.hid OW0; have HA0 := Lib.hid hA0
                    have hsz0 : w3.heap.size ≤ (w3.alloc (.cells #[] 22)).heap.size := hA0.size
                    have j1' : (a : Int) ≤ cx := by omega
                    have j2' : (0 : Int) ≤ a := by omega
                    have j3' : (a : Int) ≤ q := by omega
                    clear hown hr hus hov hone OW0 hA0
                    go_wp2_with (at_builtin; refine wpList_appVals _ rfl _ _ 40 22 (.slice none 0 0) 24 rfl w3.heap.size j1 Try.underlying40 hi1 ky0 ky1 ky2 rfl (by decide) _ 0 _ rfl HOW0.out _ P1 rfl HVT.out HONE1.out (by rw [HTL.out]; omega) hsz0 ?_)
                    intro A4 c4 w4 hown4 hgrow4
                    have hb4 : Below w3.heap.size w3 w4 := hgrow4.below HOW0.out HA0.out (Nat.le_refl _) hsz0
                    rw [HTL.out] at hown4
                    rw [HTL.out]
                    have hs4 := hb4.size
                    have hown4' : w4.ownsRow w3.heap.size 22 1 (.slice A4 a c4) a P1 := by simpa using hown4
                    have HOW4 := Lib.hid hown4'; have HB4 := Lib.hid hb4
                    clear hown4 hgrow4 hb4 hown4'
                    go_wp2_with (at_builtin; refine wpList_app1g _ rfl _ _ 40 rfl w3.heap.size 22 j1 (.slice none 0 0) 24 Try.underlying40 hi1 ky0 ky1 ky2 rfl _ a _ rfl HOW4.out _ rfl rfl (by omega) (by omega) hs4 ?_)
                    intro A5 c5 w5 hown5 hgrow5
                    have hb5 : Below w3.heap.size w3 w5 := hgrow5.below HOW4.out HB4.out (Nat.le_refl _) hs4
                    have hs5 := hb5.size
                    have HOW5 := Lib.hid hown5; have HB5 := Lib.hid hb5
                    clear hown5 hgrow5 hb5
                    have HVD5 := Lib.hid (HVD.out.below HB5.out (Nat.le_refl _))
                    go_wp2_with (at_builtin; refine wpList_appVals _ rfl _ _ 40 22 (.slice none 0 0) 24 rfl w3.heap.size j1 Try.underlying40 hi1 ky0 ky1 ky2 rfl (by decide) _ (a + 1) _ rfl HOW5.out _ P2 rfl HVD5.out HONE2.out (by have := HDL.out; have := HQ.out; omega) hs5 ?_)
                    all_goals
                      intro A6 c6 w6 hown6 hgrow6
                      have hb6 : Below w3.heap.size w3 w6 := hgrow6.below HOW5.out HB5.out (Nat.le_refl _) hs5
                      rw [HDL.out] at hown6 ⊢
                      have hown6' : w6.ownsRow w3.heap.size 22 1 (.slice A6 (O.length + 1) c6) (O.length + 1) (us.take a ++ [.slice Ap p cp] ++ us.drop a) := by rw [HP1.out, HP2.out]; simpa using hown6
                      have RO6 := Lib.hid (RowsOwn.ins (a := a) (T := T) (by rw [HQ.out]; exact haq) HUS.out (own_base hown6' (Nat.le_trans (HBW.out.size) HB3.out.size)) (fun i u L hu hL => own_below (HR3.out i u L hu hL) hb6 (Nat.le_refl _)) (by rw [HP.out]; exact own_base (own_below HROW3.out hb6 (Nat.le_refl _)) hsz))
                      have BW6 := Lib.hid ((HBW.out.trans (HB3.out.mono HBW.out.size)).trans (hb6.mono (Nat.le_trans HBW.out.size HB3.out.size)))
                      have up := HUP.out.step (at_ := a) HS.out (by rw [HL.out, HN.out]; exact HLT.out) (by rw [← HTS.out, HP.out]; exact HPK.out) (by rw [HQ.out]; exact haq) (by have := HPL.out; rw [← HTS.out]; omega) (by rw [← HTS.out, HQ.out]; exact HALL.out)
                      rw [← HTS.out] at up
                      have UP := Lib.hid up
                      have LEN : Hid ((O.take a ++ [T] ++ O.drop a).length ≤ m + 1) := Lib.hid (by have := HQ.out; simp; omega)
                      clear hown6 hown6' hgrow6 hb6 up
                      go_wp2_with fail
                      go_roundg (N - (m + 1))
                      case rel => exact ⟨m + 1, _, HLT.out, rfl, by go_num, RO6.out, UP.out, LEN.out, BW6.out⟩
                      case measure => have := HLT.out; omega
          · have t3 : ((p : Int) != k) = true := by simp [hpk]
            have HPK := Lib.hid hpk
            clear hpk
            go_wp2_with fail
            go_roundg (N - (m + 1))
            case rel => exact ⟨m + 1, O, HLT.out, rfl, by go_num, by have h := HRO.out; rw [← HQ.out] at h ⊢; exact h, HUP.out.skip (by rw [← HTS.out, HP.out]; exact HPK.out), by rw [HQ.out]; omega, HBW.out⟩
            case measure => have := HLT.out; omega
    · obtain rfl : m = N := by omega
      have t1 : decide (m < m) = false := by simp
      have t1' : decide ((m : Int) < m) = false := by simp
      clear hlt
      go_wp2_with fail
      go_ret
      have h := HOWN.out
      rw [← HQ.out] at h
      exact ⟨_, O, rfl, HUP.out, by rw [← HQ.out]; exact h.lists, HB.out⟩
end Go.Proofs.Ytploaffmhemjkaa
