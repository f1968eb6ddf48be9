/- NetNumbers. -/
import Derived.Test.YtbecgfeoacncdaaDoorNumbP
import Derived.Test.YtbecgfeoacncdaaDoorArg19
namespace Go.Proofs.YtbecgfeoacncdaaDoor
open Go.RowKit

theorem Tryd.infoIN : (Tryd.prog.info? 3).map (fun i => (i.zero, i.size, i.bytes)) = some (some (.int .i64 0), 1, 8) := by kernel_rfl
theorem make16 (V : World) : (Instr.makeSlice 55 (.int .i64 16) (.int .i64 16)).run Tryd.prog V = .ok (.slice (some ⟨V.heap.size, 0, none⟩) 16 16) (V.alloc (.cells (Array.replicate 16 (.int .i64 0)) 3)) := by
  obtain ⟨i0, hi0, hz0, hz1, hz2⟩ := info_parts Tryd.infoIN
  have h := run_makeSlice (P := Tryd.prog) V 55 3 i0 (.int .i64 0) Tryd.underlying55 hi0 hz0 .i64 .i64 16 16 (by decide) (by decide) (by rw [hz1]; decide) (by rw [hz2]; decide) (by decide)
  rw [hz1] at h
  have e : madeCells (Value.int .i64 0).cells (Int.toNat 16 * 1) = Array.replicate 16 (.int .i64 0) := by
    apply Array.ext
    · simp [madeCells]
    · intro i h1 h2
      simp [madeCells, Value.cells, Nat.mod_one]
  rw [h, e]
  rfl
/-- What was sent so far, as the table tells it. -/
def tabOf (n : NetP) (j : Nat) : Int := n.sent ((j / 4 : Nat) : Int) ((j % 4 : Nat) : Int)
theorem tab_send (n : NetP) (x : ByteArray) {t s : Nat} (hs : s < 4) (j : Nat) : tabOf (sendP n t s x) j = if j = 4 * t + s then (n.sent t s : Int) + 1 else tabOf n j := by
  unfold tabOf sendP
  simp only
  by_cases h : j = 4 * t + s
  · rw [if_pos h, if_pos (by omega)]
    rfl
  · rw [if_neg h, if_neg (by omega)]
theorem TabAt.put {w : World} {st : Nat} {f g : Nat → Int} (h : TabAt w st f) {J : Nat} (hJ : J < 16) (u : Int) (hg : ∀ j, j < 16 → g j = if j = J then u else f j) : TabAt (w.setCell ⟨st, J, none⟩ (.int .i64 u)) st g := by
  refine ⟨Nat.lt_of_lt_of_le h.1 (grown_cell w st J _).size, fun j hj => ⟨?_, ?_⟩⟩
  · rw [hg j hj]
    by_cases e : j = J
    · subst e
      rw [if_pos rfl]
      exact World.cell?_setCell_same w _ _ (h.2 j hj).1
    · rw [if_neg e, ← (h.2 j hj).1]
      exact World.cell?_setCell_other w _ _ _ (by intro e2; injection e2 with _ e3 _; exact e e3.symm)
  · rw [← (h.2 j hj).2]
    exact World.frozen?_setCell _ _ _ _
theorem app_last {S T : List Let} {l : Let} (h : T = S ++ [l]) {i : Nat} (hi : i = S.length) (hb : i < T.length) : T[i]'hb = l := by
  subst h hi
  simp
theorem app_old {S T : List Let} {l : Let} (h : T = S ++ [l]) {i : Nat} (hi : i < S.length) (hb : i < T.length) : T[i]'hb = S[i] := by
  subst h
  exact List.getElem_append_left hi
set_option maxRecDepth 100000 in
set_option maxHeartbeats 8000000 in
theorem numb_any {w : World} (hg : ErrT w) {v : Value} {S : List Let} (hS : LetsAt w v S) (hlen : S.length ≤ 9223372036854775807) :
    Calls Tryd.prog 6 #[v] w fun e w' => e = .returned (.bool true) ∧ Below w.heap.size w w' := by
  have AL := Lib.hid (alive_ok w hg)
  have HG := Lib.hid hg; have HS := Lib.hid hS; have HLEN := Lib.hid hlen
  obtain ⟨A, c, rfl, _⟩ := hS
  obtain ⟨n, hnn⟩ : ∃ n, S.length = n := ⟨_, rfl⟩
  have HN := Lib.hid hnn
  rw [hnn] at HS hlen ⊢
  clear hg hnn
  go_enter Tryd.func6, Tryd.ntmps6
  go_wp2_with fail
  refine AL.out.mono ?_
  rintro e w1 ⟨rfl, hb1⟩
  have FR := Lib.hid (far_any (HS.out.below hb1 (Nat.le_refl _)) HLEN.out)
  have HB1 := Lib.hid hb1
  clear hb1
  rw [HN.out] at FR
  go_wp2_with fail
  refine FR.out.mono ?_
  rintro e w2 ⟨z, rfl, hw, hz⟩
  obtain rfl := hw.symm
  have HZ := Lib.hid hz
  clear hz
  cases z with
  | true =>
    go_wp2_with fail
    go_ret
    exact ⟨rfl, HB1.out⟩
  | false =>
    obtain ⟨h60, hnear⟩ := HZ.out rfl
    have HNEAR := Lib.hid hnear
    have HNEW := Lib.hid (netNew_any 4 w1)
    clear hnear
    go_wp2_with fail
    refine HNEW.out.mono ?_
    rintro e w2 ⟨hb2, ⟨j, p, hj, _, _, rfl, hN⟩ | ⟨h0, _⟩⟩
    case inr => omega
    obtain rfl : j = 4 := by omega
    clear hj
    obtain ⟨b, mb, cb, v1, F1, G1, rfl, hN1⟩ := hN
    have hbt : Below w2.heap.size w2 (w2.alloc (.cells (Array.replicate 16 (.int .i64 0)) 3)) := (Below.refl _ _).alloc (Nat.le_refl _) _
    have htab : TabAt (w2.alloc (.cells (Array.replicate 16 (.int .i64 0)) 3)) w2.heap.size (tabOf (freshP 4)) := by
      have hW := Whole.new w2 3 (Array.replicate 16 (.int .i64 0))
      refine ⟨hW.lt, fun j hj => ⟨(hW.cell j).trans ?_, hW.free j⟩⟩
      simp [tabOf, freshP, hj]
    have hbs : Beside (w2.alloc (.cells (Array.replicate 16 (.int .i64 0)) 3)) b mb cb v1 w2.heap.size := ⟨by rw [World.size_alloc]; omega, fun k hk => by have := (hN1.foot hk).2; omega⟩
    have hN2 := hN1.below hbt (Nat.le_refl _)
    have hB2 := hb2.trans (hbt.mono hb2.size)
    obtain ⟨st, hst⟩ : ∃ B, w2.heap.size = B := ⟨_, rfl⟩
    rw [hst] at htab hbs
    have mk16 := make16
    have HT := Lib.hid htab; have HBS := Lib.hid hbs; have HN2 := Lib.hid hN2; have HB2 := Lib.hid hB2; have HSTB := Lib.hid hst; have HB20 := Lib.hid hb2.size
    clear htab hbs hN2 hB2 hbt hb2 hN1 hst
    go_wp2_with fail
    go_loopg [6, 7, 8] n (fun g fv av yv wr => ∃ (k al : Nat) (nn : NetP) (T : Int → Int → Int → ByteArray) (L : List Let) (vv : Value) (F G : Value → Option Value), k ≤ n ∧ g = n - k ∧ fv = .int .i64 (nn.fly.length : Nat) ∧ av = .int .i64 (al : Nat) ∧ yv = .int .i64 (k : Nat) ∧ al ≤ k ∧ nn.miss ≤ al ∧ NetIn wr w1.heap.size k nn b mb cb vv F G ∧ Good nn k ∧ Inv nn T L ∧ nn.k = 4 ∧ TabAt wr st (tabOf nn) ∧ Beside wr b mb cb vv st ∧ Below w1.heap.size w1 wr)
    case atStart => exact ⟨0, 0, _, _, _, _, _, _, Nat.zero_le _, rfl, rfl, rfl, rfl, Nat.le_refl _, Int.le_refl _, HN2.out, Good.fresh (by decide), Inv.fresh 4, rfl, HT.out, HBS.out, HB2.out⟩
    case round =>
      obtain ⟨k, al, nn, T, L, vv, F, G, hk, rfl, rfl, rfl, rfl, hal, hmal, hN, hG, hI, hk4, hT, hBS, hB⟩ := hrel
      obtain ⟨fl, hfl⟩ : ∃ q, nn.fly.length = q := ⟨_, rfl⟩
      have hflk : fl ≤ k := by rw [← hfl]; exact hG.fl
      rw [hfl]
      by_cases hlt : k < n
      · obtain ⟨sb, off, rfl, e0, e1, e2, e3⟩ := (HS.out.below (HB1.out.trans (hB.mono HB1.out.size)) (Nat.le_refl _)).pos (i := k) (by rw [HN.out]; exact hlt)
        obtain ⟨⟨f, t, s, x⟩, hl⟩ : ∃ l, S[k]'(by rw [HN.out]; exact hlt) = l := ⟨_, rfl⟩
        have hnr := HNEAR.out (S[k]'(by rw [HN.out]; exact hlt)) (List.getElem_mem _)
        rw [hl] at e0 e1 e2 e3 hnr
        simp only at e0 e1 e2 e3
        have hf1 : 0 ≤ f := hnr.1
        have hf2 : f ≤ 2 := hnr.2.1
        have hba : Below wr.heap.size wr (wr.alloc (.cells #[.int .i64 f, .int .i64 t, .int .i64 s, .string x] 37)) := (Below.refl _ _).alloc (Nat.le_refl _) _
        have hbox := Whole.new wr 37 #[.int .i64 f, .int .i64 t, .int .i64 s, .string x]
        have hNa := hN.below hba (Nat.le_refl _)
        have hBa := hB.trans (hba.mono hB.size)
        have hTa := hT.below hba
        have hBSa := hBS.below hba
        have hBSb : Beside (wr.alloc (.cells #[.int .i64 f, .int .i64 t, .int .i64 s, .string x] 37)) b mb cb vv wr.heap.size := ⟨hbox.lt, fun k hk => by have := (hN.foot hk).2; omega⟩
        obtain ⟨wa, hwa⟩ : ∃ W, wr.alloc (.cells #[.int .i64 f, .int .i64 t, .int .i64 s, .string x] 37) = W := ⟨_, rfl⟩
        rw [hwa] at hbox hNa hBa hTa hBSa hBSb
        have HDO := do_any hNa hG (by omega) (by omega) hBa.size (fun W hW => HG.out.below (HB1.out.trans ((hBa.trans hW).mono HB1.out.size)) (Nat.le_refl _)) f t s x
        rw [← hwa] at HDO
        have HDO := Lib.hid HDO
        have hsc := step_code nn f t s x
        have hms := step_miss nn f t s x
        have hsk := step_kinds (n := nn) (kind := f) (a := t) (c := s) (x := x)
        have HST := Lib.hid (hG.step (by omega) f t s x)
        have HIV := Lib.hid (hI.step f t s x)
        have hk4' : (stepP nn f t s x).1.k = 4 := by rw [stepP_k]; exact hk4
        obtain ⟨cd, hcd⟩ : ∃ m, (stepP nn f t s x).2 = m := ⟨_, rfl⟩
        rw [hcd] at HDO hsc hsk hms
        have HNA := Lib.hid hNa; have HBA := Lib.hid hBa; have HTA := Lib.hid hTa; have HBSA := Lib.hid hBSa; have HBSB := Lib.hid hBSb; have HBOX := Lib.hid hbox; have HWA := Lib.hid hwa; have HK4 := Lib.hid hk4'; have HLT := Lib.hid hlt; have HMAL := Lib.hid hmal; have HSC := Lib.hid hsc; have HSK := Lib.hid hsk; have HMS0 := Lib.hid hms; have HFL := Lib.hid hfl; have HIN := Lib.hid hI; have HGN := Lib.hid hG; have HK4N := Lib.hid hk4
        have t3 : decide (k < n) = true := decide_eq_true hlt
        have t3' : decide ((k : Int) < (n : Int)) = true := decide_eq_true (by omega)
        have i1 : (k : Int) < n := by omega
        have i2 : (0 : Int) ≤ k := by omega
        clear hN hG hI hk4 hk4' hB hT hBS hl hnr hba hbox hNa hBa hTa hBSa hBSb hwa hsc hsk hms hcd hmal hfl
        go_wp2_with fail
        refine HDO.out.mono ?_; rintro e w4 ⟨rfl, hl⟩
        rw [HWA.out] at hl
        have hb4 := hl.go HNA.out HBA.out.size
        obtain ⟨v4, F4, G4, hN4, hst⟩ := hl.besides
        have hT4 := HTA.out.stay (w' := w4) hb4.size (hst st HBSA.out).1
        have HB4 := Lib.hid (HBA.out.trans hb4); have HN4 := Lib.hid hN4; have HT4 := Lib.hid hT4; have HBS4 := Lib.hid (hst st HBSA.out).2; have HBX := Lib.hid (hst _ HBSB.out)
        clear hb4 hN4 hT4 hst
        rcases HSC.out with rfl | ⟨rfl, hsame⟩
        · have hq60 : (stepP nn f t s x).1.fly.length ≤ 1000000 := by have := HST.out.fl; omega
          have HFLY := flying_any ⟨b, mb, cb, v4, F4, G4, rfl, HN4.out⟩ hq60
          obtain ⟨hk0, hk1, hk2⟩ := HSK.out rfl
          obtain ⟨T', L', hI', hLl⟩ := HIV.out
          have b0 := hI'.miss0
          have bq := hI'.quiet
          have hMS := HMS0.out
          obtain ⟨nq, hnq⟩ : ∃ q, (stepP nn f t s x).1 = q := ⟨_, rfl⟩
          have HN4 := HN4.out; have HST := HST.out; have HK4 := HK4.out
          rw [hnq] at HFLY hk0 hk1 hk2 hI' b0 bq hMS HN4 HST HK4
          obtain ⟨m1, hm1⟩ : ∃ m, nq.miss = m := ⟨_, rfl⟩
          have HM1 := fun (W : World) (h : Below w4.heap.size w4 W) => missing_any ⟨b, mb, cb, v4, F4, G4, rfl, HN4.below h (Nat.le_refl _)⟩
          have HQ1 := fun (W : World) (h : Below w4.heap.size w4 W) => quiet_any ⟨b, mb, cb, v4, F4, G4, rfl, HN4.below h (Nat.le_refl _)⟩
          rw [hm1] at b0 bq hMS
          simp only [hm1] at HM1 HQ1
          have HM1 := Lib.hid HM1; have HQ1 := Lib.hid HQ1
          have HFLY := Lib.hid HFLY; have HN4 := Lib.hid HN4; have HST := Lib.hid HST; have HK4 := Lib.hid HK4; have HI' := Lib.hid hI'; have HM1E := Lib.hid hm1
          have HB0 := Lib.hid b0; have HBQ := Lib.hid bq; have HMS := Lib.hid hMS
          have HBOX4 : Hid (∀ j, w4.cell? ⟨wr.heap.size, j, none⟩ = (#[Value.int .i64 f, .int .i64 t, .int .i64 s, .string x] : Array Value)[j]?) := Lib.hid fun j => (World.cell?_of_block (a := ⟨wr.heap.size, j, none⟩) HBX.out.1).trans (HBOX.out.cell j)
          have HBL : wr.heap.size < w4.heap.size := HBX.out.2.1
          clear hnq hm1 hI' b0 bq hLl hq60 hMS
          rcases (by omega : f = 0 ∨ f = 1 ∨ f = 2) with rfl | rfl | rfl
          · obtain ⟨ht, hs, rfl⟩ := hk0 rfl
            clear hk1 hk2
            rw [HK4N.out] at ht hs
            obtain ⟨S5, hS5⟩ : ∃ S, (sendP nn t s x).fly = S := ⟨_, rfl⟩
            have hlen : S5.length = fl + 1 := by
              rw [← hS5, ← HFL.out]
              show (nn.fly ++ [_]).length = _
              rw [List.length_append]
              rfl
            obtain ⟨sq, hsq⟩ : ∃ q, nn.sent t s = q := ⟨_, rfl⟩
            have hsqk : sq ≤ k := by rw [← hsq]; exact HGN.out.sn t s
            have hS6 : S5 = nn.fly ++ [⟨t, s, sq, x⟩] := by rw [← hS5, ← hsq]; rfl
            have hA5 : ∀ h : fl < S5.length, S5[fl]'h = ⟨t, s, sq, x⟩ := fun h => app_last hS6 HFL.out.symm h
            have htb : (0 ≤ t ∧ t < 4) ∧ (0 ≤ s ∧ s < 4) := by
              unfold hasB at ht hs
              simp only [Bool.and_eq_true, decide_eq_true_eq] at ht hs
              omega
            obtain ⟨t', rfl⟩ : ∃ q : Nat, t = q := ⟨t.toNat, by omega⟩
            obtain ⟨s', rfl⟩ : ∃ q : Nat, s = q := ⟨s.toNat, by omega⟩
            obtain ⟨J, hJ⟩ : ∃ J, 4 * t' + s' = J := ⟨_, rfl⟩
            have ht4 : t' < 4 := by omega
            have hs4 : s' < 4 := by omega
            have HFLY := HFLY.out
            rw [hS5, hlen] at HFLY
            have HFLY := Lib.hid HFLY; have HLEN' := Lib.hid hlen; have HS5 := Lib.hid hS5; have HA5 := Lib.hid hA5; have HSQ := Lib.hid hsq; have HJ := Lib.hid hJ
            have hm1 : m1 ≤ al + 1 := by have := HMAL.out; have := (HMS.out.2 rfl).1 rfl; omega
            have htab := HT4.out.2 J (by omega)
            have htv : tabOf nn J = sq := by
              unfold tabOf
              rw [show J / 4 = t' by omega, show J % 4 = s' by omega, hsq]
            rw [htv, ← HSTB.out] at htab
            have HTB := Lib.hid htab
            have hstl : w2.heap.size < w4.heap.size := by rw [HSTB.out]; exact HBS4.out.1
            clear hlen hS5 hS6 hA5 ht hs hsq hJ htb htab htv
            go_wp2_with fail
            refine HFLY.out.mono ?_; rintro e w5 ⟨v5, rfl, ho, hb5⟩
            have hlf := own_lets ho
            obtain ⟨A5, c5, rfl⟩ := own_form ho
            have HB5 := Lib.hid hb5
            clear ho hb5
            have x0 : w5.cell? ⟨wr.heap.size, 0, none⟩ = some (.int .i64 0) := (HB5.out.cell (p := ⟨wr.heap.size, 0, none⟩) HBL).trans (HBOX4.out 0)
            have x1 := (HB5.out.cell (p := ⟨wr.heap.size, 1, none⟩) HBL).trans (HBOX4.out 1)
            have x2 := (HB5.out.cell (p := ⟨wr.heap.size, 2, none⟩) HBL).trans (HBOX4.out 2)
            have x3 := (HB5.out.cell (p := ⟨wr.heap.size, 3, none⟩) HBL).trans (HBOX4.out 3)
            simp only [List.getElem?_toArray, List.getElem?_cons_zero, List.getElem?_cons_succ] at x1 x2 x3
            obtain ⟨g, off, hA, d0, d1, d2, d3⟩ := hlf.pos (i := fl) (by rw [HLEN'.out]; omega)
            subst hA
            rw [HA5.out] at d0 d1 d2 d3
            simp only at d0 d1 d2 d3
            have y0 := (HB5.out.cell (p := ⟨w2.heap.size, J, none⟩) hstl).trans HTB.out.1
            have y1 := (HB5.out.frozen (p := ⟨w2.heap.size, J, none⟩) hstl).trans HTB.out.2
            clear hlf
            have HMB : Hid (0 ≤ m1 ∧ m1 ≤ al + 1) := Lib.hid ⟨HB0.out, hm1⟩
            have hj1 : (4 * (t' : Int) + s') = (J : Int) := by rw [← HJ.out]; omega
            have hJ16 : J < 16 := by have := HJ.out; omega
            have e1 : ((t' : Int) != (t' : Int)) = false := by simp
            have e2 : ((s' : Int) != (s' : Int)) = false := by simp
            have e3 : ((sq : Int) != (sq : Int)) = false := by simp
            have v0 := HB5.out.size
            go_wp2_with fail
            have HW6 := Whole.new w5 50 #[.int .i64 t', .int .i64 s', .int .i64 sq, .string x]
            have hb6 : Below w5.heap.size w5 (w5.alloc (.cells #[.int .i64 t', .int .i64 s', .int .i64 sq, .string x] 50)) := (Below.refl _ _).alloc (Nat.le_refl _) _
            obtain ⟨w6, hw6⟩ : ∃ W, w5.alloc (.cells #[.int .i64 t', .int .i64 s', .int .i64 sq, .string x] 50) = W := ⟨_, rfl⟩
            obtain ⟨xb, hxb⟩ : ∃ B, w5.heap.size = B := ⟨_, rfl⟩
            rw [hw6] at HW6 hb6
            rw [hxb] at HW6 hb6
            have u0 := (hb6.cell (p := ⟨wr.heap.size, 0, none⟩) (show wr.heap.size < xb by omega)).trans x0
            have u1 := (hb6.cell (p := ⟨wr.heap.size, 1, none⟩) (show wr.heap.size < xb by omega)).trans x1
            have u2 := (hb6.cell (p := ⟨wr.heap.size, 2, none⟩) (show wr.heap.size < xb by omega)).trans x2
            have u3 := (hb6.cell (p := ⟨wr.heap.size, 3, none⟩) (show wr.heap.size < xb by omega)).trans x3
            have t0 := (hb6.cell (p := ⟨w2.heap.size, J, none⟩) (show w2.heap.size < xb by omega)).trans y0
            have t1 := (hb6.frozen (p := ⟨w2.heap.size, J, none⟩) (show w2.heap.size < xb by omega)).trans y1
            have l0 : w6.cell? ⟨xb, 0, none⟩ = some (.int .i64 t') := HW6.cell 0
            have l1 : w6.cell? ⟨xb, 1, none⟩ = some (.int .i64 s') := HW6.cell 1
            have l2 : w6.cell? ⟨xb, 2, none⟩ = some (.int .i64 sq) := HW6.cell 2
            have l3 : w6.cell? ⟨xb, 3, none⟩ = some (.string x) := HW6.cell 3
            rw [hw6, hxb]
            have HB6 := Lib.hid (HB5.out.trans (hb6.mono (by rw [← hxb]; exact v0)))
            have HXB := Lib.hid hxb
            clear x0 x1 x2 x3 y0 y1 d0 d1 d2 d3 hw6 hxb hb6 HW6
            obtain ⟨q4, hq4⟩ : ∃ q, 4 * t' = q := ⟨_, rfl⟩
            have m1w : IntKind.i64.wrap (4 * (t' : Int)) = (q4 : Int) := by rw [← hq4, IntKind.wrap_i64] <;> omega
            have m2w : IntKind.i64.wrap ((q4 : Int) + (s' : Int)) = (J : Int) := by rw [← HJ.out, ← hq4, IntKind.wrap_i64] <;> omega
            clear hq4 hj1
            go_quiet (fail)
            obtain ⟨w7, hw7⟩ : ∃ W, w6.drewN nq = W := ⟨_, rfl⟩
            have U1 : (w6.drewN nq).cell? ⟨wr.heap.size, 1, none⟩ = _ := u1
            have U2 : (w6.drewN nq).cell? ⟨wr.heap.size, 2, none⟩ = _ := u2
            have T0 : (w6.drewN nq).cell? ⟨w2.heap.size, J, none⟩ = _ := t0
            have T1 : (w6.drewN nq).frozen? ⟨w2.heap.size, J, none⟩ = _ := t1
            have hb7 := below_drewN' HB6.out nq
            rw [hw7] at U1 U2 T0 T1 hb7 ⊢
            have HB7 := Lib.hid hb7
            have sw : IntKind.i64.wrap ((sq : Int) + 1) = (sq : Int) + 1 := by rw [IntKind.wrap_i64] <;> omega
            have jw1 : (0 : Int) ≤ J := by omega
            have jw2 : (J : Int) < 16 := by omega
            have HT0 := Lib.hid T0; have HT1 := Lib.hid T1
            clear u0 u1 u2 u3 t0 t1 l0 l1 l2 l3 hw7 hb7
            go_wp2_with fail
            have hfr : Fr w4.heap.size (fun q => q = st) w4 (w7.setCell ⟨w2.heap.size, J, none⟩ (.int .i64 ((sq : Int) + 1))) :=
              (Fr.of_below HB7.out (Nat.le_refl _)).trans (Fr.of_grown (grown_cell w7 w2.heap.size J _) HB7.out.size (fun q hq _ => by injection hq with hq; rw [← hq]; exact HSTB.out))
            have hT8 : TabAt (w7.setCell ⟨w2.heap.size, J, none⟩ (.int .i64 ((sq : Int) + 1))) st (tabOf (sendP nn t' s' x)) := by
              have h7 := HT4.out.below HB7.out
              rw [← HSTB.out] at h7 ⊢
              have htq : tabOf nn J = sq := by
                unfold tabOf
                rw [show J / 4 = t' by have := HJ.out; omega, show J % 4 = s' by have := HJ.out; omega, HSQ.out]
              exact h7.put hJ16 _ (fun j hj => by
                rw [tab_send nn x hs4 j, HJ.out, HSQ.out])
            have hN8 := HN4.out.apart hfr (Nat.le_refl _) (fun q hq => HBS4.out.2 q hq)
            have hBS8 : Beside (w7.setCell ⟨w2.heap.size, J, none⟩ (.int .i64 ((sq : Int) + 1))) b mb cb v4 st := ⟨Nat.lt_of_lt_of_le HBS4.out.1 hfr.size, HBS4.out.2⟩
            have hB8 : Below w1.heap.size w1 (w7.setCell ⟨w2.heap.size, J, none⟩ (.int .i64 ((sq : Int) + 1))) := HB4.out.trans (hfr.below HB4.out.size (fun q hq => by rw [hq, ← HSTB.out]; exact HB20.out))
            have HMX := missing_any ⟨b, mb, cb, v4, F4, G4, rfl, hN8⟩
            rw [HM1E.out] at HMX
            have HMX := Lib.hid HMX; have HREL := Lib.hid (And.intro hN8 (And.intro hBS8 hB8)); have HT5 := Lib.hid hT8
            have d1' : decide ((al : Int) + 1 < m1) = false := decide_eq_false (by omega)
            have d2' : decide (m1 < 0) = false := decide_eq_false (by have := HB0.out; omega)
            have dz : decide ((fl : Int) + 1 = 0) = false := decide_eq_false (by omega)
            have dz' : ((fl : Int) + 1 == 0) = false := by simp; omega
            clear hfr hT8 hN8 hBS8 hB8 T0 T1 U1 U2 sw
            obtain ⟨w8, hw8⟩ : ∃ W, w7.setCell ⟨w2.heap.size, J, none⟩ (.int .i64 ((sq : Int) + 1)) = W := ⟨_, rfl⟩
            rw [hw8] at HMX HREL HT5 ⊢
            clear hw8
            refine HMX.out.mono ?_; rintro e wz ⟨rfl, hw⟩; obtain rfl := hw.symm
            clear hw
            go_wp2_with fail
            refine HMX.out.mono ?_; rintro e wz ⟨rfl, hw⟩; obtain rfl := hw.symm
            clear hw
            go_wp2_with fail
            go_roundg (n - (k + 1))
            case rel => exact ⟨k + 1, al + 1, _, T', L', v4, F4, G4, HLT.out, rfl, by rw [HS5.out, HLEN'.out]; rfl, by go_num, by go_num, by omega, by rw [HM1E.out]; exact HMB.out.2, HREL.out.1, HST.out, HI'.out, HK4.out, HT5.out, HREL.out.2.1, HREL.out.2.2⟩
            case measure => have := HLT.out; omega
          · obtain ⟨i, hi, rfl, rfl⟩ := hk1 rfl
            clear hk0 hk2
            have hi' : i < fl := by rw [← HFL.out]; exact hi
            obtain ⟨S5, hS5⟩ : ∃ S, (dupP nn nn.fly[i]).fly = S := ⟨_, rfl⟩
            have hlen : S5.length = fl + 1 := by
              rw [← hS5, ← HFL.out]
              show (nn.fly ++ [_]).length = _
              rw [List.length_append]
              rfl
            obtain ⟨⟨yf, yt, ys, yx⟩, hy⟩ : ∃ y, nn.fly[i] = y := ⟨_, rfl⟩
            have hS6 : S5 = nn.fly ++ [⟨yf, yt, ys, yx⟩] := by rw [← hS5, ← hy]; rfl
            have hA5 : ∀ h : fl < S5.length, S5[fl]'h = ⟨yf, yt, ys, yx⟩ := fun h => app_last hS6 HFL.out.symm h
            have hB5 : ∀ h : i < S5.length, S5[i]'h = ⟨yf, yt, ys, yx⟩ := fun h => (app_old hS6 hi h).trans hy
            have HFLY := HFLY.out
            rw [hS5, hlen] at HFLY
            have HFLY := Lib.hid HFLY; have HLEN' := Lib.hid hlen; have HS5 := Lib.hid hS5; have HA5 := Lib.hid hA5; have HE5 := Lib.hid hB5
            have hm1 : m1 ≤ al := by have := HMAL.out; have := (HMS.out.2 rfl).2.1 rfl; omega
            clear hlen hS5 hS6 hA5 hB5 hy
            go_wp2_with fail
            refine HFLY.out.mono ?_; rintro e w5 ⟨v5, rfl, ho, hb5⟩
            have hlf := own_lets ho
            obtain ⟨A5, c5, rfl⟩ := own_form ho
            have HB5 := Lib.hid hb5
            clear ho hb5
            have x0 : w5.cell? ⟨wr.heap.size, 0, none⟩ = some (.int .i64 1) := (HB5.out.cell (p := ⟨wr.heap.size, 0, none⟩) HBL).trans (HBOX4.out 0)
            have x1 := (HB5.out.cell (p := ⟨wr.heap.size, 1, none⟩) HBL).trans (HBOX4.out 1)
            have x2 := (HB5.out.cell (p := ⟨wr.heap.size, 2, none⟩) HBL).trans (HBOX4.out 2)
            have x3 := (HB5.out.cell (p := ⟨wr.heap.size, 3, none⟩) HBL).trans (HBOX4.out 3)
            simp only [List.getElem?_toArray, List.getElem?_cons_zero, List.getElem?_cons_succ] at x1 x2 x3
            obtain ⟨g, off, hA, d0, d1, d2, d3⟩ := hlf.pos (i := fl) (by rw [HLEN'.out]; omega)
            obtain ⟨g', off', hA', z0, z1, z2, z3⟩ := hlf.pos (i := i) (by rw [HLEN'.out]; omega)
            subst hA
            injection hA' with hA'
            injection hA' with q1 q2
            subst q1 q2
            rw [HA5.out] at d0 d1 d2 d3
            rw [HE5.out] at z0 z1 z2 z3
            simp only at d0 d1 d2 d3 z0 z1 z2 z3
            have HT5 := HT4.out
            have hTAB : tabOf (dupP nn nn.fly[i]) = tabOf nn := rfl
            rw [← hTAB] at HT5
            have HT5 := Lib.hid (HT5.below HB5.out)
            have Q1 := fun W => neq_let ⟨yf, yt, ys, yx⟩ ⟨yf, yt, ys, yx⟩ W
            rw [show eqLB ⟨yf, yt, ys, yx⟩ ⟨yf, yt, ys, yx⟩ = true from (eqLB_iff _ _).2 rfl] at Q1
            simp only [letV] at Q1
            have Q2 := fun x y W => guard_let .neq x y #[.int .i64 yf, .int .i64 yt, .int .i64 ys, .string yx] #[.int .i64 yf, .int .i64 yt, .int .i64 ys, .string yx] W
            clear hTAB hlf
            have HMB : Hid (0 ≤ m1 ∧ m1 ≤ al) := Lib.hid ⟨HB0.out, hm1⟩
            have d1' : decide ((al : Int) < m1) = false := decide_eq_false (by omega)
            have d2' : decide (m1 < 0) = false := decide_eq_false (by have := HB0.out; omega)
            have dz : decide ((fl : Int) + 1 = 0) = false := decide_eq_false (by omega)
            have dz' : ((fl : Int) + 1 == 0) = false := by simp; omega
            go_wp2_with fail
            go_quiet (fail)
            have hb6 := below_drewN' HB5.out nq
            have HMX := Lib.hid (HM1.out _ hb6)
            have HREL := Lib.hid (And.intro (HN4.out.below hb6 (Nat.le_refl _)) (And.intro (HBS4.out.below hb6) (And.intro (HB4.out.trans (hb6.mono HB4.out.size)) (HT4.out.below hb6))))
            obtain ⟨w6, hw6⟩ : ∃ W, w5.drewN nq = W := ⟨_, rfl⟩
            rw [hw6] at HMX HREL ⊢
            clear hb6 hw6 x0 x1 x2 x3 d0 d1 d2 d3 z0 z1 z2 z3
            go_wp2_with fail
            refine HMX.out.mono ?_; rintro e wz ⟨rfl, hw⟩; obtain rfl := hw.symm
            clear hw
            go_wp2_with fail
            refine HMX.out.mono ?_; rintro e wz ⟨rfl, hw⟩; obtain rfl := hw.symm
            clear hw
            go_wp2_with fail
            go_roundg (n - (k + 1))
            case rel => exact ⟨k + 1, al, _, T', L', v4, F4, G4, HLT.out, rfl, by rw [HS5.out, HLEN'.out]; rfl, rfl, by go_num, by omega, by rw [HM1E.out]; exact HMB.out.2, HREL.out.1, HST.out, HI'.out, HK4.out, HREL.out.2.2.2, HREL.out.2.1, HREL.out.2.2.1⟩
            case measure => have := HLT.out; omega
          · obtain ⟨i, hi, rfl, rfl⟩ := hk2 (by decide) (by decide)
            clear hk0 hk1
            have hlen : (cameP (dropP nn i) nn.fly[i]).fly.length = fl - 1 := by
              rw [came_fly, ← HFL.out]
              show (nn.fly.take i ++ nn.fly.drop (i + 1)).length = _
              rw [List.length_append, List.length_take, List.length_drop]
              omega
            have HFLY := HFLY.out
            have hBQ := HBQ.out
            rw [hlen] at HFLY hBQ
            have HFLY := Lib.hid HFLY; have HBQ := Lib.hid hBQ; have HLEN' := Lib.hid hlen
            have hi' : i < fl := by rw [← HFL.out]; exact hi
            obtain ⟨f1, hf1⟩ : ∃ q, fl = q + 1 := ⟨fl - 1, by omega⟩
            subst hf1
            rw [show f1 + 1 - 1 = f1 by omega] at HFLY HBQ HLEN'
            have h2m : m1 = nn.miss ∨ m1 = nn.miss - 1 := (HMS.out.2 rfl).2.2 (by decide) (by decide)
            have hm1 : m1 ≤ al := by have := HMAL.out; rcases h2m with h | h <;> omega
            clear hlen hBQ h2m
            go_wp2_with fail
            refine HFLY.out.mono ?_; rintro e w5 ⟨v5, rfl, ho, hb5⟩
            obtain ⟨A5, c5, rfl⟩ := own_form ho
            have HB5 := Lib.hid hb5
            clear ho hb5
            have x0 : w5.cell? ⟨wr.heap.size, 0, none⟩ = some (.int .i64 2) := (HB5.out.cell (p := ⟨wr.heap.size, 0, none⟩) HBL).trans (HBOX4.out 0)
            have HT5 := HT4.out
            have hTAB : tabOf (cameP (dropP nn i) nn.fly[i]) = tabOf nn := by unfold tabOf; rw [came_sent]; rfl
            rw [← hTAB] at HT5
            have HT5 := Lib.hid (HT5.below HB5.out)
            clear hTAB
            have HMB : Hid (0 ≤ m1 ∧ m1 ≤ al) := Lib.hid ⟨HB0.out, hm1⟩
            have d1 : decide ((al : Int) < m1) = false := decide_eq_false (by omega)
            have d2 : decide (m1 < 0) = false := decide_eq_false (by have := HB0.out; omega)
            have HMX := HM1.out w5 HB5.out
            have HQX := HQ1.out w5 HB5.out
            have HMX := Lib.hid HMX; have HQX := Lib.hid HQX
            have HREL := Lib.hid (And.intro (HN4.out.below HB5.out (Nat.le_refl _)) (And.intro (HBS4.out.below HB5.out) (HB4.out.trans (HB5.out.mono HB4.out.size))))
            go_wp2_with fail
            refine HMX.out.mono ?_; rintro e wz ⟨rfl, hw⟩; obtain rfl := hw.symm
            clear hw
            go_wp2_with fail
            refine HMX.out.mono ?_; rintro e wz ⟨rfl, hw⟩; obtain rfl := hw.symm
            clear hw
            by_cases hz : f1 = 0
            · have hm0 : m1 = 0 := HBQ.out hz
              subst hm0
              have HZ := Lib.hid hz
              have dz : decide (((f1 : Nat) : Int) = 0) = true := decide_eq_true (by omega)
              go_wp2_with fail
              refine HQX.out.mono ?_; rintro e wz ⟨rfl, hw⟩; obtain rfl := hw.symm
              clear hw
              go_wp2_with fail
              go_roundg (n - (k + 1))
              case rel => exact ⟨k + 1, al, _, T', L', v4, F4, G4, HLT.out, rfl, by rw [HLEN'.out]; rw [HZ.out]; rfl, rfl, by go_num, by omega, by rw [HM1E.out]; exact HMB.out.2, HREL.out.1, HST.out, HI'.out, HK4.out, HT5.out, HREL.out.2.1, HREL.out.2.2⟩
              case measure => have := HLT.out; omega
            · have dz : decide (((f1 : Nat) : Int) = 0) = false := decide_eq_false (by omega)
              go_wp2_with fail
              go_roundg (n - (k + 1))
              case rel => exact ⟨k + 1, al, _, T', L', v4, F4, G4, HLT.out, rfl, by rw [HLEN'.out], rfl, by go_num, by omega, by rw [HM1E.out]; exact HMB.out.2, HREL.out.1, HST.out, HI'.out, HK4.out, HT5.out, HREL.out.2.1, HREL.out.2.2⟩
              case measure => have := HLT.out; omega
        · have HSM := Lib.hid hsame
          clear hsame
          go_wp2_with fail
          go_roundg (n - (k + 1))
          case rel =>
            have hN5 := HN4.out
            rw [HSM.out] at hN5
            exact ⟨k + 1, al, nn, T, L, v4, F4, G4, HLT.out, rfl, by rw [HFL.out], rfl, by go_num, by omega, HMAL.out, hN5, HGN.out.mono (Nat.le_succ _), HIN.out, HK4N.out, HT4.out, HBS4.out, HB4.out⟩
          case measure => have := HLT.out; omega
      · obtain rfl : k = n := by omega
        have t3 : decide (k < k) = false := decide_eq_false (by omega)
        have HB := Lib.hid hB
        clear hN hG hI hT hBS hB hfl
        go_wp2_with fail
        go_ret
        exact ⟨rfl, HB1.out.trans (HB.out.mono HB1.out.size)⟩
end Go.Proofs.YtbecgfeoacncdaaDoor
