/- PermMoves: the law. -/
import Derived.Test.YtlkmbhbjhiobiaaDoorMovesP
import Derived.Test.YtlkmbhbjhiobiaaDoorTellsLaw2
import Derived.Test.YtlkmbhbjhiobiaaDoorRef06b
namespace Go.Proofs.YtlkmbhbjhiobiaaDoor
open Go.RowKit

theorem list_ints (P : Nat → Int) (n : Nat) : intCells ((List.range n).map P) = ints P n := by simp [intCells, ints]
theorem list_get {P : Nat → Int} {n i : Nat} (h : i < n) : ((List.range n).map P).getD i 0 = P i := by simp [List.getD, h]
/-- What is gone through, k times. -/
def Gone (wr : World) (v : Value) (m : Nat) (P : Nat → Int) (k : Nat) : Prop := ∃ Q, IntsV wr v m Q ∧ ∀ i, i < m → Q i = (it P i k : Nat)
theorem gone_order {m : Nat} {P Q : Nat → Int} {k : Nat} (hO : Order m P) (h : ∀ i, i < m → Q i = (it P i k : Nat)) : Order m Q :=
  ⟨hO.le8, fun i hi => by rw [h i hi]; have := it_lt hO hi k; omega, fun i j hi hj e => by rw [h i hi, h j hj] at e; exact it_inj hO hi hj (by omega : it P i k = it P j k)⟩

set_option maxRecDepth 100000 in
set_option maxHeartbeats 8000000 in
theorem moves_law (a8 a i8 k8 : Nat) (w : World) (hg : ErrT w) (h8 : a8 < 256) (ha : a < 65536) (hi8 : i8 < 256) (hk8 : k8 < 256) :
    Calls Tryd.prog 6 #[.int .u8 a8, .int .u16 a, .int .u8 i8, .int .u8 k8] w fun e w' => e = .returned (.bool true) ∧ Below w.heap.size w w' := by
  obtain ⟨j0, hi, hz0, hz1, hz2⟩ := info_parts Tryd.infoInt6
  have AL := Lib.hid (alive_ok w hg)
  have HG := Lib.hid hg
  obtain ⟨n, hn⟩ : ∃ n, 2 + a8 % 7 = n := ⟨_, rfl⟩
  have hn8 : n ≤ 8 := by omega
  have hn2 : 2 ≤ n := by omega
  have hnI : (2 : Int) + (a8 : Int) % 7 = (n : Int) := by rw [← hn]; simp
  clear hn hg
  go_enter Tryd.func6, Tryd.ntmps6
  go_wp2_with fail
  refine AL.out.mono ?_; rintro e w1 ⟨rfl, hb1⟩
  have HB1 := Lib.hid hb1
  clear hb1
  go_wp2_with fail
  go_loopg [10, 11] 7 (fun g x y wr => ∃ k, 2 ≤ k ∧ k ≤ 9 ∧ (k ≤ n + 1 ∨ k = 2) ∧ g = 9 - k ∧ y = .int .i64 (k : Nat) ∧ x = .int .i64 (fct (k - 1) : Nat) ∧ wr = w1)
  case atStart => exact ⟨2, by omega, by omega, Or.inr rfl, rfl, rfl, rfl, rfl⟩
  case round =>
    obtain ⟨k, hk2, hk9, hkn, rfl, rfl, rfl, rfl⟩ := hrel
    obtain ⟨F, hF⟩ : ∃ F, fct (k - 1) = F := ⟨_, rfl⟩
    have hF4 : F ≤ 40320 := by rw [← hF]; exact fct_le (by omega)
    rw [hF]
    by_cases hle : k ≤ n
    · have t1 : decide ((k : Int) ≤ n) = true := decide_eq_true (by omega)
      have t1' : decide (k ≤ n) = true := decide_eq_true hle
      have HNEW : Hid (fct k = F * k) := Lib.hid (by
        obtain ⟨m, rfl⟩ : ∃ m, k = m + 1 := ⟨k - 1, by omega⟩
        rw [← hF, fct, Nat.add_sub_cancel, Nat.mul_comm])
      have hFk : F * k ≤ 362880 := by
        have : F * k ≤ 40320 * 9 := Nat.mul_le_mul hF4 hk9
        omega
      obtain ⟨G, hG⟩ : ∃ G, F * k = G := ⟨_, rfl⟩
      have hGI : (F : Int) * k = (G : Int) := by rw [← hG]; simp
      have HGG := Lib.hid hG
      rw [hG] at hFk
      clear hF hG
      go_wp2_with fail
      go_roundg (9 - (k + 1))
      case rel => exact ⟨k + 1, by omega, by omega, Or.inl (by omega), rfl, by go_num, by rw [Nat.add_sub_cancel, HNEW.out, HGG.out], rfl⟩
      case measure => omega
    · have t1 : decide ((k : Int) ≤ n) = false := decide_eq_false (by omega)
      have t1' : decide (k ≤ n) = false := decide_eq_false hle
      have hFn : F = fct n := by
        rw [← hF]
        rcases hkn with h | h
        · rw [show k - 1 = n by omega]
        · omega
      have HF := Lib.hid hFn
      have hFp : 0 < F := by rw [hFn]; exact fct_pos n
      obtain ⟨r, hr⟩ : ∃ r, a % F = r := ⟨_, rfl⟩
      have hrF : r < F := by rw [← hr]; exact Nat.mod_lt _ hFp
      have O1 := Lib.hid (of_ok n r wr hn8 (by rw [← hFn]; exact hrF))
      have hrI : (a : Int) % (F : Int) = (r : Int) := by rw [← hr]; rfl
      have hne : ¬ ((F : Int) = 0) := by omega
      have hneN : ¬ (F = 0) := by omega
      have HRF : Hid (r < fct n) := Lib.hid (by rw [← hFn]; exact hrF)
      clear hF hFn hle hr
      go_wp2_with fail
      refine O1.out.mono ?_; rintro e w2 ⟨b, P, rfl, hbb, hP, hPu, hb2⟩
      have hO := unr_order hn8 HRF.out hPu
      have HRK := Lib.hid (rk_of HRF.out hPu)
      have HB2 := Lib.hid (HB1.out.trans (hb2.mono HB1.out.size))
      have C2 := Lib.hid (circles_ok n P _ w2 hP hO)
      have HP := Lib.hid hP; have HO := Lib.hid hO
      have hs2 := hb2.size
      clear hbb hP hPu hb2 hO
      go_wp2_with fail
      refine C2.out.mono ?_; rintro e w3 ⟨uc, C, G, rfl, hRi, hCi, hb3⟩
      have HP3 := Lib.hid (HP.out.below hb3 (Nat.le_refl _))
      have HB3 := Lib.hid (HB2.out.trans (hb3.mono HB2.out.size))
      have HRI := Lib.hid hRi; have HCI' := hCi
      obtain ⟨AC, cC, rfl⟩ := hCi.form
      obtain ⟨N, hN⟩ : ∃ N, (C.map zs).length = N := ⟨_, rfl⟩
      rw [hN] at HCI'
      rw [hN]
      have HCI := Lib.hid HCI'
      have hNl : C.length = N := by rw [← hN]; simp
      have hN8 : N ≤ 8 := by have := hRi.few; omega
      have HNL := Lib.hid hNl
      obtain ⟨T, hT⟩ : ∃ T, prd C = T := ⟨_, rfl⟩
      have hall : ∀ c, c ∈ C → c.length ≤ 8 := fun c hc => by
        obtain ⟨q, hq, rfl⟩ := List.mem_iff_getElem.1 hc
        have := going_ring hRi hq; omega
      have HALL := Lib.hid hall
      have HTT := Lib.hid hT
      have hT8 : T ≤ 16777216 := by
        have h1 := prd_le C hall
        rw [hT] at h1
        have h2 : 8 ^ C.length ≤ 8 ^ 8 := Nat.pow_le_pow_right (by omega) (by omega)
        have h3 : (8 : Nat) ^ 8 = 16777216 := rfl
        omega
      clear hRi hCi hb3 hN hNl hT hall HCI'
      go_wp2_with fail
      obtain ⟨wo, rfl⟩ : ∃ x, x = wr := ⟨_, rfl⟩
      go_loopg [16, 17] N (fun g x y wr => ∃ k, k ≤ N ∧ g = N - k ∧ y = .int .i64 (k : Nat) ∧ x = .int .i64 (prd (C.take k) : Nat) ∧ wr = w3)
      case atStart => exact ⟨0, by omega, rfl, rfl, rfl, rfl⟩
      case round =>
        obtain ⟨q, hq, rfl, rfl, rfl, rfl⟩ := hrel
        have hpl : prd (C.take q) ≤ 16777216 := by
          have h1 := prd_le (C.take q) (fun c hc => HALL.out c (List.mem_of_mem_take hc))
          have h2 : 8 ^ (C.take q).length ≤ 8 ^ 8 := Nat.pow_le_pow_right (by omega) (by rw [List.length_take, HNL.out]; omega)
          have h3 : (8 : Nat) ^ 8 = 16777216 := rfl
          omega
        obtain ⟨s, hs⟩ : ∃ s, prd (C.take q) = s := ⟨_, rfl⟩
        rw [hs] at hpl
        rw [hs]
        have HS := Lib.hid hs
        by_cases hlt : q < N
        · have hkC : q < C.length := by rw [HNL.out]; exact hlt
          obtain ⟨bC, oC, uk, rfl, hcC, hSC⟩ := HCI.out.pos (i := q) (by simpa using hkC)
          rw [List.getElem_map] at hSC
          obtain ⟨hseq, Ak, ck, rfl, hck⟩ := hSC
          have hl8 := HALL.out C[q] (List.getElem_mem hkC)
          obtain ⟨mm, hmm⟩ : ∃ mm, C[q].length = mm := ⟨_, rfl⟩
          rw [zs_len, hmm] at hcC
          have HTK : Hid (prd (C.take (q + 1)) = s * mm) := Lib.hid (by rw [List.take_succ_eq_append_getElem hkC, prd_snoc, hs, hmm])
          obtain ⟨t, ht⟩ : ∃ t, s * mm = t := ⟨_, rfl⟩
          have htI : (s : Int) * (mm : Int) = (t : Int) := by rw [← ht]; simp
          have ht8 : t ≤ 134217728 := by
            rw [← ht]
            have : s * mm ≤ 16777216 * 8 := Nat.mul_le_mul hpl (by omega)
            omega
          have HTE := Lib.hid ht
          have i1 : (q : Int) < N := by omega
          have i2 : (0 : Int) ≤ q := by omega
          have t7 : decide (q < N) = true := decide_eq_true hlt
          have HLT := Lib.hid hlt
          clear hs hlt hkC hseq hck hl8 hmm ht
          go_wp2_with fail
          go_roundg (N - (q + 1))
          case rel => exact ⟨q + 1, HLT.out, rfl, by go_num, by rw [HTK.out, HTE.out], rfl⟩
          case measure => have := HLT.out; omega
        · obtain rfl : q = N := by omega
          have hsT : s = T := by rw [← hs, ← HTT.out, ← HNL.out, List.take_length]
          subst hsT
          have t7 : decide (q < q) = false := by simp
          have I3 := Lib.hid (id_ok n wr hn8)
          clear hs hlt
          go_wp2_with fail
          refine I3.out.mono ?_; rintro e w4 ⟨rfl, ho4, hb4⟩
          have HP4 := Lib.hid (HP3.out.below hb4 (Nat.le_refl _))
          have HB4 := Lib.hid (HB3.out.trans (hb4.mono HB3.out.size))
          have HV4 := Lib.hid (own_intsV ho4)
          clear ho4 hb4
          obtain ⟨w3, rfl⟩ : ∃ x, x = wr := ⟨_, rfl⟩
          go_wp2_with fail
          go_loopg [18, 19] s (fun g x y wr => ∃ k, k ≤ s ∧ g = s - k ∧ y = .int .i64 (k : Nat) ∧ Gone wr x n P k ∧ Below w4.heap.size w4 wr)
          case atStart => exact ⟨0, by omega, rfl, rfl, ⟨_, HV4.out, fun i _ => rfl⟩, Below.refl _ _⟩
          case round =>
            obtain ⟨p, hp, rfl, rfl, ⟨Q, hQ, hQP⟩, hb⟩ := hrel
            obtain ⟨Ax, cx, rfl⟩ := hQ.form
            have HB := Lib.hid hb
            have HPr := Lib.hid (HP4.out.below hb (Nat.le_refl _))
            have HV := Lib.hid hQ; have HQP := Lib.hid hQP
            have hOQ : Order n Q := gone_order HO.out hQP
            have HBB := Lib.hid (HB4.out.trans (hb.mono HB4.out.size))
            by_cases hlt : p < s
            · have T1 := Lib.hid (then_ok n Q P _ _ wr HV.out HPr.out hOQ HO.out)
              have HLT := Lib.hid hlt
              have t8 : decide (p < s) = true := decide_eq_true hlt
              have hsz := hb.size
              clear hQ hQP hb hOQ hlt
              go_wp2_with fail
              refine T1.out.mono ?_; rintro e w5 ⟨b5, Y, rfl, _, hY, hYQ, hb5⟩
              have HY := Lib.hid hY
              have HN5 := Lib.hid (HB.out.trans (hb5.mono hsz))
              have HYP : Hid (∀ i, i < n → Y i = (it P i (p + 1) : Nat)) := Lib.hid (fun i hi => by
                have hl := it_lt HO.out hi p
                rw [hYQ i hi, HQP.out i hi, Int.toNat_natCast, nx_cast HO.out hl]; rfl)
              clear hY hYQ hb5
              go_wp2_with fail
              go_roundg (s - (p + 1))
              case rel => exact ⟨p + 1, HLT.out, rfl, by go_num, ⟨_, HY.out, HYP.out⟩, HN5.out⟩
              case measure => have := HLT.out; omega
            · obtain rfl : p = s := by omega
              have t8 : decide (p < p) = false := by simp
              have hQi : ∀ i, i < n → Q i = i := fun i hi => by rw [hQP i hi, ← HTT.out, HRI.out.home hi]
              have HQI := Lib.hid hQi
              have I5 := Lib.hid (id_ok n wr hn8)
              clear hQ hQP hb hOQ hlt hQi
              go_wp2_with fail
              refine I5.out.mono ?_; rintro e w6 ⟨rfl, ho6, hb6⟩
              have S6 := sameInts_any n n Q _ _ _ w6 (HV.out.below hb6 (Nat.le_refl _)) (own_intsV ho6) (by omega)
              have hs6 : sameI Q n (fun i => (i : Int)) n = true := by
                unfold sameI
                rw [Bool.and_eq_true, eqUpto_iff]
                exact ⟨by simp, fun i hi => HQI.out i hi⟩
              rw [hs6] at S6
              have HS6 := Lib.hid S6
              have HB6 := Lib.hid (HBB.out.trans (hb6.mono HBB.out.size))
              have HP6 := Lib.hid (HPr.out.below hb6 (Nat.le_refl _))
              clear ho6 hb6 S6 hs6
              go_wp2_with fail
              refine HS6.out.mono ?_; rintro e w7 ⟨rfl, d7, hw7⟩
              have HP7 : Hid (IntsV w7 (.slice (some ⟨b, 0, none⟩) n n) n P) := Lib.hid (by rw [hw7]; exact HP6.out)
              have HB7 : Hid (Below w.heap.size w w7) := Lib.hid (by rw [hw7]; exact below_drewN' HB6.out d7)
              obtain ⟨x, hx⟩ : ∃ x, i8 % n = x := ⟨_, rfl⟩
              obtain ⟨y, hy⟩ : ∃ y, k8 % n = y := ⟨_, rfl⟩
              have hxn : x < n := by rw [← hx]; exact Nat.mod_lt _ (by omega)
              have hyn : y < n := by rw [← hy]; exact Nat.mod_lt _ (by omega)
              have hxI : (i8 : Int) % (n : Int) = (x : Int) := by rw [← hx]; rfl
              have hyI : (k8 : Int) % (n : Int) = (y : Int) := by rw [← hy]; rfl
              have n0 : ¬ (n = 0) := by omega
              have n0' : ¬ ((n : Int) = 0) := by omega
              clear hw7 hx hy
              go_wp2_with fail
              go_quiet (fail)
              obtain ⟨w8, hw8⟩ : ∃ W, w7.drewN nq = W := ⟨_, rfl⟩
              have HP8 : Hid (IntsV w8 (.slice (some ⟨b, 0, none⟩) n n) n P) := Lib.hid (by rw [← hw8]; exact HP7.out)
              have HB8 : Hid (Below w.heap.size w w8) := Lib.hid (by rw [← hw8]; exact below_drewN' HB7.out nq)
              rw [hw8, hxI, hyI]
              clear hw8 hxI hyI
              have OW0 := World.ownsRow_lit (base := w8.heap.size) (e := 3) (size := 1) w8 #[] 0 (Nat.le_refl _) (by unfold maxLen; omega) rfl
              have hA0 : Below w8.heap.size w8 (w8.alloc (.cells #[] 3)) := (Below.refl _ _).alloc (Nat.le_refl _) _
              obtain ⟨L1, hL1⟩ : ∃ L, (List.range n).map P = L := ⟨_, rfl⟩
              have hseq := (seqV_of HP8.out).below hA0 (Nat.le_refl _)
              rw [hL1] at hseq
              have hLL : L1.length = n := by rw [← hL1]; simp
              have hLI : intCells L1 = ints P n := by rw [← hL1]; exact list_ints P n
              have HSEQ := Lib.hid hseq; have HLL := Lib.hid hLL; have HLI := Lib.hid hLI
              clear hL1 hseq hLL hLI
              have HOW0 := Lib.hid OW0; have HA0 := Lib.hid hA0
              have hsz0 : w8.heap.size ≤ (w8.alloc (.cells #[] 3)).heap.size := hA0.size
              clear OW0 hA0
              go_wp2_with (at_builtin; refine wpList_appInts _ rfl _ _ 22 rfl w8.heap.size j0 Tryd.underlying22 hi hz0 hz1 hz2 _ 0 _ rfl HOW0.out _ L1 rfl HSEQ.out (by rw [HLL.out]; omega) hsz0 ?_)
              intro A9 c9 w9 hown9 hgrow9
              have hb9 : Below w8.heap.size w8 w9 := hgrow9.below HOW0.out HA0.out (Nat.le_refl _) hsz0
              have hrow : w9.ownsRow w8.heap.size 3 1 (.slice A9 n c9) n (ints P n) := by
                rw [HLL.out, HLI.out] at hown9
                simpa using hown9
              try rw [HLL.out]
              try rw [Nat.zero_add]
              rcases hrow.2 with ⟨_, h0⟩ | ⟨g, cap, cur, e9, hgb, _, hcap, _⟩
              · omega
              injection e9 with e1 e2 e3
              subst e1 e3
              have hgw : w8.heap.size ≤ g := hgb
              obtain ⟨px, hpx⟩ : ∃ z, P x = z := ⟨_, rfl⟩
              obtain ⟨py, hpy⟩ : ∃ z, P y = z := ⟨_, rfl⟩
              obtain ⟨b9, o9, eb9, hc9⟩ := (HP8.out.below hb9 (Nat.le_refl _)).pos hxn
              injection eb9 with eb9
              injection eb9 with eb1 eb2
              subst eb1 eb2
              have c1 := hc9 y hyn
              rw [hpy, Nat.zero_add] at c1
              have c2 := hrow.cellAt x (by omega)
              rw [ints_at hxn] at c2
              have f2 := hrow.frozenAt x
              have hst := (hrow.stored x (.int .i64 py)).1
              rw [ints_set P n x _ hxn] at hst
              have hb10 := hb9.setCell (p := ⟨g, x, none⟩) hgw (.int .i64 py)
              obtain ⟨b10, o10, eb10, hc10⟩ := (HP8.out.below hb10 (Nat.le_refl _)).pos hxn
              injection eb10 with eb10
              injection eb10 with eb3 eb4
              subst eb3 eb4
              have c3 := hc10 x hxn
              rw [hpx, Nat.zero_add] at c3
              have c4 := hst.cellAt y (by omega)
              rw [ints_at hyn] at c4
              have f4 := hst.frozenAt y
              have hst2 := (hst.stored y (.int .i64 px)).1
              rw [ints_set _ n y _ hyn] at hst2
              have hb11 := hb10.setCell (p := ⟨g, y, none⟩) hgw (.int .i64 px)
              have hsw : upd (upd P x py) y px = swp P x y := by funext i; rw [← hpx, ← hpy]; rfl
              rw [hsw] at hst2
              have HROW := Lib.hid hst2; have HB11 := Lib.hid hb11
              have HCAP := Lib.hid hcap
              have i1 : (x : Int) < n := by omega
              have i2 : (0 : Int) ≤ x := by omega
              have i3 : (y : Int) < n := by omega
              have i4 : (0 : Int) ≤ y := by omega
              have hg9 : g < w9.heap.size := (hrow.lt g rfl).2
              have HXN := Lib.hid hxn; have HYN := Lib.hid hyn
              clear hown9 hgrow9 hb9 hrow hgb hcap hpx hpy hc9 hst hb10 hc10 hst2 hb11 hsw e2
              go_wp2_with fail
              obtain ⟨w12, hw12⟩ : ∃ W, (w9.setCell ⟨g, x, none⟩ (.int .i64 py)).setCell ⟨g, y, none⟩ (.int .i64 px) = W := ⟨_, rfl⟩
              have hrow12 := HROW.out
              have hb12 := HB11.out
              rw [hw12] at hrow12 hb12
              rw [hw12]
              have HS12 := Lib.hid (own_intsV hrow12)
              have HP12 := Lib.hid (HP8.out.below hb12 (Nat.le_refl _))
              have HB12 := Lib.hid (HB8.out.trans (hb12.mono HB8.out.size))
              have hOS := swp_order HO.out HXN.out HYN.out
              have hpar := swp_inv HO.out HXN.out HYN.out
              have HOS := Lib.hid hOS
              obtain ⟨u1, hu1⟩ : ∃ e : Bool, decide (inv P n % 2 = 0) = e := ⟨_, rfl⟩
              obtain ⟨u2, hu2⟩ : ∃ e : Bool, decide (inv (swp P x y) n % 2 = 0) = e := ⟨_, rfl⟩
              have hev : ((u1 == u2) == ((x : Int) == (y : Int))) = true := by
                have hxy : ((x : Int) == (y : Int)) = decide (x = y) := by
                  rw [Bool.eq_iff_iff]; simp; constructor <;> intro h <;> omega
                rw [hxy, ← hu1, ← hu2]
                by_cases h : x = y
                · rw [if_pos h] at hpar
                  have : inv (swp P x y) n % 2 = inv P n % 2 := by omega
                  rw [this]; simp [h]
                · rw [if_neg h] at hpar
                  by_cases h0 : inv P n % 2 = 0
                  · have : ¬ (inv (swp P x y) n % 2 = 0) := by omega
                    simp [h, h0, this]
                  · have : inv (swp P x y) n % 2 = 0 := by omega
                    simp [h, h0, this]
              have E12' := even_ok n P _ w12 HP12.out (fun A c e => by injection e with _ _ e3; omega) HO.out
              rw [hu1] at E12'
              have E12 := Lib.hid E12'
              have HU2 := Lib.hid hu2
              clear hrow12 hb12 hw12 hOS hpar hu1 hu2 E12' c1 c2 c3 c4 f2 f4
              refine E12.out.mono ?_; rintro e w13 ⟨rfl, hb13⟩
              have HP13 := Lib.hid (HP12.out.below hb13 (Nat.le_refl _))
              have HB13 := Lib.hid (HB12.out.trans (hb13.mono HB12.out.size))
              have E13' := even_ok n (swp P x y) _ w13 (HS12.out.below hb13 (Nat.le_refl _)) (fun A c e => by injection e with _ _ e3; have := HCAP.out; omega) HOS.out
              rw [HU2.out] at E13'
              have E13 := Lib.hid E13'
              clear hb13 E13'
              go_wp2_with fail
              refine E13.out.mono ?_; rintro e w14 ⟨rfl, hb14⟩
              have R14' := rank_ok n P _ w14 (HP13.out.below hb14 (Nat.le_refl _)) (fun A c e => by injection e with _ _ e3; omega) HO.out
              rw [HRK.out] at R14'
              have R14 := Lib.hid R14'
              have HB14 := Lib.hid (HB13.out.trans (hb14.mono HB13.out.size))
              clear hb14 R14'
              go_wp2_with fail
              refine R14.out.mono ?_; rintro e w15 ⟨rfl, hb15⟩
              have HB15 := Lib.hid (HB14.out.trans (hb15.mono HB14.out.size))
              have tr : ((r : Int) == r) = true := by simp
              clear hb15
              have hxy2 : (u1 = u2 ∧ ((x : Int) == (y : Int)) = true) ∨ (u2 = !u1 ∧ ((x : Int) == (y : Int)) = false) := by
                cases hq : ((x : Int) == (y : Int)) with
                | true => rw [hq] at hev; left; exact ⟨by cases u1 <;> cases u2 <;> simp_all, rfl⟩
                | false => rw [hq] at hev; right; exact ⟨by cases u1 <;> cases u2 <;> simp_all, rfl⟩
              clear hev
              rcases hxy2 with ⟨rfl, tq⟩ | ⟨rfl, tq⟩
              all_goals
                cases u1
                all_goals
                  go_wp2_with fail
                  go_ret
                  exact ⟨rfl, HB15.out⟩
end Go.Proofs.YtlkmbhbjhiobiaaDoor
