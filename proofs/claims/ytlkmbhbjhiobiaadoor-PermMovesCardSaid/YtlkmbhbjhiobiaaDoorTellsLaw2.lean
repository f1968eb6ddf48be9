/- PermTells: the law, of an order. -/
import Derived.Test.YtlkmbhbjhiobiaaDoorTellsLaw
namespace Go.Proofs.YtlkmbhbjhiobiaaDoor
open Go.RowKit

/-- The head of the circle ahead of the k-th. -/
def headB (C : List (List Nat)) (k : Nat) : Int := if k = 0 then -1 else ((C.getD (k - 1) []).headD 0 : Nat)
theorem zs_get {l : List Nat} {j : Nat} (h : j < l.length) : (zs l).getD j 0 = (l[j] : Nat) := by simp [zs, List.getD, h]
theorem ring_get {P : Nat → Int} {x m j : Nat} (h : j < (ring P x m).length) : (ring P x m)[j] = it P x j := by simp [ring]
section
variable {n : Nat} {P : Nat → Int} {C : List (List Nat)} {G : Nat → Bool}
theorem Rings.above (h : Rings n P n C G) {k : Nat} (hk : k < C.length) {x m : Nat} (hx : C[k] = ring P x m) (hm : 0 < m) : headB C k < x := by
  unfold headB
  rcases Nat.eq_zero_or_pos k with h0 | h0
  · rw [if_pos h0]; omega
  · rw [if_neg (by omega)]
    have h1 := (List.pairwise_iff_getElem.1 h.heads) (k - 1) k (by omega) hk (by omega)
    rw [hx, ring_head hm] at h1
    have h2 : C.getD (k - 1) [] = C[k - 1] := by simp [List.getD, show k - 1 < C.length by omega]
    rw [h2]
    omega
theorem headB_succ {k : Nat} (hk : k < C.length) : headB C (k + 1) = (C[k].headD 0 : Nat) := by
  unfold headB
  rw [if_neg (by omega), Nat.add_sub_cancel]
  simp [List.getD, hk]
theorem flat_succ {k : Nat} (hk : k < C.length) : (C.take (k + 1)).flatten.length = (C.take k).flatten.length + C[k].length := by
  rw [List.take_succ_eq_append_getElem hk, List.flatten_append, List.length_append]
  simp
theorem flat_le : ∀ (C : List (List Nat)) (k : Nat), (C.take k).flatten.length ≤ C.flatten.length
  | [], k => by simp
  | c :: C, 0 => by simp
  | c :: C, k + 1 => by
    have := flat_le C k
    simp only [List.take_succ_cons, List.flatten_cons, List.length_append]
    omega
theorem going_ring (h : Rings n P n C G) {k : Nat} (hk : k < C.length) : C[k].length ≤ n := by
  have h1 := flat_succ hk
  have h2 := flat_le C (k + 1)
  have h3 := h.total
  omega
end

set_option maxRecDepth 100000 in
set_option maxHeartbeats 8000000 in
theorem tells_yes (n m l : Nat) (P Q L : Nat → Int) (v u x : Value) (w : World) (hg : ErrT w) (hp : IntsV w v n P) (hcap : ∀ A c, v = .slice A n c → n ≤ c) (hq : IntsV w u m Q) (hl : IntsV w x l L) (hn : n ≤ 20) (hm : m ≤ 20) (hl2 : l ≤ 20) (hO : Order n P) :
    Calls Tryd.prog 3 #[v, u, x] w fun e w' => e = .returned (.bool true) ∧ Below w.heap.size w w' := by
  obtain ⟨A, c, rfl⟩ := hp.form
  obtain ⟨A2, c2, rfl⟩ := hq.form
  obtain ⟨A3, c3, rfl⟩ := hl.form
  have AL := Lib.hid (alive_ok w hg)
  have HP := Lib.hid hp; have HQ := Lib.hid hq; have HL := Lib.hid hl; have HO := Lib.hid hO; have HG := Lib.hid hg; have HCAP := Lib.hid hcap
  have HR : Hid (rightB n P = true) := Lib.hid (rightB_iff.2 hO)
  have t1 : decide ((20 : Int) < n) = false := decide_eq_false (by omega)
  have t2 : decide ((20 : Int) < m) = false := decide_eq_false (by omega)
  have t3 : decide ((20 : Int) < l) = false := decide_eq_false (by omega)
  have hn8 := hO.le8
  clear hg hp hq hl hO hcap
  go_enter Tryd.func3, Tryd.ntmps3
  go_wp2_with fail
  refine AL.out.mono ?_; rintro e w1 ⟨rfl, hb1⟩
  have HP1 := Lib.hid (HP.out.below hb1 (Nat.le_refl _))
  have HQ1 := Lib.hid (HQ.out.below hb1 (Nat.le_refl _))
  have HL1 := Lib.hid (HL.out.below hb1 (Nat.le_refl _))
  have HB1 := Lib.hid hb1
  have R1 := refRight_any n P _ w1 HP1.out (by omega)
  rw [HR.out] at R1
  have HR1 := Lib.hid R1
  clear hb1 R1
  go_wp2_with fail
  refine HR1.out.mono ?_; rintro e w2 ⟨rfl, hw2⟩; obtain rfl := hw2.symm
  have C2 := Lib.hid (back_ok n P _ w1 HP1.out HO.out)
  go_wp2_with fail
  refine C2.out.mono ?_; rintro e w3 ⟨bb, BK, rfl, _, hBK, hBKP, hb3⟩
  have HP3 := Lib.hid (HP1.out.below hb3 (Nat.le_refl _))
  have HQ3 := Lib.hid (HQ1.out.below hb3 (Nat.le_refl _))
  have HL3 := Lib.hid (HL1.out.below hb3 (Nat.le_refl _))
  have HB3 := Lib.hid (HB1.out.trans (hb3.mono HB1.out.size))
  have HBK := Lib.hid hBK; have HBKP := Lib.hid hBKP
  have C3 := Lib.hid (then_any n m P Q _ _ w3 HP3.out HQ3.out HO.out)
  clear hBK hBKP hb3
  go_wp2_with fail
  refine C3.out.mono ?_; rintro e w4 ⟨y2, f2, rfl, hf2, hb4⟩
  have HP4 := Lib.hid (HP3.out.below hb4 (Nat.le_refl _))
  have HQ4 := Lib.hid (HQ3.out.below hb4 (Nat.le_refl _))
  have HL4 := Lib.hid (HL3.out.below hb4 (Nat.le_refl _))
  have HB4 := Lib.hid (HB3.out.trans (hb4.mono HB3.out.size))
  have HBK4 := Lib.hid (HBK.out.below hb4 (Nat.le_refl _)); have HT := Lib.hid hf2
  have C4 := Lib.hid (put_any n l P L _ _ w4 HP4.out HL4.out HO.out)
  clear hf2 hb4
  go_wp2_with fail
  refine C4.out.mono ?_; rintro e w5 ⟨y3, f3, rfl, hf3, hb5⟩
  have HP5 := Lib.hid (HP4.out.below hb5 (Nat.le_refl _))
  have HQ5 := Lib.hid (HQ4.out.below hb5 (Nat.le_refl _))
  have HL5 := Lib.hid (HL4.out.below hb5 (Nat.le_refl _))
  have HB5 := Lib.hid (HB4.out.trans (hb5.mono HB4.out.size))
  have HBK5 := Lib.hid (HBK4.out.below hb5 (Nat.le_refl _)); have HT5 := Lib.hid (HT.out.below hb5 (Nat.le_refl _)); have HU := Lib.hid hf3
  obtain ⟨ev, hev⟩ : ∃ ev : Bool, decide (inv P n % 2 = 0) = ev := ⟨_, rfl⟩
  have C5' := even_ok n P _ w5 HP5.out HCAP.out HO.out
  rw [hev] at C5'
  have C5 := Lib.hid C5'; have HEV := Lib.hid hev
  clear hf3 hb5 hev C5'
  go_wp2_with fail
  refine C5.out.mono ?_; rintro e w6 ⟨rfl, hb6⟩
  have HP6 := Lib.hid (HP5.out.below hb6 (Nat.le_refl _))
  have HQ6 := Lib.hid (HQ5.out.below hb6 (Nat.le_refl _))
  have HL6 := Lib.hid (HL5.out.below hb6 (Nat.le_refl _))
  have HB6 := Lib.hid (HB5.out.trans (hb6.mono HB5.out.size))
  have HBK6 := Lib.hid (HBK5.out.below hb6 (Nat.le_refl _)); have HT6 := Lib.hid (HT5.out.below hb6 (Nat.le_refl _)); have HU6 := Lib.hid (HU.out.below hb6 (Nat.le_refl _))
  have C6 := Lib.hid (circles_ok n P _ w6 HP6.out HO.out)
  clear hb6
  go_wp2_with fail
  refine C6.out.mono ?_; rintro e w7 ⟨uc, C, G, rfl, hRi, hCi, hb7⟩
  have HP7 := Lib.hid (HP6.out.below hb7 (Nat.le_refl _))
  have HQ7 := Lib.hid (HQ6.out.below hb7 (Nat.le_refl _))
  have HL7 := Lib.hid (HL6.out.below hb7 (Nat.le_refl _))
  have HB7 := Lib.hid (HB6.out.trans (hb7.mono HB6.out.size))
  have HBK7 := Lib.hid (HBK6.out.below hb7 (Nat.le_refl _)); have HT7 := Lib.hid (HT6.out.below hb7 (Nat.le_refl _)); have HU7 := Lib.hid (HU6.out.below hb7 (Nat.le_refl _))
  have HRI := Lib.hid hRi; have HCI := Lib.hid hCi
  obtain ⟨AC, cC, rfl⟩ := hCi.form
  obtain ⟨N, hN⟩ : ∃ N, (C.map zs).length = N := ⟨_, rfl⟩
  rw [hN] at HCI
  rw [hN]
  have hNl : C.length = N := by rw [← hN]; simp
  have hN8 : N ≤ 8 := by have := hRi.few; omega
  have HNL := Lib.hid hNl
  have R7 := right_any n P _ w7 HP7.out
  rw [HR.out] at R7
  have HR7 := Lib.hid R7
  clear hRi hCi hb7 R7 hN hNl
  go_wp2_with fail
  refine HR7.out.mono ?_; rintro e w8 ⟨rfl, hb8⟩
  have HP8 := Lib.hid (HP7.out.below hb8 (Nat.le_refl _))
  have HQ8 := Lib.hid (HQ7.out.below hb8 (Nat.le_refl _))
  have HL8 := Lib.hid (HL7.out.below hb8 (Nat.le_refl _))
  have HB8 := Lib.hid (HB7.out.trans (hb8.mono HB7.out.size))
  have HBK8 := Lib.hid (HBK7.out.below hb8 (Nat.le_refl _)); have HT8 := Lib.hid (HT7.out.below hb8 (Nat.le_refl _)); have HU8 := Lib.hid (HU7.out.below hb8 (Nat.le_refl _)); have HCI8 := Lib.hid (HCI.out.below hb8 (Nat.le_refl _))
  have D1 := Lib.hid (refBack_any n P _ w8 HP8.out HO.out)
  clear hb8
  go_wp2_with fail
  refine D1.out.mono ?_; rintro e w9 ⟨ub, YB, rfl, hYB, hYBP, hb9⟩
  have HP9 := Lib.hid (HP8.out.below hb9 (Nat.le_refl _))
  have HQ9 := Lib.hid (HQ8.out.below hb9 (Nat.le_refl _))
  have HL9 := Lib.hid (HL8.out.below hb9 (Nat.le_refl _))
  have HB9 := Lib.hid (HB8.out.trans (hb9.mono HB8.out.size))
  have HT9 := Lib.hid (HT8.out.below hb9 (Nat.le_refl _)); have HU9 := Lib.hid (HU8.out.below hb9 (Nat.le_refl _)); have HCI9 := Lib.hid (HCI8.out.below hb9 (Nat.le_refl _))
  have S9 := sameInts_any n n BK YB _ _ w9 (HBK8.out.below hb9 (Nat.le_refl _)) hYB (by omega)
  have hs9 : sameI BK n YB n = true := by
    unfold sameI
    rw [Bool.and_eq_true, eqUpto_iff]
    refine ⟨by simp, fun i hi => ?_⟩
    obtain ⟨j, hj, e⟩ := HO.out.surj i hi
    have h1 := HBKP.out j hj
    have h2 := hYBP j hj
    rw [e, Int.toNat_natCast] at h1 h2
    rw [h1, h2]
  rw [hs9] at S9
  have HS9 := Lib.hid S9
  obtain ⟨AB, cB, rfl⟩ := hYB.form
  clear hYB hYBP hb9 S9 hs9
  go_wp2_with fail
  refine HS9.out.mono ?_; rintro e w10 ⟨rfl, d10, hw10⟩
  obtain rfl := hw10.symm
  have E10' := refEven_any n P _ (w9.drewN d10) (HP9.out) hn8
  rw [HEV.out] at E10'
  have E10 := Lib.hid E10'
  have tev : (ev != ev) = false := by cases ev <;> rfl
  clear hw10 E10'
  go_wp2_with fail
  refine E10.out.mono ?_; rintro e w11 ⟨rfl, d11, hw11⟩
  have HP11 : Hid (∀ d, IntsV (w9.drewN d) (.slice A n c) n P) := Lib.hid fun d => HP9.out
  obtain ⟨D, hD⟩ : ∃ D, w11 = w9.drewN D := ⟨_, by rw [hw11, World.drewN_drewN]⟩
  obtain rfl := hD.symm
  clear hw11 hD
  go_wp2_with fail
  go_loopg [18, 19, 20] N (fun g x y z wr => ∃ k, k ≤ N ∧ g = N - k ∧ z = .int .i64 (k : Nat) ∧ x = .int .i64 (headB C k) ∧ y = .int .i64 ((C.take k).flatten.length : Nat) ∧ ∃ d, wr = w9.drewN d)
  case atStart => exact ⟨0, by omega, rfl, rfl, rfl, rfl, D, rfl⟩
  case round =>
    obtain ⟨k, hk, rfl, rfl, rfl, rfl, d, rfl⟩ := hrel
    have hsn : (C.take k).flatten.length ≤ n := by have := flat_le C k; have := HRI.out.total; omega
    obtain ⟨s, hs⟩ : ∃ s, (C.take k).flatten.length = s := ⟨_, rfl⟩
    obtain ⟨z0, hz0⟩ : ∃ z, headB C k = z := ⟨_, rfl⟩
    rw [hs] at hsn
    rw [hs, hz0]
    have HS := Lib.hid hs; have HZ0 := Lib.hid hz0
    by_cases hlt : k < N
    · have hkC : k < C.length := by rw [HNL.out]; exact hlt
      obtain ⟨x0, mm, hmm, hx0, hring, hit, hmin⟩ := HRI.out.rg C[k] (List.getElem_mem hkC)
      have habove := HRI.out.above hkC hring hmm
      rw [hz0] at habove
      have hmn := going_ring HRI.out hkC
      rw [hring, ring_len] at hmn
      obtain ⟨bC, oC, uk, rfl, hcC, hSC⟩ := HCI9.out.pos (i := k) (by simpa using hkC)
      rw [List.getElem_map, hring] at hSC
      obtain ⟨hseq, Ak, ck, rfl, hck⟩ := hSC
      have hlen : (zs (ring P x0 mm)).length = mm := by rw [zs_len, ring_len]
      unfold SeqV at hseq
      rw [hlen] at hseq hcC hck
      obtain ⟨bk, ok, rfl, hcell⟩ := IntsV.pos hseq hmm
      have HCK : Hid (∀ j, j < mm → w9.cell? ⟨bk, ok + j, none⟩ = some (.int .i64 (it P x0 j : Nat))) := Lib.hid (fun j hj => by
        rw [hcell j hj, zs_get (by rw [ring_len]; exact hj), ring_get])
      have c0 := HCK.out 0 hmm
      rw [Nat.add_zero] at c0
      have c0' : w9.cell? ⟨bk, ok, none⟩ = some (.int .i64 (x0 : Nat)) := c0
      have HHD : Hid (headB C (k + 1) = (x0 : Nat)) := Lib.hid (by rw [headB_succ hkC, hring, ring_head hmm])
      have HFL : Hid ((C.take (k + 1)).flatten.length = s + mm) := Lib.hid (by rw [flat_succ hkC, hs, hring, ring_len])
      have HIT := Lib.hid hit; have HMIN : Hid (∀ j, j < mm → x0 ≤ it P x0 j) := Lib.hid (fun j hj => hmin _ (by rw [hring]; exact ring_mem.2 ⟨j, hj, rfl⟩))
      have HX0 := Lib.hid hx0; have HLT := Lib.hid hlt; have HMM := Lib.hid hmm
      have i1 : (k : Int) < N := by omega
      have i2 : (0 : Int) ≤ k := by omega
      have t7 : decide (k < N) = true := decide_eq_true hlt
      have m0 : ((mm : Int) == 0) = false := by simp; omega
      have m0' : (mm == 0) = false := by simp; omega
      have m1 : (0 : Int) < mm := by omega
      have m2 : ¬ (mm = 0) := by omega
      have m3 : ¬ ((mm : Int) = 0) := by omega
      have m8 : mm ≤ 8 := by omega
      have tz : decide ((x0 : Int) ≤ z0) = false := decide_eq_false (by omega)
      have hs8 : s ≤ 8 := by omega
      clear hs hz0 hlt hkC hmm hx0 hring hit hmin habove hmn hseq hck hlen hcell c0 hsn
      go_wp2_with fail
      go_loopg [19, 21] mm (fun g y z wr => ∃ j, j ≤ mm ∧ g = mm - j ∧ z = .int .i64 (j : Nat) ∧ y = .int .i64 (s + j : Nat) ∧ ∃ d, wr = w9.drewN d)
      case atStart => exact ⟨0, by omega, rfl, rfl, rfl, d, rfl⟩
      case round =>
        obtain ⟨j, hj, rfl, rfl, rfl, d, rfl⟩ := hrel
        have hsj : s + j ≤ 16 := by omega
        obtain ⟨t, ht⟩ : ∃ t, s + j = t := ⟨_, rfl⟩
        rw [ht] at hsj
        rw [ht]
        have HTT := Lib.hid ht
        by_cases hjm : j < mm
        · obtain ⟨y, hy⟩ : ∃ y, it P x0 j = y := ⟨_, rfl⟩
          have hyn : y < n := by rw [← hy]; exact it_lt HO.out HX0.out j
          have hxy : x0 ≤ y := by rw [← hy]; exact HMIN.out j hjm
          obtain ⟨y2, hy2⟩ : ∃ y2, nx P y = y2 := ⟨_, rfl⟩
          have cj := HCK.out j hjm
          rw [hy] at cj
          obtain ⟨bp, op, rfl, hpc⟩ := HP9.out.pos hyn
          have cp := hpc y hyn
          rw [nx_cast HO.out hyn, hy2] at cp
          obtain ⟨r, hr⟩ : ∃ r, (j + 1) % mm = r := ⟨_, rfl⟩
          have hrm : r < mm := by rw [← hr]; exact Nat.mod_lt _ (by omega)
          have cr := HCK.out r hrm
          have hry : it P x0 r = y2 := by
            have h1 : it P x0 (j + 1) = y2 := by rw [← hy2, ← hy]; rfl
            rcases (by omega : j + 1 < mm ∨ j + 1 = mm) with h2 | h2
            · rw [Nat.mod_eq_of_lt h2] at hr; rw [← hr]; exact h1
            · rw [h2, Nat.mod_self] at hr
              rw [← hr, ← h1, h2, HIT.out]; rfl
          rw [hry] at cr
          have hrI : ((j : Int) + 1) % (mm : Int) = (r : Int) := by rw [← hr]; simp
          have i3 : (j : Int) < mm := by omega
          have i4 : (0 : Int) ≤ j := by omega
          have i5 : (r : Int) < mm := by omega
          have i6 : (0 : Int) ≤ r := by omega
          have i7 : (y : Int) < n := by omega
          have i8 : (0 : Int) ≤ y := by omega
          have t8 : decide (j < mm) = true := decide_eq_true hjm
          have t9 : decide ((y : Int) < x0) = false := decide_eq_false (by omega)
          have t9' : decide (y < x0) = false := decide_eq_false (by omega)
          have HJM := Lib.hid hjm
          clear hy hyn hxy hy2 hpc hr hrm hry ht hjm
          go_wp2_with fail
          go_quiet (fail)
          go_wp2_with fail
          go_roundg (mm - (j + 1))
          case rel => exact ⟨j + 1, HJM.out, rfl, by go_num, by rw [← Nat.add_assoc, HTT.out]; go_num, _, rfl⟩
          case measure => have := HJM.out; omega
        · obtain rfl : j = mm := by omega
          have t8 : decide (j < j) = false := by simp
          clear ht hjm
          go_wp2_with fail
          go_roundg (N - (k + 1))
          case rel => exact ⟨k + 1, HLT.out, rfl, by go_num, by rw [HHD.out], by rw [HFL.out, HTT.out], _, rfl⟩
          case measure => have := HLT.out; omega
    · obtain rfl : k = N := by omega
      have t7 : decide (k < k) = false := by simp
      have hsN : s = n := by
        rw [← hs, ← HNL.out, List.take_length]
        exact HRI.out.total
      subst hsN
      have tn : ((s : Int) != s) = false := by simp
      clear hs hz0 hlt hsn
      rcases HU9.out with ⟨hln, hf⟩ | ⟨hln, hf3, bY, Y, hy3, hY, hYP⟩
      · have tl : ((l : Int) == s) = false := by simp; omega
        have HF3 := Lib.hid (show FaultAt 1 1 (w9.drewN d) f3 from hf)
        have HBD := Lib.hid (below_drewN' HB9.out d)
        have K1 := Lib.hid (code_f HF3.out (HG.out.below HBD.out (Nat.le_refl _)))
        clear hln hf
        go_wp2_with fail
        refine K1.out.mono ?_; rintro e w18 ⟨rfl, hb18⟩
        have HB18 := Lib.hid (HBD.out.trans (hb18.mono HBD.out.size))
        have HC18 := Lib.hid ((below_drewN' (Below.refl w9.heap.size w9) d).trans hb18)
        have K2 := Lib.hid (at_f (HF3.out.below hb18 (Nat.le_refl _)) (HG.out.below HB18.out (Nat.le_refl _)))
        clear hb18
        go_wp2_with fail
        refine K2.out.mono ?_; rintro e w20 ⟨rfl, hb20⟩
        have HB20 := Lib.hid (HC18.out.trans (hb20.mono HC18.out.size))
        clear hb20
        have HQT := Lib.hid (HQ9.out.below HB20.out (Nat.le_refl _))
        have HPT := Lib.hid (HP9.out.below HB20.out (Nat.le_refl _))
        have HTT := Lib.hid (HT9.out.below HB20.out (Nat.le_refl _))
        have HBT := Lib.hid (HB9.out.trans (HB20.out.mono HB9.out.size))
        have RT := refRight_any m Q _ w20 HQT.out (by omega)
        rcases HTT.out with ⟨hrq, hf⟩ | ⟨hrq, hnm, hf⟩ | ⟨hrq, hnm, hf2, by2, Y2, hy2, hY2, hY2Q⟩
        · rw [hrq] at RT
          have HRT := Lib.hid RT; have HFT := Lib.hid hf
          clear RT hrq hf
          go_wp2_with fail
          refine HRT.out.mono ?_; rintro e w21 ⟨rfl, hw21⟩; obtain rfl := hw21.symm
          have K1 := Lib.hid (code_f HFT.out (HG.out.below HBT.out (Nat.le_refl _)))
          go_wp2_with fail
          refine K1.out.mono ?_; rintro e w22 ⟨rfl, hb22⟩
          have HB22 := Lib.hid (HBT.out.trans (hb22.mono HBT.out.size))
          have K2 := Lib.hid (at_f (HFT.out.below hb22 (Nat.le_refl _)) (HG.out.below HB22.out (Nat.le_refl _)))
          clear hb22
          go_wp2_with fail
          refine K2.out.mono ?_; rintro e w23 ⟨rfl, hb23⟩
          have HB23 := Lib.hid (HB22.out.trans (hb23.mono HB22.out.size))
          clear hb23
          go_wp2_with fail
          go_ret
          exact ⟨rfl, HB23.out⟩
        · rw [hrq] at RT
          have HRT := Lib.hid RT; have HFT := Lib.hid hf
          have tnm : ((m : Int) != s) = true := by simp; omega
          clear RT hrq hf hnm
          go_wp2_with fail
          refine HRT.out.mono ?_; rintro e w21 ⟨rfl, hw21⟩; obtain rfl := hw21.symm
          have K1 := Lib.hid (code_f HFT.out (HG.out.below HBT.out (Nat.le_refl _)))
          go_wp2_with fail
          refine K1.out.mono ?_; rintro e w22 ⟨rfl, hb22⟩
          have HB22 := Lib.hid (HBT.out.trans (hb22.mono HBT.out.size))
          have K2 := Lib.hid (at_f (HFT.out.below hb22 (Nat.le_refl _)) (HG.out.below HB22.out (Nat.le_refl _)))
          clear hb22
          go_wp2_with fail
          refine K2.out.mono ?_; rintro e w23 ⟨rfl, hb23⟩
          have HB23 := Lib.hid (HB22.out.trans (hb23.mono HB22.out.size))
          clear hb23
          go_wp2_with fail
          go_ret
          exact ⟨rfl, HB23.out⟩
        · rw [hrq] at RT
          have HRT := Lib.hid RT; have HY2 := Lib.hid hY2; have HY2Q := Lib.hid hY2Q; have HHY := Lib.hid hy2
          have tnm : ((m : Int) != s) = false := by simp [hnm]
          have HNM := Lib.hid hnm
          rw [hf2]
          rw [hy2] at HY2 ⊢
          clear RT hrq hnm hY2 hY2Q hf2 hy2
          go_wp2_with fail
          refine HRT.out.mono ?_; rintro e w21 ⟨rfl, hw21⟩; obtain rfl := hw21.symm
          go_wp2_with fail
          go_loopg [23] s (fun g y wr => ∃ k, k ≤ s ∧ g = s - k ∧ y = .int .i64 (k : Nat) ∧ ∃ d, wr = w20.drewN d)
          case atStart => exact ⟨0, by omega, rfl, rfl, 0, rfl⟩
          case round =>
            obtain ⟨k, hk, rfl, rfl, d, rfl⟩ := hrel
            by_cases hlt : k < s
            · obtain ⟨y, hy⟩ : ∃ y, nx P k = y := ⟨_, rfl⟩
              have hyn : y < s := by rw [← hy]; exact nx_lt HO.out hlt
              have hym : y < m := by have := HNM.out; omega
              obtain ⟨bp, op, rfl, hpc⟩ := HPT.out.pos hlt
              obtain ⟨bq, oq, rfl, hqc⟩ := HQT.out.pos hym
              obtain ⟨by3, oy3, hey, hyc⟩ := HY2.out.pos hlt
              injection hey with hey
              injection hey with hey1 hey2
              subst hey1 hey2
              have c1 := hpc k hlt
              rw [nx_cast HO.out hlt, hy] at c1
              have c2 := hqc y hym
              have c3 := hyc k hlt
              rw [Nat.zero_add, HY2Q.out k hlt] at c3
              rw [show (P k).toNat = y from hy] at c3
              obtain ⟨z, hz⟩ : ∃ z : Int, Q y = z := ⟨_, rfl⟩
              rw [hz] at c2 c3
              have i1 : (k : Int) < s := by omega
              have i2 : (0 : Int) ≤ k := by omega
              have i3 : (y : Int) < s := by omega
              have i3' : (y : Int) < m := by omega
              have i4 : (0 : Int) ≤ y := by omega
              have t7 : decide (k < s) = true := decide_eq_true hlt
              have HLT := Lib.hid hlt
              clear hpc hqc hyc hz hy hlt hym hyn
              go_wp2_with fail
              go_quiet (fail)
              go_wp2_with fail
              go_roundg (s - (k + 1))
              case rel => exact ⟨k + 1, HLT.out, rfl, by go_num, _, rfl⟩
              case measure => have := HLT.out; omega
            · obtain rfl : k = s := by omega
              have t7 : decide (k < k) = false := by simp
              clear hlt
              go_wp2_with fail
              go_ret
              exact ⟨rfl, below_drewN' HBT.out _⟩
      · have tl : ((l : Int) == s) = true := by simp [hln]
        have HLN := Lib.hid hln; have HY := Lib.hid hY; have HYP := Lib.hid hYP
        rw [hf3]
        rw [hy3] at HY ⊢
        clear hln hY hYP hf3 hy3
        go_wp2_with fail
        go_loopg [22] l (fun g y wr => ∃ k, k ≤ l ∧ g = l - k ∧ y = .int .i64 (k : Nat) ∧ ∃ d, wr = w9.drewN d)
        case atStart => exact ⟨0, by omega, rfl, rfl, d, rfl⟩
        case round =>
          obtain ⟨q, hq, rfl, rfl, d, rfl⟩ := hrel
          by_cases hlt : q < l
          · have hqs : q < s := by have := HLN.out; omega
            obtain ⟨y, hy⟩ : ∃ y, nx P q = y := ⟨_, rfl⟩
            have hyn : y < s := by rw [← hy]; exact nx_lt HO.out hqs
            obtain ⟨bp, op, rfl, hpc⟩ := HP9.out.pos hqs
            obtain ⟨bl, ol, rfl, hlc⟩ := HL9.out.pos hlt
            obtain ⟨by3, oy3, hey, hyc⟩ := HY.out.pos hyn
            injection hey with hey
            injection hey with hey1 hey2
            subst hey1 hey2
            have c1 := hpc q hqs
            rw [nx_cast HO.out hqs, hy] at c1
            have c2 := hlc q hlt
            have c3 := hyc y hyn
            have hyq := HYP.out q hqs
            rw [show (P q).toNat = y from hy] at hyq
            rw [Nat.zero_add, hyq] at c3
            obtain ⟨z, hz⟩ : ∃ z : Int, L q = z := ⟨_, rfl⟩
            rw [hz] at c2 c3
            have i1 : (q : Int) < l := by omega
            have i1' : (q : Int) < s := by omega
            have i2 : (0 : Int) ≤ q := by omega
            have i3 : (y : Int) < s := by omega
            have i4 : (0 : Int) ≤ y := by omega
            have t8 : decide (q < l) = true := decide_eq_true hlt
            have HLT := Lib.hid hlt
            clear hpc hlc hyc hz hy hlt hyq hyn hqs
            go_wp2_with fail
            go_quiet (fail)
            go_wp2_with fail
            go_roundg (l - (q + 1))
            case rel => exact ⟨q + 1, HLT.out, rfl, by go_num, _, rfl⟩
            case measure => have := HLT.out; omega
          · obtain rfl : q = l := by omega
            have t8 : decide (q < q) = false := by simp
            obtain ⟨w20, hw20⟩ : ∃ W, w9.drewN d = W := ⟨_, rfl⟩
            have HB20 : Hid (Below w9.heap.size w9 w20) := Lib.hid (by rw [← hw20]; exact below_drewN' (Below.refl _ _) d)
            rw [hw20]
            clear hlt hw20
            have HQT := Lib.hid (HQ9.out.below HB20.out (Nat.le_refl _))
            have HPT := Lib.hid (HP9.out.below HB20.out (Nat.le_refl _))
            have HTT := Lib.hid (HT9.out.below HB20.out (Nat.le_refl _))
            have HBT := Lib.hid (HB9.out.trans (HB20.out.mono HB9.out.size))
            have RT := refRight_any m Q _ w20 HQT.out (by omega)
            rcases HTT.out with ⟨hrq, hf⟩ | ⟨hrq, hnm, hf⟩ | ⟨hrq, hnm, hf2, by2, Y2, hy2, hY2, hY2Q⟩
            · rw [hrq] at RT
              have HRT := Lib.hid RT; have HFT := Lib.hid hf
              clear RT hrq hf
              go_wp2_with fail
              refine HRT.out.mono ?_; rintro e w21 ⟨rfl, hw21⟩; obtain rfl := hw21.symm
              have K1 := Lib.hid (code_f HFT.out (HG.out.below HBT.out (Nat.le_refl _)))
              go_wp2_with fail
              refine K1.out.mono ?_; rintro e w22 ⟨rfl, hb22⟩
              have HB22 := Lib.hid (HBT.out.trans (hb22.mono HBT.out.size))
              have K2 := Lib.hid (at_f (HFT.out.below hb22 (Nat.le_refl _)) (HG.out.below HB22.out (Nat.le_refl _)))
              clear hb22
              go_wp2_with fail
              refine K2.out.mono ?_; rintro e w23 ⟨rfl, hb23⟩
              have HB23 := Lib.hid (HB22.out.trans (hb23.mono HB22.out.size))
              clear hb23
              go_wp2_with fail
              go_ret
              exact ⟨rfl, HB23.out⟩
            · rw [hrq] at RT
              have HRT := Lib.hid RT; have HFT := Lib.hid hf
              have tnm : ((m : Int) != s) = true := by simp; omega
              clear RT hrq hf hnm
              go_wp2_with fail
              refine HRT.out.mono ?_; rintro e w21 ⟨rfl, hw21⟩; obtain rfl := hw21.symm
              have K1 := Lib.hid (code_f HFT.out (HG.out.below HBT.out (Nat.le_refl _)))
              go_wp2_with fail
              refine K1.out.mono ?_; rintro e w22 ⟨rfl, hb22⟩
              have HB22 := Lib.hid (HBT.out.trans (hb22.mono HBT.out.size))
              have K2 := Lib.hid (at_f (HFT.out.below hb22 (Nat.le_refl _)) (HG.out.below HB22.out (Nat.le_refl _)))
              clear hb22
              go_wp2_with fail
              refine K2.out.mono ?_; rintro e w23 ⟨rfl, hb23⟩
              have HB23 := Lib.hid (HB22.out.trans (hb23.mono HB22.out.size))
              clear hb23
              go_wp2_with fail
              go_ret
              exact ⟨rfl, HB23.out⟩
            · rw [hrq] at RT
              have HRT := Lib.hid RT; have HY2 := Lib.hid hY2; have HY2Q := Lib.hid hY2Q; have HHY := Lib.hid hy2
              have tnm : ((m : Int) != s) = false := by simp [hnm]
              have HNM := Lib.hid hnm
              rw [hf2]
              rw [hy2] at HY2 ⊢
              clear RT hrq hnm hY2 hY2Q hf2 hy2
              go_wp2_with fail
              refine HRT.out.mono ?_; rintro e w21 ⟨rfl, hw21⟩; obtain rfl := hw21.symm
              go_wp2_with fail
              go_loopg [23] s (fun g y wr => ∃ k, k ≤ s ∧ g = s - k ∧ y = .int .i64 (k : Nat) ∧ ∃ d, wr = w20.drewN d)
              case atStart => exact ⟨0, by omega, rfl, rfl, 0, rfl⟩
              case round =>
                obtain ⟨k, hk, rfl, rfl, d, rfl⟩ := hrel
                by_cases hlt : k < s
                · obtain ⟨y, hy⟩ : ∃ y, nx P k = y := ⟨_, rfl⟩
                  have hyn : y < s := by rw [← hy]; exact nx_lt HO.out hlt
                  have hym : y < m := by have := HNM.out; omega
                  obtain ⟨bp, op, rfl, hpc⟩ := HPT.out.pos hlt
                  obtain ⟨bq, oq, rfl, hqc⟩ := HQT.out.pos hym
                  obtain ⟨by3, oy3, hey, hyc⟩ := HY2.out.pos hlt
                  injection hey with hey
                  injection hey with hey1 hey2
                  subst hey1 hey2
                  have c1 := hpc k hlt
                  rw [nx_cast HO.out hlt, hy] at c1
                  have c2 := hqc y hym
                  have c3 := hyc k hlt
                  rw [Nat.zero_add, HY2Q.out k hlt] at c3
                  rw [show (P k).toNat = y from hy] at c3
                  obtain ⟨z, hz⟩ : ∃ z : Int, Q y = z := ⟨_, rfl⟩
                  rw [hz] at c2 c3
                  have i1 : (k : Int) < s := by omega
                  have i2 : (0 : Int) ≤ k := by omega
                  have i3 : (y : Int) < s := by omega
                  have i3' : (y : Int) < m := by omega
                  have i4 : (0 : Int) ≤ y := by omega
                  have t7 : decide (k < s) = true := decide_eq_true hlt
                  have HLT := Lib.hid hlt
                  clear hpc hqc hyc hz hy hlt hym hyn
                  go_wp2_with fail
                  go_quiet (fail)
                  go_wp2_with fail
                  go_roundg (s - (k + 1))
                  case rel => exact ⟨k + 1, HLT.out, rfl, by go_num, _, rfl⟩
                  case measure => have := HLT.out; omega
                · obtain rfl : k = s := by omega
                  have t7 : decide (k < k) = false := by simp
                  clear hlt
                  go_wp2_with fail
                  go_ret
                  exact ⟨rfl, below_drewN' HBT.out _⟩
end Go.Proofs.YtlkmbhbjhiobiaaDoor
