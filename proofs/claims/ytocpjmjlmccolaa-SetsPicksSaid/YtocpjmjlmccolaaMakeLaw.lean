/- SetsMake: the law. -/
import Derived.Test.YtocpjmjlmccolaaAlive6
namespace Go.Proofs.Ytocpjmjlmccolaa
open Go.RowKit

theorem sameI_self (L : List Int) : sameI (fun i => L.getD i 0) L.length (fun i => L.getD i 0) L.length = true := by
  unfold sameI
  rw [Bool.and_eq_true, eqUpto_iff]
  exact ⟨by simp, fun i _ => rfl⟩
theorem sameI_iff {L M : List Int} : sameI (fun i => L.getD i 0) L.length (fun i => M.getD i 0) M.length = true ↔ L = M := by
  constructor
  · intro h
    unfold sameI at h
    rw [Bool.and_eq_true, eqUpto_iff, decide_eq_true_eq] at h
    apply List.ext_getElem h.1
    intro i h1 h2
    have := h.2 i h1
    simpa [List.getD, h1, h2] using this
  · rintro rfl
    exact sameI_self L
/-- Do the first q + 1 numbers rise? -/
def adjB (L : List Int) : Nat → Bool
  | 0 => true
  | q + 1 => adjB L q && decide (L.getD q 0 < L.getD (q + 1) 0)
theorem adjB_iff {L : List Int} : ∀ {q : Nat}, adjB L q = true ↔ ∀ j, j < q → L.getD j 0 < L.getD (j + 1) 0
  | 0 => by simp [adjB]
  | q + 1 => by
    rw [adjB, Bool.and_eq_true, adjB_iff, decide_eq_true_eq]
    constructor
    · rintro ⟨h1, h2⟩ j hj
      rcases (by omega : j = q ∨ j < q) with rfl | h
      · exact h2
      · exact h1 j h
    · exact fun h => ⟨fun j hj => h j (by omega), h q (by omega)⟩
theorem adjB_rising {L : List Int} {q : Nat} (h1 : L.length ≤ q + 1) (h2 : q = 0 ∨ q + 1 ≤ L.length) : adjB L q = risingB L := by
  rw [Bool.eq_iff_iff, adjB_iff]
  unfold risingB
  rw [decide_eq_true_eq]
  exact ⟨fun h => rising_adj L fun j hj => h j (by omega), fun h j hj => adj_rising h (by omega)⟩
theorem risingB_true {L : List Int} (h : Rising L) : risingB L = true := decide_eq_true h

set_option maxRecDepth 100000 in
theorem setsMake_long (n m c c' : Nat) (A A' : Option Addr) (w : World) (h : 100 < n ∨ 100 < m) :
    Calls Try.prog 3 #[.slice A n c, .slice A' m c'] w fun e w' => e = .returned (.bool true) ∧ Below w.heap.size w w' := by
  have AL := Lib.hid (alive6_ok w)
  have hc : decide ((100 : Int) < n) = true ∨ (decide ((100 : Int) < n) = false ∧ decide ((100 : Int) < m) = true) := by
    simp only [decide_eq_true_eq, decide_eq_false_iff_not]; omega
  clear h
  rcases hc with t1 | ⟨t1, t2⟩
  all_goals
    go_enter Try.func3, Try.ntmps3
    go_wp2_with fail
    refine AL.out.mono ?_; rintro e w1 ⟨rfl, hb1⟩
    go_wp2_with fail
    go_ret
    exact ⟨rfl, hb1⟩

set_option maxRecDepth 100000 in
set_option maxHeartbeats 4000000 in
theorem setsMake_law (A B : List Int) (v u : Value) (w : World) (ha : SeqV w v A) (hb : SeqV w u B) (hla : A.length ≤ 100) (hlb : B.length ≤ 100) :
    Calls Try.prog 3 #[v, u] w fun e w' => e = .returned (.bool true) ∧ Below w.heap.size w w' := by
  have AL := Lib.hid (alive6_ok w)
  obtain ⟨Aa, ca, rfl⟩ := IntsV.form ha
  obtain ⟨Ab, cb, rfl⟩ := IntsV.form hb
  obtain ⟨n, hn⟩ : ∃ n, A.length = n := ⟨_, rfl⟩
  obtain ⟨m, hm⟩ : ∃ m, B.length = m := ⟨_, rfl⟩
  have HA := Lib.hid ha; have HB := Lib.hid hb
  rw [hn] at HA hla ⊢
  rw [hm] at HB hlb ⊢
  have HN := Lib.hid hn; have HM := Lib.hid hm
  have t1 : decide ((100 : Int) < n) = false := decide_eq_false (by omega)
  have t2 : decide ((100 : Int) < m) = false := decide_eq_false (by omega)
  clear ha hb hn hm
  go_enter Try.func3, Try.ntmps3
  go_wp2_with fail
  refine AL.out.mono ?_; rintro e w1 ⟨rfl, hb1⟩
  have HA1 := Lib.hid (HA.out.below hb1 (Nat.le_refl _)); have HB1 := Lib.hid (HB.out.below hb1 (Nat.le_refl _)); have HW1 := Lib.hid hb1
  have O1 := Lib.hid (of_any A _ w1 HA1.out (by rw [HN.out]; omega))
  clear hb1
  go_wp2_with fail
  refine O1.out.mono ?_; rintro e w2 ⟨v2, rfl, hs2, hb2⟩
  have HA2 := Lib.hid (HA1.out.below hb2 (Nat.le_refl _)); have HB2 := Lib.hid (HB1.out.below hb2 (Nat.le_refl _)); have HW2 := Lib.hid (HW1.out.trans (hb2.mono HW1.out.size))
  obtain ⟨_, As, cs, rfl, _⟩ := id hs2
  obtain ⟨S, hS⟩ : ∃ S, ofR A = S := ⟨_, rfl⟩
  have hrS : Rising S := by rw [← hS]; exact (ofR_parts _ A rfl).1
  have hlS : S.length ≤ 100 := by rw [← hS]; have := (ofR_parts _ A rfl).2.2; have := HN.out; omega
  rw [hS] at hs2
  rw [hS]
  have HSS := Lib.hid hS; have HRS := Lib.hid hrS
  have HS2 := Lib.hid hs2.1
  obtain ⟨k, hk⟩ : ∃ k, S.length = k := ⟨_, rfl⟩
  rw [hk] at HS2 hlS ⊢
  have HK := Lib.hid hk
  clear hS hrS hs2 hb2 hk
  go_wp2_with fail
  go_loopg [6, 7] n (fun g x y wr => ∃ q, (q = 0 ∨ q + 1 ≤ n) ∧ g = n - q ∧ x = .bool (adjB A q) ∧ y = .int .i64 ((q : Int) + 1) ∧ ∃ d, wr = w2.drewN d)
  case atStart => exact ⟨0, Or.inl rfl, rfl, rfl, rfl, 0, rfl⟩
  case round =>
    obtain ⟨q, hq, rfl, rfl, rfl, d, rfl⟩ := hrel
    have HQ := Lib.hid hq
    have hq1 : q ≤ 100 := by omega
    by_cases hlt : q + 1 < n
    · obtain ⟨b, off, rfl, hcell⟩ := IntsV.pos (by have := HA2.out; unfold SeqV at this; rw [HN.out] at this; exact this) hlt
      have hc := hcell (q + 1) hlt
      have hc' := hcell q (by omega)
      obtain ⟨z, hz⟩ : ∃ z : Int, A.getD (q + 1) 0 = z := ⟨_, rfl⟩
      obtain ⟨y, hy⟩ : ∃ z : Int, A.getD q 0 = z := ⟨_, rfl⟩
      have c1 : w2.cell? ⟨b, off + (q + 1), none⟩ = some (.int .i64 z) := by rw [← hz]; exact hc
      have c2 : w2.cell? ⟨b, off + q, none⟩ = some (.int .i64 y) := by rw [← hy]; exact hc'
      have t3 : decide ((q : Int) + 1 < n) = true := decide_eq_true (by omega)
      have t3' : decide (q + 1 < n) = true := decide_eq_true hlt
      have i1 : (q : Int) + 1 < n := by omega
      have i2 : (0 : Int) ≤ q := by omega
      have i3 : (q : Int) < n := by omega
      have HLT := Lib.hid hlt
      have HST : Hid (adjB A (q + 1) = (adjB A q && decide (y < z))) := Lib.hid (by rw [adjB, hz, hy])
      obtain ⟨r, hr⟩ : ∃ r, adjB A q = r := ⟨_, rfl⟩
      rw [hr] at HST ⊢
      clear hcell hc hc' hz hy hlt hq hr
      cases r with
      | false =>
        have HF : Hid (adjB A (q + 1) = false) := Lib.hid (by rw [HST.out]; rfl)
        go_wp2_with fail
        go_quiet (fail)
        go_wp2_with fail
        go_roundg (n - (q + 1))
        case rel => exact ⟨q + 1, Or.inr (by have := HLT.out; omega), rfl, by rw [HF.out], by go_num, _, rfl⟩
        case measure => have := HLT.out; omega
      | true =>
        by_cases hyz : y < z
        · have t4 : decide (y < z) = true := decide_eq_true hyz
          have HF : Hid (adjB A (q + 1) = true) := Lib.hid (by rw [HST.out, t4]; rfl)
          clear hyz
          go_wp2_with fail
          go_quiet (fail)
          go_wp2_with fail
          go_roundg (n - (q + 1))
          case rel => exact ⟨q + 1, Or.inr (by have := HLT.out; omega), rfl, by rw [HF.out], by go_num, _, rfl⟩
          case measure => have := HLT.out; omega
        · have t4 : decide (y < z) = false := decide_eq_false hyz
          have HF : Hid (adjB A (q + 1) = false) := Lib.hid (by rw [HST.out, t4]; rfl)
          clear hyz
          go_wp2_with fail
          go_quiet (fail)
          go_wp2_with fail
          go_roundg (n - (q + 1))
          case rel => exact ⟨q + 1, Or.inr (by have := HLT.out; omega), rfl, by rw [HF.out], by go_num, _, rfl⟩
          case measure => have := HLT.out; omega
    · have t3 : decide ((q : Int) + 1 < n) = false := decide_eq_false (by omega)
      have t3' : decide (q + 1 < n) = false := decide_eq_false hlt
      have hadj : adjB A q = risingB A := adjB_rising (by rw [HN.out]; omega) (by rw [HN.out]; exact hq)
      rw [hadj]
      obtain ⟨r, hr⟩ : ∃ r, risingB A = r := ⟨_, rfl⟩
      have HR := Lib.hid hr
      rw [hr]
      obtain ⟨w3, hw3⟩ : ∃ W, w2.drewN d = W := ⟨_, rfl⟩
      have hA3 : SeqV w3 (.slice Aa A.length ca) A := by rw [← hw3, HN.out]; have := HA2.out; exact this
      have hB3 : SeqV w3 (.slice Ab B.length cb) B := by rw [← hw3, HM.out]; have := HB2.out; exact this
      have hS3 : SeqV w3 (.slice As S.length cs) S := by rw [← hw3, HK.out]; have := HS2.out; exact this
      have hW3 : Below w.heap.size w w3 := by rw [← hw3]; exact below_drewN' HW2.out d
      rw [hw3]
      have R1 := refOf_any A _ w3 hA3 (by rw [HN.out]; omega)
      rw [HN.out, HSS.out] at R1
      have HR1 := Lib.hid R1; have HA3 := Lib.hid hA3; have HB3 := Lib.hid hB3; have HS3 := Lib.hid hS3; have HW3 := Lib.hid hW3
      clear hadj hr hw3 hA3 hB3 hS3 hW3 R1 hlt hq
      go_wp2_with fail
      refine HR1.out.mono ?_; rintro e w4 ⟨v4, rfl, hs4, hb4⟩
      have hA4 := HA3.out.below hb4 (Nat.le_refl _); have hB4 := HB3.out.below hb4 (Nat.le_refl _); have hS4 := HS3.out.below hb4 (Nat.le_refl _)
      have HW4 := Lib.hid (HW3.out.trans (hb4.mono HW3.out.size))
      have E1 := sameInts_any _ _ _ _ _ _ w4 hS4 hs4.1 (by rw [HK.out]; omega)
      rw [sameI_self] at E1
      obtain ⟨_, A4, c4, rfl, _⟩ := hs4
      have R2 := fun d => right6_any A _ (w4.drewN d) (show SeqV (w4.drewN d) _ A from hA4) (by rw [HN.out]; omega)
      have R3 := fun d => right6_any S _ (w4.drewN d) (show SeqV (w4.drewN d) _ S from hS4) (by rw [HK.out]; omega)
      have R4 := fun d => compare_any A B _ _ (w4.drewN d) (show SeqV (w4.drewN d) _ A from hA4) (show SeqV (w4.drewN d) _ B from hB4) (by rw [HN.out]; omega) (by rw [HM.out]; omega)
      have R5 := fun d => refCompare_any A B _ _ (w4.drewN d) (show SeqV (w4.drewN d) _ A from hA4) (show SeqV (w4.drewN d) _ B from hB4) (by rw [HN.out]; omega) (by rw [HM.out]; omega)
      have R6 := fun d => compare_any B A _ _ (w4.drewN d) (show SeqV (w4.drewN d) _ B from hB4) (show SeqV (w4.drewN d) _ A from hA4) (by rw [HM.out]; omega) (by rw [HN.out]; omega)
      have hneg := cmpL_neg A B
      have hrng := cmpL_rng A B
      obtain ⟨x, hx⟩ : ∃ x, cmpL A B = x := ⟨_, rfl⟩
      simp only [hneg, hx, HN.out, HM.out, HK.out, HR.out, risingB_true HRS.out] at R2 R3 R4 R5 R6 E1 hrng
      have hx0 : -1 ≤ x := by omega
      have hx1 : x ≤ 1 := by omega
      have tr : (r == r) = true := by simp
      have tx : (x == x) = true := by simp
      have tn : (-x == -x) = true := by simp
      have HE1 := Lib.hid E1; have HR2 := Lib.hid R2; have HR3 := Lib.hid R3; have HR4 := Lib.hid R4; have HR5 := Lib.hid R5; have HR6 := Lib.hid R6
      clear hA4 hB4 hS4 hb4 E1 R2 R3 R4 R5 R6 hneg hx hrng
      rw [HK.out]
      go_wp2_with fail
      refine HE1.out.mono ?_; rintro e w5 ⟨rfl, d5, rfl⟩
      go_wp2_with fail
      refine (HR2.out d5).mono ?_; rintro e w6 ⟨rfl, d6, rfl⟩
      rw [World.drewN_drewN]
      go_wp2_with fail
      refine (HR3.out _).mono ?_; rintro e w7 ⟨rfl, d7, rfl⟩
      rw [World.drewN_drewN]
      go_wp2_with fail
      refine (HR4.out _).mono ?_; rintro e w8 ⟨rfl, rfl⟩
      go_wp2_with fail
      refine (HR5.out _).mono ?_; rintro e w9 ⟨rfl, d9, rfl⟩
      rw [World.drewN_drewN]
      go_wp2_with fail
      refine (HR6.out _).mono ?_; rintro e w10 ⟨rfl, rfl⟩
      go_wp2_with fail
      refine (HR4.out _).mono ?_; rintro e w11 ⟨rfl, rfl⟩
      go_wp2_with fail
      go_ret
      exact ⟨rfl, below_drewN' HW4.out _⟩
end Go.Proofs.Ytocpjmjlmccolaa
