/- sets: Right, Compare (and the document's), by contract. -/
import Derived.Test.YtocpjmjlmccolaaRef06b
namespace Go.Proofs.Ytocpjmjlmccolaa
open Go.RowKit

/-- Which number comes first. -/
def cmp3 (a b : Int) : Int := if a < b then -1 else if b < a then 1 else 0
theorem cmp3_lt {a b : Int} (h : a < b) : cmp3 a b = -1 := if_pos h
theorem cmp3_gt {a b : Int} (h1 : ¬ a < b) (h : b < a) : cmp3 a b = 1 := by unfold cmp3; rw [if_neg h1, if_pos h]
theorem cmp3_eq {a b : Int} (h1 : ¬ a < b) (h : ¬ b < a) : cmp3 a b = 0 := by unfold cmp3; rw [if_neg h1, if_neg h]
/-- Which list comes first. -/
def cmpL : List Int → List Int → Int
  | [], [] => 0
  | [], _ :: _ => -1
  | _ :: _, [] => 1
  | a :: s, b :: t => if a < b then -1 else if b < a then 1 else cmpL s t
theorem cmpL_step {A B : List Int} {k : Nat} (ha : k < A.length) (hb : k < B.length) :
    cmpL (A.drop k) (B.drop k) = if A.getD k 0 < B.getD k 0 then -1 else if B.getD k 0 < A.getD k 0 then 1 else cmpL (A.drop (k + 1)) (B.drop (k + 1)) := by
  rw [List.drop_eq_getElem_cons ha, List.drop_eq_getElem_cons hb, cmpL]
  simp [List.getD, ha, hb]
theorem cmpL_endA {A B : List Int} {k : Nat} (ha : A.length ≤ k) : cmpL (A.drop k) (B.drop k) = if k < B.length then -1 else 0 := by
  rw [List.drop_of_length_le ha]
  by_cases h : k < B.length
  · rw [if_pos h, List.drop_eq_getElem_cons h]; rfl
  · rw [if_neg h, List.drop_of_length_le (by omega)]; rfl
theorem cmpL_endB {A B : List Int} {k : Nat} (hb : B.length ≤ k) (ha : k < A.length) : cmpL (A.drop k) (B.drop k) = 1 := by
  rw [List.drop_of_length_le hb, List.drop_eq_getElem_cons ha]; rfl
theorem cmpL_self : ∀ A, cmpL A A = 0
  | [] => rfl
  | a :: s => by rw [cmpL, if_neg (by omega), if_neg (by omega)]; exact cmpL_self s
theorem cmpL_neg : ∀ A B, cmpL B A = -cmpL A B
  | [], [] => rfl
  | [], _ :: _ => rfl
  | _ :: _, [] => rfl
  | a :: s, b :: t => by
    rw [cmpL, cmpL]
    by_cases h1 : a < b
    · rw [if_neg (by omega), if_pos h1, if_pos h1]; rfl
    · rw [if_neg h1]
      by_cases h2 : b < a
      · rw [if_pos h2, if_pos h2, if_neg h1]
      · rw [if_neg h2, if_neg h2, if_neg h1]; exact cmpL_neg s t
theorem cmpL_zero : ∀ {A B : List Int}, cmpL A B = 0 ↔ A = B
  | [], [] => by simp [cmpL]
  | [], _ :: _ => by simp [cmpL]
  | _ :: _, [] => by simp [cmpL]
  | a :: s, b :: t => by
    rw [cmpL]
    by_cases h1 : a < b
    · rw [if_pos h1]; simp; omega
    · rw [if_neg h1]
      by_cases h2 : b < a
      · rw [if_pos h2]; simp; omega
      · have : a = b := by omega
        subst this
        rw [if_neg h2, cmpL_zero]; simp
theorem cmpL_rng : ∀ A B, cmpL A B = -1 ∨ cmpL A B = 0 ∨ cmpL A B = 1
  | [], [] => by simp [cmpL]
  | [], _ :: _ => by simp [cmpL]
  | _ :: _, [] => by simp [cmpL]
  | a :: s, b :: t => by
    rw [cmpL]
    split
    · simp
    · split
      · simp
      · exact cmpL_rng s t

set_option maxRecDepth 100000 in
theorem cmp_ints (a b : Int) (w : World) : Calls Try.prog 39 #[.int .i64 a, .int .i64 b] w fun e w' => e = .returned (.int .i64 (cmp3 a b)) ∧ w' = w := by
  have N1 := fun (x : Int) (w : World) => show Calls Try.prog 57 #[.int .i64 x] w fun e w' => e = .returned (.bool false) ∧ w' = w by
    have t : (x != x) = false := by simp
    go_enter Try.func57, Try.ntmps57
    go_wp2
    go_ret
    exact ⟨rfl, rfl⟩
  have H1 := Lib.hid (N1 a w); have H2 := Lib.hid (N1 b w)
  clear N1
  by_cases h1 : a < b
  · have t1 : decide (a < b) = true := decide_eq_true h1
    have HR : Hid (cmp3 a b = -1) := Lib.hid (cmp3_lt h1)
    clear h1
    go_enter Try.func39, Try.ntmps39
    go_wp2_with fail
    refine H1.out.mono ?_; rintro e w1 ⟨rfl, hw1⟩; obtain rfl := hw1.symm
    go_wp2_with fail
    refine H2.out.mono ?_; rintro e w1 ⟨rfl, hw1⟩; obtain rfl := hw1.symm
    go_wp2_with fail
    go_ret
    exact ⟨by rw [HR.out]; rfl, rfl⟩
  · have t1 : decide (a < b) = false := decide_eq_false h1
    by_cases h2 : b < a
    · have t2 : decide (b < a) = true := decide_eq_true h2
      have HR : Hid (cmp3 a b = 1) := Lib.hid (cmp3_gt h1 h2)
      clear h1 h2
      go_enter Try.func39, Try.ntmps39
      go_wp2_with fail
      refine H1.out.mono ?_; rintro e w1 ⟨rfl, hw1⟩; obtain rfl := hw1.symm
      go_wp2_with fail
      refine H2.out.mono ?_; rintro e w1 ⟨rfl, hw1⟩; obtain rfl := hw1.symm
      go_wp2_with fail
      go_ret
      exact ⟨by rw [HR.out]; rfl, rfl⟩
    · have t2 : decide (b < a) = false := decide_eq_false h2
      have HR : Hid (cmp3 a b = 0) := Lib.hid (cmp3_eq h1 h2)
      clear h1 h2
      go_enter Try.func39, Try.ntmps39
      go_wp2_with fail
      refine H1.out.mono ?_; rintro e w1 ⟨rfl, hw1⟩; obtain rfl := hw1.symm
      go_wp2_with fail
      refine H2.out.mono ?_; rintro e w1 ⟨rfl, hw1⟩; obtain rfl := hw1.symm
      go_wp2_with fail
      go_ret
      exact ⟨by rw [HR.out]; rfl, rfl⟩

set_option maxRecDepth 100000 in
set_option maxHeartbeats 2000000 in
theorem slCompare_any (A B : List Int) (v u : Value) (w : World) (ha : SeqV w v A) (hb : SeqV w u B) (hl : A.length ≤ 1000000000) (_hm : B.length ≤ 1000000000) :
    Calls Try.prog 31 #[v, u] w fun e w' => e = .returned (.int .i64 (cmpL A B)) ∧ w' = w := by
  obtain ⟨Aa, ca, rfl⟩ := IntsV.form ha
  obtain ⟨Ab, cb, rfl⟩ := IntsV.form hb
  obtain ⟨n, hn⟩ : ∃ n, A.length = n := ⟨_, rfl⟩
  obtain ⟨m, hm⟩ : ∃ m, B.length = m := ⟨_, rfl⟩
  unfold SeqV at ha hb
  rw [hn] at ha hl ⊢
  rw [hm] at hb _hm ⊢
  have HA := Lib.hid ha; have HB := Lib.hid hb; have HN := Lib.hid hn; have HM := Lib.hid hm
  clear ha hb hn hm
  go_enter Try.func31, Try.ntmps31
  go_wp2_with fail
  go_loopg [11] n (fun g y wr => ∃ k, k ≤ n ∧ k ≤ m ∧ g = n - k ∧ y = .int .i64 (k : Nat) ∧ cmpL A B = cmpL (A.drop k) (B.drop k) ∧ wr = w)
  case atStart => exact ⟨0, by omega, by omega, rfl, rfl, rfl, rfl⟩
  case round =>
    obtain ⟨k, hk, hkm, rfl, rfl, heq, rfl⟩ := hrel
    have HE := Lib.hid heq
    clear heq
    by_cases hlt : k < n
    · obtain ⟨b, off, rfl, hcell⟩ := HA.out.pos hlt
      have hc := hcell k hlt
      obtain ⟨z, hz⟩ : ∃ z : Int, A.getD k 0 = z := ⟨_, rfl⟩
      have hc1 : wr.cell? ⟨b, off + k, none⟩ = some (.int .i64 z) := by rw [← hz]; exact hc
      have t1 : decide (k < n) = true := decide_eq_true hlt
      have i1 : (k : Int) < n := by omega
      have i2 : (0 : Int) ≤ k := by omega
      have HLT := Lib.hid hlt; have HZ := Lib.hid hz
      clear hcell hc hz hlt
      by_cases hltm : k < m
      · obtain ⟨b', off', rfl, hcell'⟩ := HB.out.pos hltm
        have hc' := hcell' k hltm
        obtain ⟨y, hy⟩ : ∃ z : Int, B.getD k 0 = z := ⟨_, rfl⟩
        have hc2 : wr.cell? ⟨b', off' + k, none⟩ = some (.int .i64 y) := by rw [← hy]; exact hc'
        have t2 : decide (m ≤ k) = false := decide_eq_false (by omega)
        have t2' : decide ((m : Int) ≤ k) = false := decide_eq_false (by omega)
        have i3 : (k : Int) < m := by omega
        have HST : Hid (cmpL A B = if z < y then -1 else if y < z then 1 else cmpL (A.drop (k + 1)) (B.drop (k + 1))) := Lib.hid (by
          rw [HE.out, cmpL_step (by rw [HN.out]; exact HLT.out) (by rw [HM.out]; exact hltm), HZ.out, hy])
        have HC := Lib.hid (cmp_ints z y wr)
        have HLM := Lib.hid hltm
        clear hcell' hc' hy hltm
        go_wp2_with fail
        refine HC.out.mono ?_; rintro e w1 ⟨rfl, hw1⟩; obtain rfl := hw1.symm
        by_cases h1 : z < y
        · have HF : Hid (cmpL A B = -1) := Lib.hid (by rw [HST.out, if_pos h1])
          rw [cmp3_lt h1]
          go_wp2_with fail
          go_ret
          exact ⟨by rw [HF.out]; rfl, rfl⟩
        · by_cases h2 : y < z
          · have HF : Hid (cmpL A B = 1) := Lib.hid (by rw [HST.out, if_neg h1, if_pos h2])
            rw [cmp3_gt h1 h2]
            go_wp2_with fail
            go_ret
            exact ⟨by rw [HF.out]; rfl, rfl⟩
          · have HF : Hid (cmpL A B = cmpL (A.drop (k + 1)) (B.drop (k + 1))) := Lib.hid (by rw [HST.out, if_neg h1, if_neg h2])
            rw [cmp3_eq h1 h2]
            go_wp2_with fail
            go_roundg (n - (k + 1))
            case rel => exact ⟨k + 1, HLT.out, HLM.out, rfl, by go_num, HF.out, rfl⟩
            case measure => have := HLT.out; omega
      · have t2 : decide (m ≤ k) = true := decide_eq_true (by omega)
        have t2' : decide ((m : Int) ≤ k) = true := decide_eq_true (by omega)
        have HF : Hid (cmpL A B = 1) := Lib.hid (by rw [HE.out, cmpL_endB (by rw [HM.out]; omega) (by rw [HN.out]; exact HLT.out)])
        clear hltm
        go_wp2_with fail
        go_ret
        exact ⟨by rw [HF.out]; rfl, rfl⟩
    · obtain rfl : k = n := by omega
      have t1 : decide (k < k) = false := by simp
      have HF : Hid (cmpL A B = if k < m then -1 else 0) := Lib.hid (by rw [HE.out, cmpL_endA (by rw [HN.out]; omega), HM.out])
      clear hlt
      by_cases hkm2 : k < m
      · have t2 : decide (k < m) = true := decide_eq_true hkm2
        have HG : Hid (cmpL A B = -1) := Lib.hid (by rw [HF.out, if_pos hkm2])
        clear hkm2
        go_wp2_with fail
        go_ret
        exact ⟨by rw [HG.out]; rfl, rfl⟩
      · have t2 : decide (k < m) = false := decide_eq_false hkm2
        have HG : Hid (cmpL A B = 0) := Lib.hid (by rw [HF.out, if_neg hkm2])
        clear hkm2
        go_wp2_with fail
        go_ret
        exact ⟨by rw [HG.out]; rfl, rfl⟩
set_option maxRecDepth 100000 in
theorem compare_any (A B : List Int) (v u : Value) (w : World) (ha : SeqV w v A) (hb : SeqV w u B) (hl : A.length ≤ 1000000000) (hm : B.length ≤ 1000000000) :
    Calls Try.prog 13 #[v, u] w fun e w' => e = .returned (.int .i64 (cmpL A B)) ∧ w' = w := by
  have H := Lib.hid (slCompare_any A B v u w ha hb hl hm)
  obtain ⟨Aa, ca, rfl⟩ := IntsV.form ha
  obtain ⟨Ab, cb, rfl⟩ := IntsV.form hb
  obtain ⟨n, hn⟩ : ∃ n, A.length = n := ⟨_, rfl⟩
  obtain ⟨m, hm⟩ : ∃ m, B.length = m := ⟨_, rfl⟩
  have H' := H.out
  rw [hn, hm] at H' ⊢
  have HH := Lib.hid H'
  clear ha hb hl hm hn H H'
  go_enter Try.func13, Try.ntmps13
  go_wp2_with fail
  refine HH.out.mono ?_; rintro e w1 ⟨rfl, hw1⟩; obtain rfl := hw1.symm
  go_wp2_with fail
  go_ret
  exact ⟨rfl, rfl⟩
end Go.Proofs.Ytocpjmjlmccolaa
