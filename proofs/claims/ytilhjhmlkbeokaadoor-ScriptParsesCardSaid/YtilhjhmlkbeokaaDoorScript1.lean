/- script: name, counts, number, right. -/
import Derived.Test.YtilhjhmlkbeokaaDoorGlob
import Derived.Test.YtilhjhmlkbeokaaDoorActP
import Derived.BigQuiet
import Derived.Deep.QuietTactic
import Derived.WalkSmall
namespace Go.Proofs.YtilhjhmlkbeokaaDoor
open Go.RowKit

set_option maxRecDepth 100000 in
theorem name_any (k : Int) (h0 : 0 ≤ k) (h5 : k ≤ 5) (w : World) : Calls Tryd.prog 26 #[.int .i64 k] w fun e w' => e = .returned (.string (str (wordB k))) ∧ w' = w := by
  rcases kind_cases h0 h5 with rfl | rfl | rfl | rfl | rfl | rfl
  all_goals
    clear h0 h5
    go_enter Tryd.func26, Tryd.ntmps26
    go_wp2_with fail
    go_ret
    exact ⟨rfl, rfl⟩
set_option maxRecDepth 100000 in
theorem counts_any (k : Int) (h0 : 0 ≤ k) (h5 : k ≤ 5) (w : World) : Calls Tryd.prog 27 #[.int .i64 k] w fun e w' => e = .returned (.bool (decide (k ≤ 3))) ∧ w' = w := by
  rcases kind_cases h0 h5 with rfl | rfl | rfl | rfl | rfl | rfl
  all_goals
    clear h0 h5
    go_enter Tryd.func27, Tryd.ntmps27
    go_wp2_with fail
    go_ret
    exact ⟨rfl, rfl⟩
/-- What number tells. -/
def NumTo (l : List UInt8) (w : World) (e : Ending) (w' : World) : Prop :=
  Below w.heap.size w w' ∧ ∃ (n : Int) (ok : Bool), e = .returned (.tuple #[.int .i64 n, .bool ok]) ∧ ((ok = true ∧ 0 ≤ n ∧ n ≤ 999999 ∧ Lib.decDigits n.toNat = l) ∨ (ok = false ∧ ∀ m : Nat, m ≤ 999999 → Lib.decDigits m ≠ l))
set_option maxRecDepth 100000 in
set_option maxHeartbeats 4000000 in
theorem number_any (l : List UInt8) (hl : l.length ≤ 1000000) (w : World) (hg : GT w) :
    Calls Tryd.prog 30 #[.string (str l)] w (NumTo l w) := by
  have HAT := Lib.hid (atoi_at l (by omega) w hg)
  have HG := Lib.hid hg
  have hsz : (str l).size = l.length := rfl
  obtain ⟨s, hs⟩ : ∃ s, str l = s := ⟨_, rfl⟩
  rw [hs] at HAT hsz ⊢
  have HS := Lib.hid hs
  obtain ⟨n, hn⟩ : ∃ n, l.length = n := ⟨_, rfl⟩
  rw [hn] at hsz hl
  have HN := Lib.hid hn
  have HSZ := Lib.hid hsz
  clear hg hs hn
  go_enter Tryd.func30, Tryd.ntmps30
  go_wp2_with fail
  refine HAT.out.mono ?_
  rintro e w1 ⟨hb1, ⟨v, hv, v0, v1, rfl⟩ | ⟨hno, x, N, rfl⟩⟩
  · have HB1 := Lib.hid hb1; have HV := Lib.hid hv
    have HI := fun (hv0 : 0 ≤ v) => itoa_at v.toNat (by omega) w1 (HG.out.below hb1 (Nat.le_refl _))
    have HI := Lib.hid HI
    clear hb1 hv
    have hneg : v < 0 → ∀ m : Nat, m ≤ 999999 → Lib.decDigits m ≠ l := fun h m hm e => by
      have h2 := HV.out
      rw [← e, atoi_dec m (by omega)] at h2
      injection h2 with h2
      omega
    have HNEG := Lib.hid hneg
    clear hneg
    by_cases c1 : 0 ≤ v
    · have HI := HI.out c1
      rw [Int.toNat_of_nonneg c1] at HI
      obtain ⟨d, hd⟩ : ∃ d, str (Lib.decDigits v.toNat) = d := ⟨_, rfl⟩
      rw [hd] at HI
      have HI := Lib.hid HI; have HD := Lib.hid hd
      clear hd
      have t1 : decide (0 ≤ v) = true := decide_eq_true c1
      by_cases c2 : n ≤ 6
      · have t2 : decide ((s.size : Int) ≤ 6) = true := decide_eq_true (by omega)
        have t2' : decide (s.size ≤ 6) = true := decide_eq_true (by omega)
        clear hsz
        obtain ⟨z, hz⟩ : ∃ z, (d.toList == s.toList) = z := ⟨_, rfl⟩
        have HZ := Lib.hid hz; have HC1 := Lib.hid c1; have HC2 := Lib.hid c2
        clear hz
        go_wp2_with fail
        refine HI.out.mono ?_; rintro e w2 ⟨rfl, hb2⟩
        have HB2 := Lib.hid hb2
        have hbb := HB1.out.trans (hb2.mono HB1.out.size)
        have HBB := Lib.hid hbb
        clear hb2 hbb
        have t9 : (d.toList == s.toList) = z := HZ.out
        go_wp2_with fail
        go_ret2
        refine ⟨HBB.out, v, _, rfl, ?_⟩
        cases z with
        | true =>
          have he : Lib.decDigits v.toNat = l := by
            have h := HZ.out
            rw [← HD.out, ← HS.out, str_toList, str_toList, beq_iff_eq] at h
            exact h
          have hl6 : (Lib.decDigits v.toNat).length ≤ 6 := by rw [he, HN.out]; exact HC2.out
          have := (dec_len_iff v.toNat 6 (by decide)).1 hl6
          exact Or.inl ⟨rfl, HC1.out, by omega, he⟩
        | false =>
          refine Or.inr ⟨rfl, fun m hm e => ?_⟩
          have h2 := HV.out
          rw [← e, atoi_dec m (by omega)] at h2
          injection h2 with h2
          have h := HZ.out
          rw [← HD.out, ← HS.out, str_toList, str_toList, ← h2, Int.toNat_natCast, e] at h
          simp at h
      · have t2 : decide ((s.size : Int) ≤ 6) = false := decide_eq_false (by omega)
        have t2' : decide (s.size ≤ 6) = false := decide_eq_false (by omega)
        have HC2 := Lib.hid c2
        clear hsz c2
        go_wp2_with fail
        go_ret2
        refine ⟨HB1.out, v, false, rfl, Or.inr ⟨rfl, fun m hm e => ?_⟩⟩
        have h6 := (dec_len_iff m 6 (by decide)).2 (by omega)
        rw [e, HN.out] at h6
        exact HC2.out h6
    · have t1 : decide (0 ≤ v) = false := decide_eq_false c1
      have HC1 := Lib.hid c1
      clear c1
      go_wp2_with fail
      go_ret2
      exact ⟨HB1.out, v, false, rfl, Or.inr ⟨rfl, HNEG.out (by have := HC1.out; omega)⟩⟩
  · have HNO := Lib.hid hno; have HB1 := Lib.hid hb1
    clear hno hb1
    go_wp2_with fail
    go_ret2
    exact ⟨HB1.out, x, false, rfl, Or.inr ⟨rfl, fun m hm e => HNO.out m (by rw [← e]; exact atoi_dec m (by omega))⟩⟩
set_option maxRecDepth 100000 in
theorem right_any (k n : Int) (w : World) : Calls Tryd.prog 24 #[.agg #[.int .i64 k, .int .i64 n]] w fun e w' => e = .returned (.bool (goodA (k, n))) ∧ Below w.heap.size w w' := by
  have HB : Hid (Below w.heap.size w (w.alloc (.cells #[.int .i64 k, .int .i64 n] 36))) := Lib.hid ((Below.refl _ _).alloc (Nat.le_refl _) _)
  obtain ⟨z, hz⟩ : ∃ z, goodA (k, n) = z := ⟨_, rfl⟩
  rw [hz]
  have hc : (k = 0 ∨ k = 1 ∨ k = 2 ∨ k = 3 ∨ k = 4 ∨ k = 5) ∨ (z = false ∧ ¬ k = 0 ∧ ¬ k = 1 ∧ ¬ k = 2 ∧ ¬ k = 3 ∧ ¬ k = 4 ∧ ¬ k = 5) := by
    by_cases h : 0 ≤ k ∧ k ≤ 5
    · exact Or.inl (kind_cases h.1 h.2)
    · refine Or.inr ⟨?_, by omega⟩
      rw [← hz, ← Bool.not_eq_true, good_iff]
      simp only
      omega
  have hd : 0 ≤ k → k ≤ 3 → (decide (0 ≤ n) = false ∧ z = false) ∨ (decide (0 ≤ n) = true ∧ decide (n ≤ 999999) = z) := fun a b => by
    unfold goodA at hz
    simp only at hz
    by_cases h : 0 ≤ n
    · refine Or.inr ⟨decide_eq_true h, ?_⟩
      rw [← hz]
      by_cases h2 : n ≤ 999999
      · rw [decide_eq_true h2, eq_comm, decide_eq_true_eq]; omega
      · rw [decide_eq_false h2, eq_comm, decide_eq_false_iff_not]; omega
    · refine Or.inl ⟨decide_eq_false h, ?_⟩
      rw [← hz, decide_eq_false_iff_not]
      omega
  have he : 4 ≤ k → k ≤ 5 → (decide (0 ≤ n) = false ∧ z = false) ∨ (decide (0 ≤ n) = true ∧ decide (n ≤ 0) = z) := fun a b => by
    unfold goodA at hz
    simp only at hz
    by_cases h : 0 ≤ n
    · refine Or.inr ⟨decide_eq_true h, ?_⟩
      rw [← hz]
      by_cases h2 : n ≤ 0
      · rw [decide_eq_true h2, eq_comm, decide_eq_true_eq]; omega
      · rw [decide_eq_false h2, eq_comm, decide_eq_false_iff_not]; omega
    · refine Or.inl ⟨decide_eq_false h, ?_⟩
      rw [← hz, decide_eq_false_iff_not]
      omega
  clear hz
  rcases hc with (rfl | rfl | rfl | rfl | rfl | rfl) | ⟨rfl, n0, n1, n2, n3, n4, n5⟩
  · rcases hd (by omega) (by omega) with ⟨t1, rfl⟩ | ⟨t1, t2⟩
    all_goals
      clear hd he
      go_enter Tryd.func24, Tryd.ntmps24
      go_wp2_with fail
      go_ret
      exact ⟨rfl, HB.out⟩
  · rcases hd (by omega) (by omega) with ⟨t1, rfl⟩ | ⟨t1, t2⟩
    all_goals
      clear hd he
      go_enter Tryd.func24, Tryd.ntmps24
      go_wp2_with fail
      go_ret
      exact ⟨rfl, HB.out⟩
  · rcases hd (by omega) (by omega) with ⟨t1, rfl⟩ | ⟨t1, t2⟩
    all_goals
      clear hd he
      go_enter Tryd.func24, Tryd.ntmps24
      go_wp2_with fail
      go_ret
      exact ⟨rfl, HB.out⟩
  · rcases hd (by omega) (by omega) with ⟨t1, rfl⟩ | ⟨t1, t2⟩
    all_goals
      clear hd he
      go_enter Tryd.func24, Tryd.ntmps24
      go_wp2_with fail
      go_ret
      exact ⟨rfl, HB.out⟩
  · rcases he (by omega) (by omega) with ⟨t1, rfl⟩ | ⟨t1, t2⟩
    all_goals
      clear hd he
      go_enter Tryd.func24, Tryd.ntmps24
      go_wp2_with fail
      go_ret
      exact ⟨rfl, HB.out⟩
  · rcases he (by omega) (by omega) with ⟨t1, rfl⟩ | ⟨t1, t2⟩
    all_goals
      clear hd he
      go_enter Tryd.func24, Tryd.ntmps24
      go_wp2_with fail
      go_ret
      exact ⟨rfl, HB.out⟩
  · have s0 : decide (k = 0) = false := decide_eq_false n0
    have s1 : decide (k = 1) = false := decide_eq_false n1
    have s2 : decide (k = 2) = false := decide_eq_false n2
    have s3 : decide (k = 3) = false := decide_eq_false n3
    have s4 : decide (k = 4) = false := decide_eq_false n4
    have s5 : decide (k = 5) = false := decide_eq_false n5
    clear hd he
    go_enter Tryd.func24, Tryd.ntmps24
    go_wp2_with fail
    go_ret
    exact ⟨rfl, HB.out⟩
end Go.Proofs.YtilhjhmlkbeokaaDoor
