/- The text of what is right is told to be just that; pure. The text of what is right, read back; Edges. -/
import Derived.Test.YtbbdammdiplagaaGreatDoorConfT
import Derived.Test.YtbbdammdiplagaaGreatDoorConfT2
import Derived.Test.YtbbdammdiplagaaGreatDoorConf3K
namespace Go.Proofs.YtbbdammdiplagaaGreatDoor
section
theorem line_parts {wd v r : List UInt8} (h1 : (32 : UInt8) ∉ wd) (h2 : (10 : UInt8) ∉ wd) (h3 : (10 : UInt8) ∉ v) : endsB (lineB wd v ++ r) = true ∧ partB (lineB wd v ++ r) = true ∧ wordOf (lineB wd v ++ r) = wd ∧ valOf (lineB wd v ++ r) = v ∧ restOf (lineB wd v ++ r) = r ∧ lineB wd v ++ r ≠ [] := by
  have e : lineB wd v ++ r = (wd ++ 32 :: v) ++ 10 :: r := by unfold lineB; simp
  have hno : (10 : UInt8) ∉ wd ++ 32 :: v := by
    intro h
    rcases List.mem_append.1 h with h | h
    · exact h2 h
    · rcases List.mem_cons.1 h with h | h
      · exact absurd h (by decide)
      · exact h3 h
  have hl : lineOf (lineB wd v ++ r) = wd ++ 32 :: v := by unfold lineOf; rw [e, cut_yes hno]
  refine ⟨?_, ?_, ?_, ?_, ?_, ?_⟩
  · unfold endsB; rw [e, cut_yes hno]
  · unfold partB; rw [hl, cut_yes h1]
  · unfold wordOf; rw [hl, cut_yes h1]
  · unfold valOf; rw [hl, cut_yes h1]
  · unfold restOf; rw [e, cut_yes hno]
  · rw [e]; simp
theorem runK_line {n : Nat} {x x' : CK} {st : List (List UInt8)} {wd v r : List UInt8} (h1 : (32 : UInt8) ∉ wd) (h2 : (10 : UInt8) ∉ wd) (h3 : (10 : UInt8) ∉ v) (hj : (decide (st = []) != decide (wd = wJob)) = false) (hm : wd ∉ st) (hs : setK x wd v = some x') : runK (n + 1) x st (lineB wd v ++ r) = runK n x' (st ++ [wd]) r := by
  obtain ⟨q1, q2, q3, q4, q5, q6⟩ := line_parts (r := r) h1 h2 h3
  rw [runK_step (x' := x') q6 q1 q2 (by rw [q3]; exact hj) (by rw [q3]; exact hm) (by rw [q3, q4]; exact hs), q3, q5]
theorem setK_job {x : CK} {k : Int} (h : k = 1 ∨ k = 2 ∨ k = 3) : setK x wJob (kname k) = some ⟨{ x.c with kind := k }, x.o⟩ := by
  unfold setK
  rw [if_neg (by decide)]
  have hk : (kindOf (kname k)).getD x.c.kind = k := by rcases h with rfl | rfl | rfl <;> rfl
  unfold setP
  rw [if_pos rfl, hk, if_neg (by omega)]
  rfl
theorem setK_num {x : CK} {wd : List UInt8} {n : Nat} (hk : wd ≠ wKeep) (hj : wd ≠ wJob) (hs : ¬ (wd = wSup ∧ x.c.kind ≠ 3)) (hw : wd = wSup ∨ wd = wSize ∨ wd = wWork ∨ wd = wCap) (h1 : 1 ≤ n) (h2 : (n : Int) ≤ mostOf wd) (h3 : n ≤ 9999999) : setK x wd (decB n) = some ⟨setN x.c wd n, x.o⟩ := by
  unfold setK
  rw [if_neg hk]
  unfold setP decB
  rw [if_neg hj, if_neg hs, if_pos hw, Int.toNat_natCast, numB_dec h3]
  simp only
  rw [if_pos ⟨by omega, h2⟩]
  rfl
theorem setK_keep {x : CK} {O : List (Int × Int)} (h : progF O = none) (h0 : O ≠ []) (h1 : O.length ≤ 15) : setK x wKeep (progT O) = some ⟨x.c, O⟩ := by
  unfold setK
  rw [if_pos rfl, keepV_some h]
  exact if_pos ⟨h0, h1⟩
theorem decB_no (n : Int) : (10 : UInt8) ∉ decB n := by
  unfold decB
  exact dec_not (by decide)
theorem opT_no10 (o : Int × Int) : (10 : UInt8) ∉ opT o := by
  unfold opT
  intro h
  rcases List.mem_append.1 h with h | h
  · exact absurd (nameB_byte h) (by decide)
  · split at h
    · rcases List.mem_cons.1 h with h | h
      · exact absurd h (by decide)
      · exact dec_not (by decide) h
    · simp at h
theorem join_no10 : ∀ {P : List (List UInt8)}, (∀ p ∈ P, (10 : UInt8) ∉ p) → (10 : UInt8) ∉ joinB 59 P
  | [], _ => by simp [joinB]
  | [p], h => h p (by simp)
  | p :: q :: t, h => by
    rw [joinB_cons]
    intro hm
    rcases List.mem_append.1 hm with hm | hm
    · exact h p (by simp) hm
    · rcases List.mem_cons.1 hm with hm | hm
      · exact absurd hm (by decide)
      · exact join_no10 (fun x hx => h x (List.mem_cons_of_mem _ hx)) hm
theorem progT_no10 (O : List (Int × Int)) : (10 : UInt8) ∉ progT O := join_no10 (fun p hp => by
  obtain ⟨o, _, rfl⟩ := List.mem_map.1 hp
  exact opT_no10 o)
theorem kname_no10 {k : Int} (h : k = 1 ∨ k = 2 ∨ k = 3) : (10 : UInt8) ∉ kname k := by rcases h with rfl | rfl | rfl <;> decide
/-- The lines of a text, from the first on. -/
theorem run_text (m : Nat) (kd : Int) (sz su wk cp : Nat) (O : List (Int × Int)) (hk : kd = 1 ∨ kd = 2 ∨ kd = 3) (h1 : 1 ≤ sz ∧ sz ≤ 8) (h2 : kd = 3 → 1 ≤ su ∧ su ≤ 1000000) (h2' : kd ≠ 3 → su = 0) (h3 : 1 ≤ wk ∧ wk ≤ 64) (h4 : 1 ≤ cp ∧ cp ≤ 1000000) (h5 : O.length ≤ 15) (h6 : progF O = none) :
    ∃ k, runK (m + 7) ck0 [] (confT ⟨⟨kd, sz, su, wk, cp⟩, O⟩) = .inr (⟨⟨kd, sz, su, wk, cp⟩, O⟩, k) := by
  unfold confT
  simp only
  rw [runK_line (by decide) (by decide) (kname_no10 hk) (by decide) (by decide) (setK_job hk)]
  rw [runK_line (by decide) (by decide) (decB_no _) (by decide) (by decide) (setK_num (by decide) (by decide) (by simp [wSize, wSup]) (by simp) h1.1 (by show (sz : Int) ≤ 8; omega) (by omega))]
  by_cases h3k : kd = 3
  · obtain ⟨g1, g2⟩ := h2 h3k
    subst h3k
    rw [if_pos rfl]
    rw [runK_line (by decide) (by decide) (decB_no _) (by decide) (by decide) (setK_num (by decide) (by decide) (fun e => e.2 rfl) (by simp) g1 (by show (su : Int) ≤ 1000000; omega) (by omega))]
    by_cases h0 : O.length = 0
    · obtain rfl := List.eq_nil_of_length_eq_zero h0
      rw [if_pos (show ([] : List (Int × Int)).length = 0 from rfl)]
      simp only [List.nil_append]
      rw [runK_line (by decide) (by decide) (decB_no _) (by decide) (by decide) (setK_num (by decide) (by decide) (fun e => absurd e.1 (by decide)) (by simp) h3.1 (by show (wk : Int) ≤ 64; omega) (by omega))]
      rw [← List.append_nil (lineB wCap _), runK_line (by decide) (by decide) (decB_no _) (by decide) (by decide) (setK_num (by decide) (by decide) (fun e => absurd e.1 (by decide)) (by simp) h4.1 (by show (cp : Int) ≤ 1000000; omega) (by omega)), runK_nil]
      exact ⟨_, rfl⟩
    · rw [if_neg h0]
      rw [runK_line (by decide) (by decide) (progT_no10 _) (by decide) (by decide) (setK_keep h6 (fun e => h0 (by rw [e]; rfl)) h5)]
      rw [runK_line (by decide) (by decide) (decB_no _) (by decide) (by decide) (setK_num (by decide) (by decide) (fun e => absurd e.1 (by decide)) (by simp) h3.1 (by show (wk : Int) ≤ 64; omega) (by omega))]
      rw [← List.append_nil (lineB wCap _), runK_line (by decide) (by decide) (decB_no _) (by decide) (by decide) (setK_num (by decide) (by decide) (fun e => absurd e.1 (by decide)) (by simp) h4.1 (by show (cp : Int) ≤ 1000000; omega) (by omega)), runK_nil]
      exact ⟨_, rfl⟩
  · have hsu := h2' h3k
    subst hsu
    rw [if_neg h3k]
    simp only [List.nil_append]
    by_cases h0 : O.length = 0
    · obtain rfl := List.eq_nil_of_length_eq_zero h0
      rw [if_pos (show ([] : List (Int × Int)).length = 0 from rfl)]
      simp only [List.nil_append]
      rw [runK_line (by decide) (by decide) (decB_no _) (by decide) (by decide) (setK_num (by decide) (by decide) (fun e => absurd e.1 (by decide)) (by simp) h3.1 (by show (wk : Int) ≤ 64; omega) (by omega))]
      rw [← List.append_nil (lineB wCap _), runK_line (by decide) (by decide) (decB_no _) (by decide) (by decide) (setK_num (by decide) (by decide) (fun e => absurd e.1 (by decide)) (by simp) h4.1 (by show (cp : Int) ≤ 1000000; omega) (by omega)), runK_nil]
      exact ⟨_, rfl⟩
    · rw [if_neg h0]
      rw [runK_line (by decide) (by decide) (progT_no10 _) (by decide) (by decide) (setK_keep h6 (fun e => h0 (by rw [e]; rfl)) h5)]
      rw [runK_line (by decide) (by decide) (decB_no _) (by decide) (by decide) (setK_num (by decide) (by decide) (fun e => absurd e.1 (by decide)) (by simp) h3.1 (by show (wk : Int) ≤ 64; omega) (by omega))]
      rw [← List.append_nil (lineB wCap _), runK_line (by decide) (by decide) (decB_no _) (by decide) (by decide) (setK_num (by decide) (by decide) (fun e => absurd e.1 (by decide)) (by simp) h4.1 (by show (cp : Int) ≤ 1000000; omega) (by omega)), runK_nil]
      exact ⟨_, rfl⟩
end

section
open Go.RowKit

theorem rightKB_iff {kd sz su wk cp : Int} {O : List (Int × Int)} : rightKB ⟨⟨kd, sz, su, wk, cp⟩, O⟩ = true ↔ (1 ≤ kd ∧ kd ≤ 3) ∧ supB ⟨⟨kd, sz, su, wk, cp⟩, O⟩ = true ∧ (1 ≤ sz ∧ sz ≤ 8) ∧ (1 ≤ wk ∧ wk ≤ 64) ∧ (1 ≤ cp ∧ cp ≤ 1000000) ∧ O.length ≤ 15 ∧ progF O = none := by
  unfold rightKB
  simp only [Bool.and_eq_true, decide_eq_true_iff, Option.isNone_iff_eq_none]
theorem tell_text {kd : Int} {sz su wk cp : Nat} {O : List (Int × Int)} (h : rightKB ⟨⟨kd, sz, su, wk, cp⟩, O⟩ = true) : tellK (confT ⟨⟨kd, sz, su, wk, cp⟩, O⟩) = .inr ⟨⟨kd, sz, su, wk, cp⟩, O⟩ := by
  obtain ⟨h0, hs, h2, h3, h4, h5, h6⟩ := rightKB_iff.1 h
  have hl : 7 ≤ (confT ⟨⟨kd, sz, su, wk, cp⟩, O⟩).length := by
    unfold confT
    simp only [List.length_append, lineB_len]
    have e1 : wJob.length = 3 := rfl
    have e2 : wSize.length = 4 := rfl
    omega
  obtain ⟨m, hm⟩ : ∃ m, (confT ⟨⟨kd, sz, su, wk, cp⟩, O⟩).length = m + 7 := ⟨_, (Nat.sub_add_cancel hl).symm⟩
  have hsup : (kd = 3 → 1 ≤ su ∧ su ≤ 1000000) ∧ (kd ≠ 3 → su = 0) := by
    unfold supB at hs
    constructor
    · intro hk
      rw [if_pos hk] at hs
      have := of_decide_eq_true hs
      simp only at this
      omega
    · intro hk
      rw [if_neg hk] at hs
      have := of_decide_eq_true hs
      simp only at this
      omega
  obtain ⟨k, hr⟩ := run_text m kd sz su wk cp O (by omega) (by omega) hsup.1 hsup.2 (by omega) (by omega) h5 h6
  rw [← hm] at hr
  rw [tellK_inr hr, if_neg]
  simp only
  rintro (g | ⟨g1, g2⟩)
  · omega
  · have := hsup.1 g1
    omega
theorem edges_any22 (kd sz su wk cp : Int) (kv : Value) (w : World) : Calls Tryz.prog 17 #[.agg (cV ⟨kd, sz, su, wk, cp⟩ kv)] w fun e w' => e = .returned (.bool (kd == 3)) ∧ Below w.heap.size w w' := by
  have HB := Lib.hid ((Below.refl w.heap.size w).alloc (Nat.le_refl _) (.cells (cV ⟨kd, sz, su, wk, cp⟩ kv) 29))
  have hx := Whole.new w 29 (cV ⟨kd, sz, su, wk, cp⟩ kv)
  obtain ⟨w1, hw1⟩ : ∃ W, w.alloc (.cells (cV ⟨kd, sz, su, wk, cp⟩ kv) 29) = W := ⟨_, rfl⟩
  rw [hw1] at HB hx
  have x0 : w1.cell? ⟨w.heap.size, 0, none⟩ = some (.int .i64 kd) := hx.cell 0
  have HW1 := Lib.hid hw1
  clear hx hw1
  go_enter Tryz.func17, Tryz.ntmps17
  go_upto_region 1 with fail
  rw [HW1.out]
  go_wp2_with fail
  go_ret
  exact ⟨rfl, HB.out⟩
end
end Go.Proofs.YtbbdammdiplagaaGreatDoor
