/- A line more, and the last line behind the first one; pure. -/
import Derived.Test.YtbbdammdiplagaaGreatDoorParsesL22
namespace Go.Proofs.YtbbdammdiplagaaGreatDoor

/-- The words of a text's lines. -/
def stW (kd : Int) (O : List (Int × Int)) : List (List UInt8) := [wJob, wSize] ++ ((if kd = 3 then [wSup] else []) ++ ((if O.length = 0 then [] else [wKeep]) ++ [wWork, wCap]))
/-- The lines between the first one and the last one. -/
def midT (x : CK) : List UInt8 := lineB wSize (decB x.c.size) ++ ((if x.c.kind = 3 then lineB wSup (decB x.c.sup) else []) ++ ((if x.o.length = 0 then [] else lineB wKeep (progT x.o)) ++ lineB wWork (decB x.c.work)))
theorem confT_mid (x : CK) : confT x = lineB wJob (kname x.c.kind) ++ (midT x ++ lineB wCap (decB x.c.cap)) := by
  unfold confT midT
  simp only [List.append_assoc]
theorem line_app {n : Nat} {x x' : CK} {st : List (List UInt8)} {wd v r s : List UInt8} (h1 : (32 : UInt8) ∉ wd) (h2 : (10 : UInt8) ∉ wd) (h3 : (10 : UInt8) ∉ v) (hj : (decide (st = []) != decide (wd = wJob)) = false) (hm : wd ∉ st) (hs : setK x wd v = some x') (hr : s = lineB wd v ++ r) : runK (n + 1) x st s = runK n x' (st ++ [wd]) r := by
  rw [hr, runK_line h1 h2 h3 hj hm hs]
theorem run_app (m : Nat) (kd : Int) (sz su wk cp : Nat) (O : List (Int × Int)) (r : List UInt8) (hk : kd = 1 ∨ kd = 2 ∨ kd = 3) (h1 : 1 ≤ sz ∧ sz ≤ 8) (h2 : kd = 3 → 1 ≤ su ∧ su ≤ 1000000) (h2' : kd ≠ 3 → su = 0) (h3 : 1 ≤ wk ∧ wk ≤ 64) (h4 : 1 ≤ cp ∧ cp ≤ 1000000) (h5 : O.length ≤ 15) (h6 : progF O = none) :
    ∃ e, runK (m + 6) ck0 [] (confT ⟨⟨kd, sz, su, wk, cp⟩, O⟩ ++ r) = runK (m + e) ⟨⟨kd, sz, su, wk, cp⟩, O⟩ (stW kd O) r := by
  unfold confT stW
  simp only [List.append_assoc]
  rw [runK_line (by decide) (by decide) (kname_no10 hk) (by decide) (by decide) (setK_job hk)]
  rw [runK_line (by decide) (by decide) (decB_no _) (by decide) (by decide) (setK_num (by decide) (by decide) (by simp [wSize, wSup]) (by simp) h1.1 (by show (sz : Int) ≤ 8; omega) (by omega))]
  by_cases h3k : kd = 3
  · obtain ⟨g1, g2⟩ := h2 h3k
    subst h3k
    rw [if_pos rfl, if_pos rfl]
    rw [runK_line (by decide) (by decide) (decB_no _) (by decide) (by decide) (setK_num (by decide) (by decide) (fun e => e.2 rfl) (by simp) g1 (by show (su : Int) ≤ 1000000; omega) (by omega))]
    by_cases h0 : O.length = 0
    · obtain rfl := List.eq_nil_of_length_eq_zero h0
      rw [if_pos (show ([] : List (Int × Int)).length = 0 from rfl), if_pos (show ([] : List (Int × Int)).length = 0 from rfl)]
      simp only [List.nil_append]
      rw [runK_line (by decide) (by decide) (decB_no _) (by decide) (by decide) (setK_num (by decide) (by decide) (fun e => absurd e.1 (by decide)) (by simp) h3.1 (by show (wk : Int) ≤ 64; omega) (by omega))]
      rw [runK_line (by decide) (by decide) (decB_no _) (by decide) (by decide) (setK_num (by decide) (by decide) (fun e => absurd e.1 (by decide)) (by simp) h4.1 (by show (cp : Int) ≤ 1000000; omega) (by omega))]
      exact ⟨1, rfl⟩
    · rw [if_neg h0, if_neg h0]
      rw [runK_line (by decide) (by decide) (progT_no10 _) (by decide) (by decide) (setK_keep h6 (fun e => h0 (by rw [e]; rfl)) h5)]
      rw [runK_line (by decide) (by decide) (decB_no _) (by decide) (by decide) (setK_num (by decide) (by decide) (fun e => absurd e.1 (by decide)) (by simp) h3.1 (by show (wk : Int) ≤ 64; omega) (by omega))]
      rw [runK_line (by decide) (by decide) (decB_no _) (by decide) (by decide) (setK_num (by decide) (by decide) (fun e => absurd e.1 (by decide)) (by simp) h4.1 (by show (cp : Int) ≤ 1000000; omega) (by omega))]
      exact ⟨0, rfl⟩
  · have hsu := h2' h3k
    subst hsu
    rw [if_neg h3k, if_neg h3k]
    simp only [List.nil_append]
    by_cases h0 : O.length = 0
    · obtain rfl := List.eq_nil_of_length_eq_zero h0
      rw [if_pos (show ([] : List (Int × Int)).length = 0 from rfl), if_pos (show ([] : List (Int × Int)).length = 0 from rfl)]
      simp only [List.nil_append]
      rw [runK_line (by decide) (by decide) (decB_no _) (by decide) (by decide) (setK_num (by decide) (by decide) (fun e => absurd e.1 (by decide)) (by simp) h3.1 (by show (wk : Int) ≤ 64; omega) (by omega))]
      rw [runK_line (by decide) (by decide) (decB_no _) (by decide) (by decide) (setK_num (by decide) (by decide) (fun e => absurd e.1 (by decide)) (by simp) h4.1 (by show (cp : Int) ≤ 1000000; omega) (by omega))]
      exact ⟨2, rfl⟩
    · rw [if_neg h0, if_neg h0]
      rw [runK_line (by decide) (by decide) (progT_no10 _) (by decide) (by decide) (setK_keep h6 (fun e => h0 (by rw [e]; rfl)) h5)]
      rw [runK_line (by decide) (by decide) (decB_no _) (by decide) (by decide) (setK_num (by decide) (by decide) (fun e => absurd e.1 (by decide)) (by simp) h3.1 (by show (wk : Int) ≤ 64; omega) (by omega))]
      rw [runK_line (by decide) (by decide) (decB_no _) (by decide) (by decide) (setK_num (by decide) (by decide) (fun e => absurd e.1 (by decide)) (by simp) h4.1 (by show (cp : Int) ≤ 1000000; omega) (by omega))]
      exact ⟨1, rfl⟩
theorem run_swap (m : Nat) (kd : Int) (sz su wk cp : Nat) (O : List (Int × Int)) (hk : kd = 1 ∨ kd = 2 ∨ kd = 3) (h1 : 1 ≤ sz ∧ sz ≤ 8) (h2 : kd = 3 → 1 ≤ su ∧ su ≤ 1000000) (h2' : kd ≠ 3 → su = 0) (h3 : 1 ≤ wk ∧ wk ≤ 64) (h4 : 1 ≤ cp ∧ cp ≤ 1000000) (h5 : O.length ≤ 15) (h6 : progF O = none) :
    ∃ k, runK (m + 7) ck0 [] (lineB wJob (kname kd) ++ (lineB wCap (decB cp) ++ midT ⟨⟨kd, sz, su, wk, cp⟩, O⟩)) = .inr (⟨⟨kd, sz, su, wk, cp⟩, O⟩, k) := by
  unfold midT
  simp only
  rw [runK_line (by decide) (by decide) (kname_no10 hk) (by decide) (by decide) (setK_job hk)]
  rw [runK_line (by decide) (by decide) (decB_no _) (by decide) (by decide) (setK_num (by decide) (by decide) (fun e => absurd e.1 (by decide)) (by simp) h4.1 (by show (cp : Int) ≤ 1000000; omega) (by omega))]
  rw [runK_line (by decide) (by decide) (decB_no _) (by decide) (by decide) (setK_num (by decide) (by decide) (by simp [wSize, wSup]) (by simp) h1.1 (by show (sz : Int) ≤ 8; omega) (by omega))]
  by_cases h3k : kd = 3
  · obtain ⟨g1, g2⟩ := h2 h3k
    subst h3k
    rw [if_pos rfl]
    rw [runK_line (by decide) (by decide) (decB_no _) (by decide) (by decide) (setK_num (by decide) (by decide) (fun e => e.2 rfl) (by simp) g1 (by show (su : Int) ≤ 1000000; omega) (by omega))]
    by_cases h0 : O.length = 0
    · obtain rfl := List.eq_nil_of_length_eq_zero h0
      rw [if_pos (show ([] : List (Int × Int)).length = 0 from rfl)]
      simp only [List.nil_append]
      rw [← List.append_nil (lineB wWork _), runK_line (by decide) (by decide) (decB_no _) (by decide) (by decide) (setK_num (by decide) (by decide) (fun e => absurd e.1 (by decide)) (by simp) h3.1 (by show (wk : Int) ≤ 64; omega) (by omega)), runK_nil]
      exact ⟨_, rfl⟩
    · rw [if_neg h0]
      rw [runK_line (by decide) (by decide) (progT_no10 _) (by decide) (by decide) (setK_keep h6 (fun e => h0 (by rw [e]; rfl)) h5)]
      rw [← List.append_nil (lineB wWork _), runK_line (by decide) (by decide) (decB_no _) (by decide) (by decide) (setK_num (by decide) (by decide) (fun e => absurd e.1 (by decide)) (by simp) h3.1 (by show (wk : Int) ≤ 64; omega) (by omega)), runK_nil]
      exact ⟨_, rfl⟩
  · have hsu := h2' h3k
    subst hsu
    rw [if_neg h3k]
    simp only [List.nil_append]
    by_cases h0 : O.length = 0
    · obtain rfl := List.eq_nil_of_length_eq_zero h0
      rw [if_pos (show ([] : List (Int × Int)).length = 0 from rfl)]
      simp only [List.nil_append]
      rw [← List.append_nil (lineB wWork _), runK_line (by decide) (by decide) (decB_no _) (by decide) (by decide) (setK_num (by decide) (by decide) (fun e => absurd e.1 (by decide)) (by simp) h3.1 (by show (wk : Int) ≤ 64; omega) (by omega)), runK_nil]
      exact ⟨_, rfl⟩
    · rw [if_neg h0]
      rw [runK_line (by decide) (by decide) (progT_no10 _) (by decide) (by decide) (setK_keep h6 (fun e => h0 (by rw [e]; rfl)) h5)]
      rw [← List.append_nil (lineB wWork _), runK_line (by decide) (by decide) (decB_no _) (by decide) (by decide) (setK_num (by decide) (by decide) (fun e => absurd e.1 (by decide)) (by simp) h3.1 (by show (wk : Int) ≤ 64; omega) (by omega)), runK_nil]
      exact ⟨_, rfl⟩
/-- What rightness says, in numbers. -/
theorem right_nums {kd : Int} {sz su wk cp : Nat} {O : List (Int × Int)} (h : rightKB ⟨⟨kd, sz, su, wk, cp⟩, O⟩ = true) : (kd = 1 ∨ kd = 2 ∨ kd = 3) ∧ (1 ≤ sz ∧ sz ≤ 8) ∧ (kd = 3 → 1 ≤ su ∧ su ≤ 1000000) ∧ (kd ≠ 3 → su = 0) ∧ (1 ≤ wk ∧ wk ≤ 64) ∧ (1 ≤ cp ∧ cp ≤ 1000000) ∧ O.length ≤ 15 ∧ progF O = none := by
  obtain ⟨h0, hs, h2, h3, h4, h5, h6⟩ := rightKB_iff.1 h
  refine ⟨by omega, by omega, fun hk => ?_, fun hk => ?_, by omega, by omega, h5, h6⟩
  · unfold supB at hs
    rw [if_pos hk] at hs
    have := of_decide_eq_true hs
    simp only at this
    omega
  · unfold supB at hs
    rw [if_neg hk] at hs
    have := of_decide_eq_true hs
    simp only at this
    omega
theorem nl_lineB {wd v : List UInt8} (h1 : (10 : UInt8) ∉ wd) (h2 : (10 : UInt8) ∉ v) : nlB (lineB wd v) = 1 := by
  have e : lineB wd v = (wd ++ 32 :: v) ++ 10 :: [] := by unfold lineB; simp
  rw [e, nl_line _ _ (by
    intro h
    rcases List.mem_append.1 h with h | h
    · exact h1 h
    · rcases List.mem_cons.1 h with h | h
      · exact absurd h (by decide)
      · exact h2 h)]
  rfl
theorem nl_app (a b : List UInt8) : nlB (a ++ b) = nlB a + nlB b := List.count_append
theorem nl_conf {kd : Int} (hk : kd = 1 ∨ kd = 2 ∨ kd = 3) (sz su wk cp : Int) (O : List (Int × Int)) : nlB (confT ⟨⟨kd, sz, su, wk, cp⟩, O⟩) = (stW kd O).length := by
  unfold confT stW
  simp only [nl_app]
  rw [nl_lineB (by decide) (kname_no10 hk), nl_lineB (wd := wSize) (by decide) (decB_no _), nl_lineB (wd := wWork) (by decide) (decB_no _), nl_lineB (wd := wCap) (by decide) (decB_no _)]
  by_cases h3 : kd = 3
  · rw [if_pos h3, if_pos h3, nl_lineB (wd := wSup) (by decide) (decB_no _)]
    by_cases h0 : O.length = 0
    · rw [if_pos h0, if_pos h0]; rfl
    · rw [if_neg h0, if_neg h0, nl_lineB (wd := wKeep) (by decide) (progT_no10 _)]; rfl
  · rw [if_neg h3, if_neg h3]
    by_cases h0 : O.length = 0
    · rw [if_pos h0, if_pos h0]; rfl
    · rw [if_neg h0, if_neg h0, nl_lineB (wd := wKeep) (by decide) (progT_no10 _)]; rfl
/-- The lines that can't be. -/
def badL : Nat → List UInt8
  | 0 => [115, 105, 122, 101, 32, 51, 10]
  | 1 => [106, 111, 98, 32, 102, 115, 109, 10]
  | 2 => [67, 97, 112, 32, 51, 10]
  | 3 => [99, 97, 112, 32, 48, 10]
  | 4 => [10]
  | 5 => [119, 111, 114, 107, 101, 114, 115, 32, 54, 53, 10]
  | 6 => [107, 101, 101, 112, 10]
  | _ => [115, 105, 122, 101, 32, 51]
theorem badL_ne (i : Nat) : badL i ≠ [] := by unfold badL; split <;> simp
theorem badL_len (i : Nat) : 1 ≤ (badL i).length ∧ (badL i).length ≤ 11 := by unfold badL; split <;> simp
theorem part_no {p q : List UInt8} (h : (10 : UInt8) ∉ p) (h2 : (32 : UInt8) ∉ p) : partB (p ++ 10 :: q) = false := by
  unfold partB lineOf
  rw [cut_yes h]
  simp only
  rw [cut_no h2]
theorem stW_mem (kd : Int) (O : List (Int × Int)) : wSize ∈ stW kd O ∧ wCap ∈ stW kd O ∧ wWork ∈ stW kd O ∧ stW kd O ≠ [] := by
  unfold stW
  refine ⟨by simp, by simp, by simp, by simp⟩
theorem bad_run (n : Nat) (x : CK) (kd : Int) (O : List (Int × Int)) (i : Nat) : runK (n + 1) x (stW kd O) (badL i) = .inl (stW kd O).length := by
  obtain ⟨m1, m2, m3, m4⟩ := stW_mem kd O
  match i with
  | 0 =>
    obtain ⟨q1, q2, q3, q4, q5, q6⟩ := line_parts (wd := wSize) (v := [51]) (r := []) (by decide) (by decide) (by decide)
    exact runK_bad (badL_ne 0) (Or.inr (Or.inr (Or.inr (by have h : wordOf (badL 0) = wSize := q3; rw [h]; exact m1))))
  | 1 =>
    obtain ⟨q1, q2, q3, q4, q5, q6⟩ := line_parts (wd := wJob) (v := [102, 115, 109]) (r := []) (by decide) (by decide) (by decide)
    refine runK_bad (badL_ne 1) (Or.inr (Or.inr (Or.inl ?_)))
    have h : wordOf (badL 1) = wJob := q3
    rw [h, decide_eq_false m4]
    rfl
  | 2 =>
    obtain ⟨q1, q2, q3, q4, q5, q6⟩ := line_parts (wd := [67, 97, 112]) (v := [51]) (r := []) (by decide) (by decide) (by decide)
    have h : wordOf (badL 2) = [67, 97, 112] := q3
    have h2 : valOf (badL 2) = [51] := q4
    refine runK_none (badL_ne 2) ?_
    rw [h, h2]
    unfold setK
    rw [if_neg (by decide)]
    unfold setP
    rw [if_neg (by decide), if_neg (fun e => absurd e.1 (by decide)), if_neg (by decide)]
    rfl
  | 3 =>
    obtain ⟨q1, q2, q3, q4, q5, q6⟩ := line_parts (wd := wCap) (v := [48]) (r := []) (by decide) (by decide) (by decide)
    exact runK_bad (badL_ne 3) (Or.inr (Or.inr (Or.inr (by have h : wordOf (badL 3) = wCap := q3; rw [h]; exact m2))))
  | 4 => exact runK_bad (badL_ne 4) (Or.inr (Or.inl (part_no (p := []) (q := []) (by decide) (by decide))))
  | 5 =>
    obtain ⟨q1, q2, q3, q4, q5, q6⟩ := line_parts (wd := wWork) (v := [54, 53]) (r := []) (by decide) (by decide) (by decide)
    exact runK_bad (badL_ne 5) (Or.inr (Or.inr (Or.inr (by have h : wordOf (badL 5) = wWork := q3; rw [h]; exact m3))))
  | 6 => exact runK_bad (badL_ne 6) (Or.inr (Or.inl (part_no (p := [107, 101, 101, 112]) (q := []) (by decide) (by decide))))
  | k + 7 =>
    refine runK_bad (badL_ne _) (Or.inl ?_)
    show endsB [115, 105, 122, 101, 32, 51] = false
    unfold endsB
    rw [cut_no (by decide)]
theorem conf_long (x : CK) : 7 ≤ (confT x).length := by
  unfold confT
  simp only [List.length_append, lineB_len]
  have e1 : wJob.length = 3 := rfl
  have e2 : wSize.length = 4 := rfl
  omega
theorem tell_bad {kd : Int} {sz su wk cp : Nat} {O : List (Int × Int)} (h : rightKB ⟨⟨kd, sz, su, wk, cp⟩, O⟩ = true) (i : Nat) : tellK (confT ⟨⟨kd, sz, su, wk, cp⟩, O⟩ ++ badL i) = .inl (nlB (confT ⟨⟨kd, sz, su, wk, cp⟩, O⟩)) := by
  obtain ⟨hk, h1, h2, h2', h3, h4, h5, h6⟩ := right_nums h
  refine tellK_inl ?_
  have hl := conf_long ⟨⟨kd, sz, su, wk, cp⟩, O⟩
  have hb := badL_len i
  obtain ⟨m, hm⟩ : ∃ m, (confT ⟨⟨kd, sz, su, wk, cp⟩, O⟩ ++ badL i).length = (m + 1) + 6 := ⟨(confT ⟨⟨kd, sz, su, wk, cp⟩, O⟩ ++ badL i).length - 7, by rw [List.length_append]; omega⟩
  obtain ⟨e, he⟩ := run_app (m + 1) kd sz su wk cp O (badL i) hk h1 h2 h2' h3 h4 h5 h6
  rw [hm, he, nl_conf hk, show m + 1 + e = (m + e) + 1 by omega]
  exact bad_run _ _ kd O i
theorem tell_swap {kd : Int} {sz su wk cp : Nat} {O : List (Int × Int)} (h : rightKB ⟨⟨kd, sz, su, wk, cp⟩, O⟩ = true) : tellK (lineB wJob (kname kd) ++ (lineB wCap (decB cp) ++ midT ⟨⟨kd, sz, su, wk, cp⟩, O⟩)) = .inr ⟨⟨kd, sz, su, wk, cp⟩, O⟩ := by
  obtain ⟨hk, h1, h2, h2', h3, h4, h5, h6⟩ := right_nums h
  obtain ⟨m, hm⟩ : ∃ m, (lineB wJob (kname kd) ++ (lineB wCap (decB cp) ++ midT ⟨⟨kd, sz, su, wk, cp⟩, O⟩)).length = m + 7 := by
    refine ⟨_, (Nat.sub_add_cancel ?_).symm⟩
    rw [List.length_append, List.length_append, lineB_len, lineB_len]
    have e1 : wJob.length = 3 := rfl
    have e2 : wCap.length = 3 := rfl
    omega
  obtain ⟨k, hr⟩ := run_swap m kd sz su wk cp O hk h1 h2 h2' h3 h4 h5 h6
  rw [← hm] at hr
  rw [tellK_inr hr, if_neg]
  simp only
  rintro (g | ⟨g1, g2⟩)
  · omega
  · have := h2 g1
    omega
theorem tell_job {kd : Int} (hk : kd = 1 ∨ kd = 2 ∨ kd = 3) : tellK (lineB wJob (kname kd)) = .inl 1 := by
  have hr : runK (lineB wJob (kname kd)).length ck0 [] (lineB wJob (kname kd)) = .inr (⟨{ ck0.c with kind := kd }, ck0.o⟩, 1) := by
    obtain ⟨m, hm⟩ : ∃ m, (lineB wJob (kname kd)).length = m + 1 := ⟨(lineB wJob (kname kd)).length - 1, by rw [lineB_len]; omega⟩
    rw [hm, ← List.append_nil (lineB wJob _), runK_line (by decide) (by decide) (kname_no10 hk) (by decide) (by decide) (setK_job hk), runK_nil]
    rfl
  rw [tellK_inr hr]
  exact if_pos (Or.inl rfl)
theorem confT_len2 (kd : Int) {sz su wk cp : Nat} {O : List (Int × Int)} (b1 : sz ≤ 8) (b2 : su ≤ 1000000) (b3 : wk ≤ 64) (b4 : cp ≤ 1000000) (b5 : O.length ≤ 15) (b6 : progF O = none) : (confT ⟨⟨kd, sz, su, wk, cp⟩, O⟩).length ≤ 2000 := by
  have hd : ∀ n : Nat, n ≤ 9999999 → (decB (n : Int)).length ≤ 7 := fun n hn => by
    unfold decB
    rw [Int.toNat_natCast]
    exact (dec_len_iff n 7 (by decide)).2 (by omega)
  have hpl : (progT O).length ≤ 1000 := by
    have := joinB_le (b := 59) (P := O.map opT) (c := 13) (fun p hp => by
      obtain ⟨x, hx, rfl⟩ := List.mem_map.1 hp
      exact opT_len (by have := wrongF_zero ((progF_none.1 b6).2 x hx); omega))
    rw [List.length_map] at this
    show (joinB 59 (O.map opT)).length ≤ _
    omega
  have e1 := hd sz (by omega)
  have e2 := hd su (by omega)
  have e3 := hd wk (by omega)
  have e4 := hd cp (by omega)
  have e5 : (kname kd).length ≤ 7 := by unfold kname; split <;> simp
  unfold confT
  simp only [List.length_append, lineB_len]
  have w1 : wJob.length = 3 := rfl
  have w2 : wSize.length = 4 := rfl
  have w3 : wWork.length = 7 := rfl
  have w4 : wCap.length = 3 := rfl
  have w5 : wSup.length = 7 := rfl
  have w6 : wKeep.length = 4 := rfl
  split <;> split <;> simp only [List.length_nil, lineB_len] <;> omega
theorem midT_last (x : CK) : ∃ M', midT x = M' ++ [10] := by
  unfold midT lineB
  exact ⟨_, by simp only [← List.append_assoc, ← List.cons_append]; rfl⟩
theorem word_no10 {wd v : List UInt8} (h1 : (10 : UInt8) ∉ wd) (h2 : (10 : UInt8) ∉ v) : (10 : UInt8) ∉ wd ++ 32 :: v := by
  intro h
  rcases List.mem_append.1 h with h | h
  · exact h1 h
  · rcases List.mem_cons.1 h with h | h
    · exact absurd h (by decide)
    · exact h2 h
theorem lineB_eq (wd v : List UInt8) : lineB wd v = (wd ++ 32 :: v) ++ [10] := by unfold lineB; simp
theorem getD_left {a b : List UInt8} {i : Nat} (h : i < a.length) : (a ++ b).getD i 0 = a.getD i 0 := by
  rw [List.getD_eq_getElem?_getD, List.getD_eq_getElem?_getD, List.getElem?_append_left h]
theorem getD_right {a b : List UInt8} {i : Nat} (h : a.length ≤ i) : (a ++ b).getD i 0 = b.getD (i - a.length) 0 := by
  rw [List.getD_eq_getElem?_getD, List.getD_eq_getElem?_getD, List.getElem?_append_right h]
theorem getD_no {a : List UInt8} {i : Nat} (h : i < a.length) (hn : (10 : UInt8) ∉ a) : a.getD i 0 ≠ 10 := by
  rw [List.getD_eq_getElem?_getD, List.getElem?_eq_getElem h]
  intro e
  exact hn (by rw [← show a[i] = 10 from e]; exact List.getElem_mem _)
/-- A text's first line, its middle, its last line. -/
structure Cuts (T : List UInt8) (a P N : Nat) (J C M : List UInt8) : Prop where
  len : T.length = N
  ord : a + 1 ≤ P ∧ P + 1 ≤ N
  f1 : ∀ i, i < a → T.getD i 0 ≠ 10
  f2 : T.getD a 0 = 10
  f3 : ∀ i, P ≤ i → i + 1 < N → T.getD i 0 ≠ 10
  f4 : T.getD (P - 1) 0 = 10
  x1 : (str T).extract 0 (a + 1) = str J
  x2 : (str T).extract P N = str C
  x3 : (str T).extract (a + 1) P = str M
theorem str_ext (l : List UInt8) (i j : Nat) : (str l).extract i j = str ((l.drop i).take (j - i)) := by
  apply ByteArray.ext
  rw [ByteArray.data_extract]
  show l.toArray.extract i j = _
  rw [List.extract_toArray, List.extract_eq_take_drop]
  rfl
theorem conf_cuts {kd : Int} (hk : kd = 1 ∨ kd = 2 ∨ kd = 3) (sz su wk cp : Int) (O : List (Int × Int)) : ∃ a P N, Cuts (confT ⟨⟨kd, sz, su, wk, cp⟩, O⟩) a P N (lineB wJob (kname kd)) (lineB wCap (decB cp)) (midT ⟨⟨kd, sz, su, wk, cp⟩, O⟩) := by
  obtain ⟨j, hj⟩ : ∃ j, wJob ++ 32 :: kname kd = j := ⟨_, rfl⟩
  obtain ⟨c, hc⟩ : ∃ c, wCap ++ 32 :: decB cp = c := ⟨_, rfl⟩
  obtain ⟨M', hM'⟩ := midT_last ⟨⟨kd, sz, su, wk, cp⟩, O⟩
  obtain ⟨M, hM⟩ : ∃ M, midT ⟨⟨kd, sz, su, wk, cp⟩, O⟩ = M := ⟨_, rfl⟩
  have hj10 : (10 : UInt8) ∉ j := by rw [← hj]; exact word_no10 (by decide) (kname_no10 hk)
  have hc10 : (10 : UInt8) ∉ c := by rw [← hc]; exact word_no10 (by decide) (decB_no _)
  have hJ : lineB wJob (kname kd) = j ++ [10] := by rw [lineB_eq, hj]
  have hC : lineB wCap (decB cp) = c ++ [10] := by rw [lineB_eq, hc]
  have hT : confT ⟨⟨kd, sz, su, wk, cp⟩, O⟩ = (j ++ [10]) ++ (M ++ (c ++ [10])) := by
    rw [confT_mid]
    simp only
    rw [hJ, hC, hM]
  rw [hM] at hM' ⊢
  rw [hT, hJ, hC]
  have hml : M.length = M'.length + 1 := by rw [hM']; simp
  refine ⟨j.length, j.length + 1 + M.length, j.length + 1 + M.length + (c.length + 1), ⟨?_, ⟨by omega, by omega⟩, ?_, ?_, ?_, ?_, ?_, ?_, ?_⟩⟩
  · simp; omega
  · intro i hi
    rw [getD_left (by simp; omega), getD_left hi]
    exact getD_no hi hj10
  · rw [getD_left (by simp), getD_right (Nat.le_refl _), Nat.sub_self]
    rfl
  · intro i h1 h2
    rw [getD_right (by simp; omega), getD_right (by simp; omega), getD_left (by simp; omega)]
    exact getD_no (by simp; omega) hc10
  · rw [getD_right (by simp only [List.length_append, List.length_singleton]; omega), getD_left (by simp only [List.length_append, List.length_singleton]; omega), hM', getD_right (by simp only [List.length_append, List.length_singleton]; omega)]
    have e0 : j.length + 1 + (M' ++ [10]).length - 1 - (j ++ [10]).length - M'.length = 0 := by simp only [List.length_append, List.length_singleton]; omega
    rw [e0]
    rfl
  · rw [str_ext]
    congr 1
    rw [List.drop_zero, Nat.sub_zero, List.take_append_of_le_length (by simp), List.take_of_length_le (by simp)]
  · rw [str_ext]
    congr 1
    rw [← List.append_assoc, List.drop_append_of_le_length (by simp only [List.length_append, List.length_singleton]; omega), List.drop_of_length_le (by simp only [List.length_append, List.length_singleton]; omega), List.nil_append, List.take_of_length_le (by simp only [List.length_append, List.length_singleton]; omega)]
  · rw [str_ext]
    congr 1
    rw [List.drop_append_of_le_length (by simp), List.drop_of_length_le (by simp), List.nil_append, List.take_append_of_le_length (by omega), List.take_of_length_le (by omega)]
end Go.Proofs.YtbbdammdiplagaaGreatDoor
