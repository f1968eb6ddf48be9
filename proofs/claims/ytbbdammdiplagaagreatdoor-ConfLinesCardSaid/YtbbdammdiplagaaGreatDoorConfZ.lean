/- The text of what is right is told to be just that; pure. The text of what is right, read back; Edges. Lines of a text: which line is told; what is told is right; pure. -/
import Derived.Test.YtbbdammdiplagaaGreatDoorConfT
import Derived.Test.YtbbdammdiplagaaGreatDoorConfT2
import Derived.Test.YtbbdammdiplagaaGreatDoorConf3K
namespace Go.Proofs.YtbbdammdiplagaaGreatDoor
section
theorem line_parts {wd v r : List UInt8} (h1 : (32 : UInt8) ∉ wd) (h2 : (10 : UInt8) ∉ wd) (h3 : (10 : UInt8) ∉ v) : endsB (lineB wd v ++ r) = true ∧ partB (lineB wd v ++ r) = true ∧ wordOf (lineB wd v ++ r) = wd ∧ valOf (lineB wd v ++ r) = v ∧ restOf (lineB wd v ++ r) = r ∧ lineB wd v ++ r ≠ [] := by
  have e : lineB wd v ++ r = (wd ++ 32 :: v) ++ 10 :: r := by unfold lineB; simp
  have hno : (10 : UInt8) ∉ wd ++ 32 :: v := by
    intro h
    rcases List.mem_append.1 h with h | h
    · exact h2 h
    · rcases List.mem_cons.1 h with h | h
      · exact absurd h (by decide)
      · exact h3 h
  have hl : lineOf (lineB wd v ++ r) = wd ++ 32 :: v := by unfold lineOf; rw [e, cut_yes hno]
  refine ⟨?_, ?_, ?_, ?_, ?_, ?_⟩
  · unfold endsB; rw [e, cut_yes hno]
  · unfold partB; rw [hl, cut_yes h1]
  · unfold wordOf; rw [hl, cut_yes h1]
  · unfold valOf; rw [hl, cut_yes h1]
  · unfold restOf; rw [e, cut_yes hno]
  · rw [e]; simp
theorem runK_line {n : Nat} {x x' : CK} {st : List (List UInt8)} {wd v r : List UInt8} (h1 : (32 : UInt8) ∉ wd) (h2 : (10 : UInt8) ∉ wd) (h3 : (10 : UInt8) ∉ v) (hj : (decide (st = []) != decide (wd = wJob)) = false) (hm : wd ∉ st) (hs : setK x wd v = some x') : runK (n + 1) x st (lineB wd v ++ r) = runK n x' (st ++ [wd]) r := by
  obtain ⟨q1, q2, q3, q4, q5, q6⟩ := line_parts (r := r) h1 h2 h3
  rw [runK_step (x' := x') q6 q1 q2 (by rw [q3]; exact hj) (by rw [q3]; exact hm) (by rw [q3, q4]; exact hs), q3, q5]
theorem setK_job {x : CK} {k : Int} (h : k = 1 ∨ k = 2 ∨ k = 3) : setK x wJob (kname k) = some ⟨{ x.c with kind := k }, x.o⟩ := by
  unfold setK
  rw [if_neg (by decide)]
  have hk : (kindOf (kname k)).getD x.c.kind = k := by rcases h with rfl | rfl | rfl <;> rfl
  unfold setP
  rw [if_pos rfl, hk, if_neg (by omega)]
  rfl
theorem setK_num {x : CK} {wd : List UInt8} {n : Nat} (hk : wd ≠ wKeep) (hj : wd ≠ wJob) (hs : ¬ (wd = wSup ∧ x.c.kind ≠ 3)) (hw : wd = wSup ∨ wd = wSize ∨ wd = wWork ∨ wd = wCap) (h1 : 1 ≤ n) (h2 : (n : Int) ≤ mostOf wd) (h3 : n ≤ 9999999) : setK x wd (decB n) = some ⟨setN x.c wd n, x.o⟩ := by
  unfold setK
  rw [if_neg hk]
  unfold setP decB
  rw [if_neg hj, if_neg hs, if_pos hw, Int.toNat_natCast, numB_dec h3]
  simp only
  rw [if_pos ⟨by omega, h2⟩]
  rfl
theorem setK_keep {x : CK} {O : List (Int × Int)} (h : progF O = none) (h0 : O ≠ []) (h1 : O.length ≤ 15) : setK x wKeep (progT O) = some ⟨x.c, O⟩ := by
  unfold setK
  rw [if_pos rfl, keepV_some h]
  exact if_pos ⟨h0, h1⟩
theorem decB_no (n : Int) : (10 : UInt8) ∉ decB n := by
  unfold decB
  exact dec_not (by decide)
theorem opT_no10 (o : Int × Int) : (10 : UInt8) ∉ opT o := by
  unfold opT
  intro h
  rcases List.mem_append.1 h with h | h
  · exact absurd (nameB_byte h) (by decide)
  · split at h
    · rcases List.mem_cons.1 h with h | h
      · exact absurd h (by decide)
      · exact dec_not (by decide) h
    · simp at h
theorem join_no10 : ∀ {P : List (List UInt8)}, (∀ p ∈ P, (10 : UInt8) ∉ p) → (10 : UInt8) ∉ joinB 59 P
  | [], _ => by simp [joinB]
  | [p], h => h p (by simp)
  | p :: q :: t, h => by
    rw [joinB_cons]
    intro hm
    rcases List.mem_append.1 hm with hm | hm
    · exact h p (by simp) hm
    · rcases List.mem_cons.1 hm with hm | hm
      · exact absurd hm (by decide)
      · exact join_no10 (fun x hx => h x (List.mem_cons_of_mem _ hx)) hm
theorem progT_no10 (O : List (Int × Int)) : (10 : UInt8) ∉ progT O := join_no10 (fun p hp => by
  obtain ⟨o, _, rfl⟩ := List.mem_map.1 hp
  exact opT_no10 o)
theorem kname_no10 {k : Int} (h : k = 1 ∨ k = 2 ∨ k = 3) : (10 : UInt8) ∉ kname k := by rcases h with rfl | rfl | rfl <;> decide
/-- The lines of a text, from the first on. -/
theorem run_text (m : Nat) (kd : Int) (sz su wk cp : Nat) (O : List (Int × Int)) (hk : kd = 1 ∨ kd = 2 ∨ kd = 3) (h1 : 1 ≤ sz ∧ sz ≤ 8) (h2 : kd = 3 → 1 ≤ su ∧ su ≤ 1000000) (h2' : kd ≠ 3 → su = 0) (h3 : 1 ≤ wk ∧ wk ≤ 64) (h4 : 1 ≤ cp ∧ cp ≤ 1000000) (h5 : O.length ≤ 15) (h6 : progF O = none) :
    ∃ k, runK (m + 7) ck0 [] (confT ⟨⟨kd, sz, su, wk, cp⟩, O⟩) = .inr (⟨⟨kd, sz, su, wk, cp⟩, O⟩, k) := by
  unfold confT
  simp only
  rw [runK_line (by decide) (by decide) (kname_no10 hk) (by decide) (by decide) (setK_job hk)]
  rw [runK_line (by decide) (by decide) (decB_no _) (by decide) (by decide) (setK_num (by decide) (by decide) (by simp [wSize, wSup]) (by simp) h1.1 (by show (sz : Int) ≤ 8; omega) (by omega))]
  by_cases h3k : kd = 3
  · obtain ⟨g1, g2⟩ := h2 h3k
    subst h3k
    rw [if_pos rfl]
    rw [runK_line (by decide) (by decide) (decB_no _) (by decide) (by decide) (setK_num (by decide) (by decide) (fun e => e.2 rfl) (by simp) g1 (by show (su : Int) ≤ 1000000; omega) (by omega))]
    by_cases h0 : O.length = 0
    · obtain rfl := List.eq_nil_of_length_eq_zero h0
      rw [if_pos (show ([] : List (Int × Int)).length = 0 from rfl)]
      simp only [List.nil_append]
      rw [runK_line (by decide) (by decide) (decB_no _) (by decide) (by decide) (setK_num (by decide) (by decide) (fun e => absurd e.1 (by decide)) (by simp) h3.1 (by show (wk : Int) ≤ 64; omega) (by omega))]
      rw [← List.append_nil (lineB wCap _), runK_line (by decide) (by decide) (decB_no _) (by decide) (by decide) (setK_num (by decide) (by decide) (fun e => absurd e.1 (by decide)) (by simp) h4.1 (by show (cp : Int) ≤ 1000000; omega) (by omega)), runK_nil]
      exact ⟨_, rfl⟩
    · rw [if_neg h0]
      rw [runK_line (by decide) (by decide) (progT_no10 _) (by decide) (by decide) (setK_keep h6 (fun e => h0 (by rw [e]; rfl)) h5)]
      rw [runK_line (by decide) (by decide) (decB_no _) (by decide) (by decide) (setK_num (by decide) (by decide) (fun e => absurd e.1 (by decide)) (by simp) h3.1 (by show (wk : Int) ≤ 64; omega) (by omega))]
      rw [← List.append_nil (lineB wCap _), runK_line (by decide) (by decide) (decB_no _) (by decide) (by decide) (setK_num (by decide) (by decide) (fun e => absurd e.1 (by decide)) (by simp) h4.1 (by show (cp : Int) ≤ 1000000; omega) (by omega)), runK_nil]
      exact ⟨_, rfl⟩
  · have hsu := h2' h3k
    subst hsu
    rw [if_neg h3k]
    simp only [List.nil_append]
    by_cases h0 : O.length = 0
    · obtain rfl := List.eq_nil_of_length_eq_zero h0
      rw [if_pos (show ([] : List (Int × Int)).length = 0 from rfl)]
      simp only [List.nil_append]
      rw [runK_line (by decide) (by decide) (decB_no _) (by decide) (by decide) (setK_num (by decide) (by decide) (fun e => absurd e.1 (by decide)) (by simp) h3.1 (by show (wk : Int) ≤ 64; omega) (by omega))]
      rw [← List.append_nil (lineB wCap _), runK_line (by decide) (by decide) (decB_no _) (by decide) (by decide) (setK_num (by decide) (by decide) (fun e => absurd e.1 (by decide)) (by simp) h4.1 (by show (cp : Int) ≤ 1000000; omega) (by omega)), runK_nil]
      exact ⟨_, rfl⟩
    · rw [if_neg h0]
      rw [runK_line (by decide) (by decide) (progT_no10 _) (by decide) (by decide) (setK_keep h6 (fun e => h0 (by rw [e]; rfl)) h5)]
      rw [runK_line (by decide) (by decide) (decB_no _) (by decide) (by decide) (setK_num (by decide) (by decide) (fun e => absurd e.1 (by decide)) (by simp) h3.1 (by show (wk : Int) ≤ 64; omega) (by omega))]
      rw [← List.append_nil (lineB wCap _), runK_line (by decide) (by decide) (decB_no _) (by decide) (by decide) (setK_num (by decide) (by decide) (fun e => absurd e.1 (by decide)) (by simp) h4.1 (by show (cp : Int) ≤ 1000000; omega) (by omega)), runK_nil]
      exact ⟨_, rfl⟩
end

section
open Go.RowKit

theorem rightKB_iff {kd sz su wk cp : Int} {O : List (Int × Int)} : rightKB ⟨⟨kd, sz, su, wk, cp⟩, O⟩ = true ↔ (1 ≤ kd ∧ kd ≤ 3) ∧ supB ⟨⟨kd, sz, su, wk, cp⟩, O⟩ = true ∧ (1 ≤ sz ∧ sz ≤ 8) ∧ (1 ≤ wk ∧ wk ≤ 64) ∧ (1 ≤ cp ∧ cp ≤ 1000000) ∧ O.length ≤ 15 ∧ progF O = none := by
  unfold rightKB
  simp only [Bool.and_eq_true, decide_eq_true_iff, Option.isNone_iff_eq_none]
theorem tell_text {kd : Int} {sz su wk cp : Nat} {O : List (Int × Int)} (h : rightKB ⟨⟨kd, sz, su, wk, cp⟩, O⟩ = true) : tellK (confT ⟨⟨kd, sz, su, wk, cp⟩, O⟩) = .inr ⟨⟨kd, sz, su, wk, cp⟩, O⟩ := by
  obtain ⟨h0, hs, h2, h3, h4, h5, h6⟩ := rightKB_iff.1 h
  have hl : 7 ≤ (confT ⟨⟨kd, sz, su, wk, cp⟩, O⟩).length := by
    unfold confT
    simp only [List.length_append, lineB_len]
    have e1 : wJob.length = 3 := rfl
    have e2 : wSize.length = 4 := rfl
    omega
  obtain ⟨m, hm⟩ : ∃ m, (confT ⟨⟨kd, sz, su, wk, cp⟩, O⟩).length = m + 7 := ⟨_, (Nat.sub_add_cancel hl).symm⟩
  have hsup : (kd = 3 → 1 ≤ su ∧ su ≤ 1000000) ∧ (kd ≠ 3 → su = 0) := by
    unfold supB at hs
    constructor
    · intro hk
      rw [if_pos hk] at hs
      have := of_decide_eq_true hs
      simp only at this
      omega
    · intro hk
      rw [if_neg hk] at hs
      have := of_decide_eq_true hs
      simp only at this
      omega
  obtain ⟨k, hr⟩ := run_text m kd sz su wk cp O (by omega) (by omega) hsup.1 hsup.2 (by omega) (by omega) h5 h6
  rw [← hm] at hr
  rw [tellK_inr hr, if_neg]
  simp only
  rintro (g | ⟨g1, g2⟩)
  · omega
  · have := hsup.1 g1
    omega
theorem edges_any22 (kd sz su wk cp : Int) (kv : Value) (w : World) : Calls Tryz.prog 17 #[.agg (cV ⟨kd, sz, su, wk, cp⟩ kv)] w fun e w' => e = .returned (.bool (kd == 3)) ∧ Below w.heap.size w w' := by
  have HB := Lib.hid ((Below.refl w.heap.size w).alloc (Nat.le_refl _) (.cells (cV ⟨kd, sz, su, wk, cp⟩ kv) 29))
  have hx := Whole.new w 29 (cV ⟨kd, sz, su, wk, cp⟩ kv)
  obtain ⟨w1, hw1⟩ : ∃ W, w.alloc (.cells (cV ⟨kd, sz, su, wk, cp⟩ kv) 29) = W := ⟨_, rfl⟩
  rw [hw1] at HB hx
  have x0 : w1.cell? ⟨w.heap.size, 0, none⟩ = some (.int .i64 kd) := hx.cell 0
  have HW1 := Lib.hid hw1
  clear hx hw1
  go_enter Tryz.func17, Tryz.ntmps17
  go_upto_region 1 with fail
  rw [HW1.out]
  go_wp2_with fail
  go_ret
  exact ⟨rfl, HB.out⟩
end

section
/-- How many lines end in a text. -/
def nlB (s : List UInt8) : Nat := s.count 10
/-- A text's first lines. -/
def headL : Nat → List UInt8 → List UInt8
  | 0, _ => []
  | _ + 1, [] => []
  | j + 1, c :: t => c :: headL (if c = 10 then j else j + 1) t
theorem headL_zero (s : List UInt8) : headL 0 s = [] := by cases s <;> rfl
theorem headL_line (j : Nat) : ∀ (p q : List UInt8), (10 : UInt8) ∉ p → headL (j + 1) (p ++ 10 :: q) = p ++ 10 :: headL j q
  | [], q, _ => by
    show (10 : UInt8) :: headL (if (10 : UInt8) = 10 then j else j + 1) q = _
    rw [if_pos rfl]; rfl
  | c :: p, q, h => by
    have hc : c ≠ 10 := fun e => h (by rw [e]; simp)
    show c :: headL (if c = 10 then j else j + 1) (p ++ 10 :: q) = _
    rw [if_neg hc, headL_line j p q (fun m => h (List.mem_cons_of_mem _ m))]
    rfl
theorem nl_line (p q : List UInt8) (h : (10 : UInt8) ∉ p) : nlB (p ++ 10 :: q) = nlB q + 1 := by
  unfold nlB
  rw [List.count_append, List.count_eq_zero.2 h, List.count_cons_self]; omega
theorem ends_split {s : List UInt8} (h : endsB s = true) : ∃ p q, s = p ++ 10 :: q ∧ (10 : UInt8) ∉ p := by
  rcases cut_cases s 10 with hn | h2
  · unfold endsB at h; rw [cut_no hn] at h; cases h
  · exact h2
theorem same_line {p : List UInt8} (q r : List UInt8) (h : (10 : UInt8) ∉ p) : endsB (p ++ 10 :: r) = true ∧ partB (p ++ 10 :: r) = partB (p ++ 10 :: q) ∧ wordOf (p ++ 10 :: r) = wordOf (p ++ 10 :: q) ∧ valOf (p ++ 10 :: r) = valOf (p ++ 10 :: q) ∧ restOf (p ++ 10 :: r) = r := by
  have hl : lineOf (p ++ 10 :: r) = lineOf (p ++ 10 :: q) := by unfold lineOf; rw [cut_yes h, cut_yes h]
  refine ⟨?_, ?_, ?_, ?_, ?_⟩
  · unfold endsB; rw [cut_yes h]
  · unfold partB; rw [hl]
  · unfold wordOf; rw [hl]
  · unfold valOf; rw [hl]
  · unfold restOf; rw [cut_yes h]
theorem bad_not {st : List (List UInt8)} {s : List UInt8} (h : ¬ (endsB s = false ∨ partB s = false ∨ (decide (st = []) != decide (wordOf s = wJob)) = true ∨ wordOf s ∈ st)) : endsB s = true ∧ partB s = true ∧ (decide (st = []) != decide (wordOf s = wJob)) = false ∧ wordOf s ∉ st := by
  refine ⟨?_, ?_, ?_, fun e => h (Or.inr (Or.inr (Or.inr e)))⟩
  · cases e : endsB s with
    | true => rfl
    | false => exact absurd (Or.inl e) h
  · cases e : partB s with
    | true => rfl
    | false => exact absurd (Or.inr (Or.inl e)) h
  · cases e : (decide (st = []) != decide (wordOf s = wJob)) with
    | false => rfl
    | true => exact absurd (Or.inr (Or.inr (Or.inl e))) h
theorem run_head : ∀ (n : Nat) (x : CK) (st : List (List UInt8)) (s : List UInt8) (j : Nat), s.length ≤ n → (runK n x st s = .inl j ∨ ∃ y, runK n x st s = .inr (y, j)) →
    st.length ≤ j ∧ j ≤ st.length + nlB s ∧ ∃ y, ∀ m, (headL (j - st.length) s).length ≤ m → runK m x st (headL (j - st.length) s) = .inr (y, j) := by
  intro n
  induction n with
  | zero =>
    intro x st s j hs h
    obtain rfl := List.eq_nil_of_length_eq_zero (Nat.le_zero.1 hs)
    rw [runK_nil] at h
    have hj : j = st.length := by
      rcases h with h | ⟨y, h⟩
      · cases h
      · injection h with h; injection h with _ h; exact h.symm
    subst hj
    refine ⟨Nat.le_refl _, by omega, x, fun m _ => ?_⟩
    rw [Nat.sub_self]; exact runK_nil m x st
  | succ n ih =>
    intro x st s j hs h
    have stay : j = st.length → st.length ≤ j ∧ j ≤ st.length + nlB s ∧ ∃ y, ∀ m, (headL (j - st.length) s).length ≤ m → runK m x st (headL (j - st.length) s) = .inr (y, j) := by
      rintro rfl
      refine ⟨Nat.le_refl _, by omega, x, fun m _ => ?_⟩
      rw [Nat.sub_self, headL_zero]; exact runK_nil m x st
    by_cases h0 : s = []
    · subst h0
      rw [runK_nil] at h
      refine stay ?_
      rcases h with h | ⟨y, h⟩
      · cases h
      · injection h with h; injection h with _ h; exact h.symm
    by_cases hb : endsB s = false ∨ partB s = false ∨ (decide (st = []) != decide (wordOf s = wJob)) = true ∨ wordOf s ∈ st
    · rw [runK_bad h0 hb] at h
      refine stay ?_
      rcases h with h | ⟨y, h⟩
      · injection h with h; exact h.symm
      · cases h
    obtain ⟨h1, h2, h3, h4⟩ := bad_not hb
    cases hset : setK x (wordOf s) (valOf s) with
    | none =>
      rw [runK_none h0 hset] at h
      refine stay ?_
      rcases h with h | ⟨y, h⟩
      · injection h with h; exact h.symm
      · cases h
    | some x' =>
      rw [runK_step h0 h1 h2 h3 h4 hset] at h
      obtain ⟨p, q, rfl, hp⟩ := ends_split h1
      rw [(same_line q q hp).2.2.2.2] at h
      obtain ⟨g1, g2, y, g3⟩ := ih x' (st ++ [wordOf (p ++ 10 :: q)]) q j (by rw [List.length_append, List.length_cons] at hs; omega) h
      rw [show (st ++ [wordOf (p ++ 10 :: q)]).length = st.length + 1 by simp] at g1 g2 g3
      refine ⟨by omega, by rw [nl_line p q hp]; omega, y, fun m hm => ?_⟩
      obtain ⟨d, hd⟩ : ∃ d, j = st.length + 1 + d := ⟨j - (st.length + 1), by omega⟩
      rw [show j - (st.length + 1) = d by omega] at g3
      rw [show j - st.length = d + 1 by omega, headL_line d p q hp] at hm ⊢
      obtain ⟨k, rfl⟩ : ∃ k, m = k + 1 := ⟨m - 1, by rw [List.length_append, List.length_cons] at hm; omega⟩
      obtain ⟨a1, a2, a3, a4, a5⟩ := same_line q (headL d q) hp
      rw [runK_step (x' := x') (by simp) a1 (a2.trans h2) (by rw [a3]; exact h3) (by rw [a3]; exact h4) (by rw [a3, a4]; exact hset), a3, a5]
      refine g3 k ?_
      rw [List.length_append, List.length_cons] at hm
      omega
theorem tell_head {s : List UInt8} {i : Nat} (h : tellK s = .inl i) : i ≤ nlB s ∧ ((∃ y, tellK (headL i s) = .inr y) ∨ tellK (headL i s) = .inl i) := by
  have hr : runK s.length ck0 [] s = .inl i ∨ ∃ y, runK s.length ck0 [] s = .inr (y, i) := by
    cases hr : runK s.length ck0 [] s with
    | inl j =>
      rw [tellK_inl hr] at h
      injection h with h
      rw [h]
      exact Or.inl rfl
    | inr y =>
      obtain ⟨y, k⟩ := y
      rw [tellK_inr hr] at h
      split at h
      · injection h with h
        rw [h]
        exact Or.inr ⟨y, rfl⟩
      · cases h
  obtain ⟨_, h2, y, h3⟩ := run_head s.length ck0 [] s i (Nat.le_refl _) hr
  simp only [List.length_nil, Nat.sub_zero, Nat.zero_add] at h2 h3
  refine ⟨h2, ?_⟩
  have h4 := h3 _ (Nat.le_refl _)
  rw [tellK_inr h4]
  split
  · exact Or.inr rfl
  · exact Or.inl ⟨y, rfl⟩
/-- What holds of what was asked so far. -/
def InvK (x : CK) (st : List (List UInt8)) : Prop :=
  (st = [] ∧ x = ck0) ∨ (st ≠ [] ∧ (1 ≤ x.c.kind ∧ x.c.kind ≤ 3) ∧ (0 ≤ x.c.size ∧ x.c.size ≤ 8) ∧ (x.c.sup = 0 ∨ (x.c.kind = 3 ∧ 1 ≤ x.c.sup ∧ x.c.sup ≤ 1000000)) ∧ (1 ≤ x.c.work ∧ x.c.work ≤ 64) ∧ (1 ≤ x.c.cap ∧ x.c.cap ≤ 1000000) ∧ x.o.length ≤ 15 ∧ progF x.o = none)
theorem progF_nil : progF [] = none := progF_none.2 ⟨by decide, fun o h => by cases h⟩
theorem inv_set {x x' : CK} {st : List (List UInt8)} {wd v : List UInt8} (h : InvK x st) (hj : (decide (st = []) != decide (wd = wJob)) = false) (hs : setK x wd v = some x') : InvK x' (st ++ [wd]) := by
  refine Or.inr ⟨by simp, ?_⟩
  unfold setK at hs
  by_cases hw : wd = wJob
  · have h0 : st = [] := by
      rw [decide_eq_true hw] at hj
      by_cases e : st = []
      · exact e
      · rw [decide_eq_false e] at hj; cases hj
    have hx : x = ck0 := by
      rcases h with h | h
      · exact h.2
      · exact absurd h0 h.1
    subst hx hw
    rw [if_neg (by decide)] at hs
    unfold setP at hs
    rw [if_pos rfl] at hs
    have hk : kindOf v = none ∨ ∃ k, kindOf v = some k ∧ 1 ≤ k ∧ k ≤ 3 := by
      unfold kindOf
      split
      · exact Or.inr ⟨1, rfl, by decide, by decide⟩
      · split
        · exact Or.inr ⟨2, rfl, by decide, by decide⟩
        · split
          · exact Or.inr ⟨3, rfl, by decide, by decide⟩
          · exact Or.inl rfl
    rcases hk with hk | ⟨k, hk, k1, k2⟩
    · rw [hk, if_pos (show (none : Option Int).getD ck0.c.kind = 0 from rfl)] at hs; cases hs
    · rw [hk] at hs
      simp only [Option.getD_some] at hs
      rw [if_neg (by omega)] at hs
      simp only [Option.map_some, Option.some.injEq] at hs
      subst hs
      exact ⟨⟨k1, k2⟩, ⟨(by decide : (0 : Int) ≤ 0), (by decide : (0 : Int) ≤ 8)⟩, Or.inl rfl, ⟨(by decide : (1 : Int) ≤ 1), (by decide : (1 : Int) ≤ 64)⟩, ⟨(by decide : (1 : Int) ≤ 1000000), (by decide : (1000000 : Int) ≤ 1000000)⟩, Nat.zero_le _, progF_nil⟩
  · have h0 : st ≠ [] := by
      rw [decide_eq_false hw] at hj
      intro e
      rw [decide_eq_true e] at hj; cases hj
    obtain ⟨_, b1, b2, b3, b4, b5, b6, b7⟩ : st ≠ [] ∧ (1 ≤ x.c.kind ∧ x.c.kind ≤ 3) ∧ (0 ≤ x.c.size ∧ x.c.size ≤ 8) ∧ (x.c.sup = 0 ∨ (x.c.kind = 3 ∧ 1 ≤ x.c.sup ∧ x.c.sup ≤ 1000000)) ∧ (1 ≤ x.c.work ∧ x.c.work ≤ 64) ∧ (1 ≤ x.c.cap ∧ x.c.cap ≤ 1000000) ∧ x.o.length ≤ 15 ∧ progF x.o = none := by
      rcases h with h | h
      · exact absurd h.1 h0
      · exact h
    by_cases hk : wd = wKeep
    · rw [if_pos hk] at hs
      cases hv : keepV v with
      | none => rw [hv] at hs; cases hs
      | some O =>
        rw [hv] at hs
        unfold keepC at hs
        simp only at hs
        split at hs
        · rename_i ho
          injection hs with hs
          subst hs
          exact ⟨b1, b2, b3, b4, b5, ho.2, (keepV_of hv).1⟩
        · cases hs
    · rw [if_neg hk] at hs
      unfold setP at hs
      rw [if_neg hw] at hs
      by_cases hsp : wd = wSup ∧ x.c.kind ≠ 3
      · rw [if_pos hsp] at hs; cases hs
      rw [if_neg hsp] at hs
      split at hs
      · rename_i hor
        cases hn : numB v with
        | none => rw [hn] at hs; cases hs
        | some z =>
          rw [hn] at hs
          simp only at hs
          split at hs
          · rename_i hz
            simp only [Option.map_some, Option.some.injEq] at hs
            subst hs
            unfold setN
            unfold mostOf at hz
            rcases hor with rfl | rfl | rfl | rfl
            · have e : wSup ≠ wSize := by decide
              simp only [if_neg e] at hz ⊢
              have h3 : x.c.kind = 3 := by
                by_cases h3 : x.c.kind = 3
                · exact h3
                · exact absurd ⟨rfl, h3⟩ hsp
              exact ⟨b1, b2, Or.inr ⟨h3, hz⟩, b4, b5, b6, b7⟩
            · simp only at hz ⊢
              exact ⟨b1, ⟨by have := hz.1; show 0 ≤ z; omega, hz.2⟩, b3, b4, b5, b6, b7⟩
            · have e1 : wWork ≠ wSize := by decide
              have e2 : wWork ≠ wSup := by decide
              simp only [if_neg e1, if_neg e2] at hz ⊢
              exact ⟨b1, b2, b3, hz, b5, b6, b7⟩
            · have e1 : wCap ≠ wSize := by decide
              have e2 : wCap ≠ wSup := by decide
              have e3 : wCap ≠ wWork := by decide
              simp only [if_neg e1, if_neg e2, if_neg e3] at hz ⊢
              exact ⟨b1, b2, b3, b4, hz, b6, b7⟩
          · cases hs
      · cases hs
theorem run_inv : ∀ (n : Nat) (x : CK) (st : List (List UInt8)) (s : List UInt8) (y : CK) (k : Nat), InvK x st → runK n x st s = .inr (y, k) → ∃ st', InvK y st' := by
  intro n
  induction n with
  | zero =>
    intro x st s y k h hr
    unfold runK at hr
    injection hr with hr
    injection hr with e _
    exact ⟨st, e ▸ h⟩
  | succ n ih =>
    intro x st s y k h hr
    by_cases h0 : s = []
    · subst h0
      rw [runK_nil] at hr
      injection hr with hr
      injection hr with e _
      exact ⟨st, e ▸ h⟩
    by_cases hb : endsB s = false ∨ partB s = false ∨ (decide (st = []) != decide (wordOf s = wJob)) = true ∨ wordOf s ∈ st
    · rw [runK_bad h0 hb] at hr; cases hr
    obtain ⟨h1, h2, h3, h4⟩ := bad_not hb
    cases hset : setK x (wordOf s) (valOf s) with
    | none => rw [runK_none h0 hset] at hr; cases hr
    | some x' =>
      rw [runK_step h0 h1 h2 h3 h4 hset] at hr
      exact ih x' _ _ y k (inv_set h h3 hset) hr
theorem right_tell {s : List UInt8} {x : CK} (h : tellK s = .inr x) : rightKB x = true := by
  cases hr : runK s.length ck0 [] s with
  | inl j => rw [tellK_inl hr] at h; cases h
  | inr y =>
    obtain ⟨y, k⟩ := y
    rw [tellK_inr hr] at h
    split at h
    · cases h
    · rename_i hno
      injection h with h
      subst h
      obtain ⟨st', hi⟩ := run_inv _ _ _ _ _ _ (Or.inl ⟨rfl, rfl⟩) hr
      rcases hi with ⟨_, rfl⟩ | ⟨_, b1, b2, b3, b4, b5, b6, b7⟩
      · exact absurd (Or.inl rfl) hno
      · obtain ⟨⟨kd, sz, su, wk, cp⟩, O⟩ := y
        simp only at b1 b2 b3 b4 b5 b6 b7 hno
        refine rightKB_iff.2 ⟨b1, ?_, ⟨by omega, b2.2⟩, b4, b5, b6, b7⟩
        unfold supB
        simp only
        split
        · rename_i h3
          refine decide_eq_true ?_
          rcases b3 with b3 | b3
          · exact absurd (Or.inr ⟨h3, b3⟩) hno
          · exact b3.2
        · rename_i h3
          refine decide_eq_true ?_
          rcases b3 with b3 | b3
          · exact b3
          · exact absurd b3.1 h3
/-- What is told, by numbers from nought on. -/
theorem tell_nat {s : List UInt8} {x : CK} (h : tellK s = .inr x) : ∃ (kd : Int) (sz su wk cp : Nat) (O : List (Int × Int)), x = ⟨⟨kd, sz, su, wk, cp⟩, O⟩ ∧ rightKB ⟨⟨kd, sz, su, wk, cp⟩, O⟩ = true ∧ (kd = 1 ∨ kd = 2 ∨ kd = 3) ∧ sz ≤ 8 ∧ su ≤ 1000000 ∧ wk ≤ 64 ∧ cp ≤ 1000000 ∧ O.length ≤ 15 ∧ progF O = none := by
  have hr := right_tell h
  obtain ⟨⟨kd, sz, su, wk, cp⟩, O⟩ := x
  obtain ⟨h0, hs, h2, h3, h4, h5, h6⟩ := rightKB_iff.1 hr
  have hsu : 0 ≤ su ∧ su ≤ 1000000 := by
    unfold supB at hs
    split at hs
    · have := of_decide_eq_true hs
      simp only at this
      omega
    · have := of_decide_eq_true hs
      simp only at this
      omega
  have e1 : sz = (sz.toNat : Int) := (Int.toNat_of_nonneg (by omega)).symm
  have e2 : su = (su.toNat : Int) := (Int.toNat_of_nonneg (by omega)).symm
  have e3 : wk = (wk.toNat : Int) := (Int.toNat_of_nonneg (by omega)).symm
  have e4 : cp = (cp.toNat : Int) := (Int.toNat_of_nonneg (by omega)).symm
  refine ⟨kd, sz.toNat, su.toNat, wk.toNat, cp.toNat, O, ?_, ?_, by omega, by omega, by omega, by omega, by omega, h5, h6⟩
  · rw [← e1, ← e2, ← e3, ← e4]
  · rw [← e1, ← e2, ← e3, ← e4]; exact hr
end
end Go.Proofs.YtbbdammdiplagaaGreatDoor
