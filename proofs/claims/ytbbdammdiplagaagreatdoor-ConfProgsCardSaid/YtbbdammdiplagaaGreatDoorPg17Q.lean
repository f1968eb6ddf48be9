/- What programs keep; pure. -/
import Derived.Test.YtbbdammdiplagaaGreatDoorPg17P
import Derived.Test.YtbbdammdiplagaaGreatDoorPatZ
namespace Go.Proofs.YtbbdammdiplagaaGreatDoor

def degI (E : List (Int × Int)) (v : Int) : Int := (E.countP (atEnd v) : Nat)
def hasE (E : List (Int × Int)) (a b : Int) : Bool := decide (ris (a, b) ∈ E)
def closedB (n : Nat) (E : List (Int × Int)) (e : Int × Int) : Bool := (List.range n).any fun v => hasE E e.1 (v : Int) && hasE E e.2 (v : Int)
/-- Does a test that is right hold of a pattern that is right? -/
def testR (o : Int × Int) (L : List Int) (E : List (Int × Int)) : Bool :=
  if o.1 = 1 then decide (E.length = L.length * (L.length - 1) / 2)
  else if o.1 = 2 then !(L.any fun x => decide (o.2 < x))
  else if o.1 = 3 then !(E.any fun e => decide (o.2 < max (degI E e.1) (degI E e.2)))
  else if o.1 = 4 then decide ((L.length : Int) ≤ o.2)
  else if o.1 = 5 then decide ((E.length : Int) ≤ o.2)
  else if o.1 = 6 then decide L.Nodup
  else if o.1 = 7 then !(L.any fun x => decide (x ≠ o.2))
  else !(E.any (closedB L.length E))
def testB (o : Int × Int) (L : List Int) (E : List (Int × Int)) : Bool := decide (wrongF o = 0) && ((rightF L E).isNone && testR o L E)
/-- The place of the first test that doesn't hold, or -1. -/
def firstF (O : List (Int × Int)) (L : List Int) (E : List (Int × Int)) : Int := match (List.range O.length).find? (fun i => !testB (O.getD i (0, 0)) L E) with
  | some i => (i : Int)
  | none => -1
def keepsB (O : List (Int × Int)) (L : List Int) (E : List (Int × Int)) : Bool := (progF O).isNone && ((rightF L E).isNone && decide (firstF O L E < 0))
theorem firstF_neg {O : List (Int × Int)} {L : List Int} {E : List (Int × Int)} : firstF O L E < 0 ↔ ∀ o ∈ O, testB o L E = true := by
  unfold firstF
  cases h : (List.range O.length).find? (fun i => !testB (O.getD i (0, 0)) L E) with
  | some i =>
    have h1 := List.find?_some h
    have h2 := List.mem_range.1 (List.mem_of_find?_eq_some h)
    simp only
    refine ⟨fun hh => by omega, fun hh => ?_⟩
    have := hh _ (getD_memE h2)
    rw [this] at h1
    cases h1
  | none =>
    simp only
    refine ⟨fun _ o ho => ?_, fun _ => by omega⟩
    obtain ⟨i, hi, rfl⟩ := List.getElem_of_mem ho
    have := List.find?_eq_none.1 h i (List.mem_range.2 hi)
    simpa [List.getD, hi] using this
theorem firstF_at {O : List (Int × Int)} {L : List Int} {E : List (Int × Int)} {k : Nat} (hk : k < O.length) (h : ∀ i, i < k → testB (O.getD i (0, 0)) L E = true) (hf : testB (O.getD k (0, 0)) L E = false) : firstF O L E = k := by
  unfold firstF
  rw [find_at hk (fun i hi => by rw [h i hi]; rfl) (by rw [hf]; rfl)]
theorem firstF_none {O : List (Int × Int)} {L : List Int} {E : List (Int × Int)} (h : ∀ i, i < O.length → testB (O.getD i (0, 0)) L E = true) : firstF O L E = -1 := by
  unfold firstF
  rw [find_none (fun i hi => by rw [h i hi]; rfl)]
theorem keepsB_iff {O : List (Int × Int)} {L : List Int} {E : List (Int × Int)} : keepsB O L E = true ↔ progF O = none ∧ rightF L E = none ∧ ∀ o ∈ O, testB o L E = true := by
  unfold keepsB
  rw [Bool.and_eq_true, Bool.and_eq_true, decide_eq_true_iff, firstF_neg, Option.isNone_iff_eq_none, Option.isNone_iff_eq_none]
theorem testB_iff {o : Int × Int} {L : List Int} {E : List (Int × Int)} : testB o L E = true ↔ wrongF o = 0 ∧ rightF L E = none ∧ testR o L E = true := by
  unfold testB
  rw [Bool.and_eq_true, Bool.and_eq_true, decide_eq_true_iff, Option.isNone_iff_eq_none]
theorem keepsB_app {A B : List (Int × Int)} {L : List Int} {E : List (Int × Int)} (ha : progF A = none) (hb : progF B = none) (hl : A.length + B.length ≤ 16) : keepsB (A ++ B) L E = (keepsB A L E && keepsB B L E) := by
  have h1 := progF_none.1 ha
  have h2 := progF_none.1 hb
  have hab : progF (A ++ B) = none := progF_none.2 ⟨by rw [List.length_append]; omega, fun o ho => by
    rcases List.mem_append.1 ho with h | h
    · exact h1.2 o h
    · exact h2.2 o h⟩
  rw [Bool.eq_iff_iff, Bool.and_eq_true, keepsB_iff, keepsB_iff, keepsB_iff]
  constructor
  · rintro ⟨_, h, k⟩
    exact ⟨⟨ha, h, fun o ho => k o (List.mem_append.2 (Or.inl ho))⟩, hb, h, fun o ho => k o (List.mem_append.2 (Or.inr ho))⟩
  · rintro ⟨⟨_, h, k1⟩, _, _, k2⟩
    exact ⟨hab, h, fun o ho => by
      rcases List.mem_append.1 ho with h | h
      · exact k1 o h
      · exact k2 o h⟩
/-- How many edges, and at a vertex, a pattern that is right can have. -/
theorem nodup_len {α : Type _} [DecidableEq α] : ∀ {A B : List α}, A.Nodup → (∀ x ∈ A, x ∈ B) → A.length ≤ B.length
  | [], B, _, _ => Nat.zero_le _
  | a :: s, B, hn, h => by
    rw [List.nodup_cons] at hn
    have h1 := nodup_len (A := s) (B := B.erase a) hn.2 (fun x hx => (List.mem_erase_of_ne (fun e => hn.1 (by rw [← e]; exact hx))).2 (h x (List.mem_cons_of_mem _ hx)))
    have h2 := List.length_erase_of_mem (h a (by simp))
    have h3 := List.length_pos_of_mem (h a (by simp))
    rw [List.length_cons]
    omega
def pairs8 : List (Int × Int) := (List.range 8).flatMap fun (a : Nat) => (List.range 8).filterMap fun (b : Nat) => if a < b then some ((a : Int), (b : Int)) else none
theorem pairs8_len : pairs8.length = 28 := by decide
theorem pairs8_mem {a b : Int} (h0 : 0 ≤ a) (h1 : a < b) (h2 : b < 8) : (a, b) ∈ pairs8 := by
  unfold pairs8
  rw [List.mem_flatMap]
  refine ⟨a.toNat, List.mem_range.2 (by omega), ?_⟩
  rw [List.mem_filterMap]
  refine ⟨b.toNat, List.mem_range.2 (by omega), ?_⟩
  rw [if_pos (by omega)]
  simp
  omega
theorem RightP.edges {L : List Int} {E : List (Int × Int)} (h : RightP L E) : E.length ≤ 28 := by
  rw [← pairs8_len]
  refine nodup_len h.rising.nodup (fun e he => ?_)
  have := h.ends e he
  have := h.len
  exact pairs8_mem (by omega) (by omega) (by omega)
theorem degI_le {L : List Int} {E : List (Int × Int)} (h : RightP L E) (v : Int) : degI E v ≤ 7 := by
  unfold degI
  rw [List.countP_eq_length_filter]
  have key : ((E.filter (atEnd v)).map fun e => if e.1 = v then e.2 else e.1).length ≤ ((List.range 8).map (fun n : Nat => (n : Int))).length - 1 + 0 := by
    by_cases hv : 0 ≤ v ∧ v < 8
    · have h1 := nodup_len (A := v :: (E.filter (atEnd v)).map fun e => if e.1 = v then e.2 else e.1) (B := (List.range 8).map (fun n : Nat => (n : Int))) ?_ ?_
      · simp at h1 ⊢
        omega
      · rw [List.nodup_cons]
        constructor
        · intro hm
          obtain ⟨e, he, hh⟩ := List.mem_map.1 hm
          have := h.ends e (List.mem_filter.1 he).1
          split at hh <;> omega
        · rw [List.nodup_iff_pairwise_ne, List.pairwise_map]
          refine List.Pairwise.imp_of_mem (R := ltE) (fun {a b} ha hb hl => ?_) (h.rising.filter _)
          have a1 := (List.mem_filter.1 ha).2
          have b1 := (List.mem_filter.1 hb).2
          unfold atEnd at a1 b1
          simp at a1 b1
          unfold ltE at hl
          have ea := h.ends a (List.mem_filter.1 ha).1
          have eb := h.ends b (List.mem_filter.1 hb).1
          split <;> split <;> omega
      · intro x hx
        rcases List.mem_cons.1 hx with rfl | hx
        · exact List.mem_map.2 ⟨x.toNat, List.mem_range.2 (by omega), by omega⟩
        · obtain ⟨e, he, rfl⟩ := List.mem_map.1 hx
          have he' := h.ends e (List.mem_filter.1 he).1
          have := h.len
          split
          · exact List.mem_map.2 ⟨e.2.toNat, List.mem_range.2 (by omega), by omega⟩
          · exact List.mem_map.2 ⟨e.1.toNat, List.mem_range.2 (by omega), by omega⟩
    · have : E.filter (atEnd v) = [] := by
        rw [List.filter_eq_nil_iff]
        intro e he hh
        have := h.ends e he
        have := h.len
        unfold atEnd at hh
        simp at hh
        omega
      rw [this]
      simp
  rw [List.length_map] at key
  simp at key
  omega
theorem mild_keeps {L : List Int} {E : List (Int × Int)} (h : RightP L E) : keepsB [(2, 255), (3, 7), (4, 8), (5, 28)] L E = true := by
  have hr := rightF_none.2 h
  refine keepsB_iff.2 ⟨by decide, hr, fun o ho => ?_⟩
  simp only [List.mem_cons, List.not_mem_nil, or_false] at ho
  have h1 := h.len
  have h2 := h.edges
  rcases ho with rfl | rfl | rfl | rfl
  · refine testB_iff.2 ⟨by decide, hr, ?_⟩
    have : ¬ (L.any fun x => decide ((255 : Int) < x)) = true := by
      rw [List.any_eq_true]
      rintro ⟨x, hx, hh⟩
      have := h.lab x hx
      simp at hh
      omega
    simp [testR]
    intro x hx
    exact (h.lab x hx).2
  · refine testB_iff.2 ⟨by decide, hr, ?_⟩
    simp [testR]
    intro a b he
    have h3 := degI_le h a
    have h4 := degI_le h b
    omega
  · refine testB_iff.2 ⟨by decide, hr, ?_⟩
    simp [testR]
    omega
  · refine testB_iff.2 ⟨by decide, hr, ?_⟩
    simp [testR]
    omega
end Go.Proofs.YtbbdammdiplagaaGreatDoor
