/- Lists of connected sets: pure. -/
import Derived.Test.YtploaffmhemjkaaLinkV
import Derived.Test.YtploaffmhemjkaaRef06
namespace Go.Proofs.Ytploaffmhemjkaa

/-- Is a vertex beside one of some? -/
def bes (b : Int → Int → Bool) (l : List Int) (v : Int) : Bool := l.any fun u => b u v
/-- May a vertex come next? -/
def cand (b : Int → Int → Bool) (l : List Int) (v : Int) : Bool := !l.contains v && (l.isEmpty || bes b l v)
def nextL (b : Int → Int → Bool) (T l : List Int) : Option Int := T.find? (cand b l)
def listGo (b : Int → Int → Bool) (T : List Int) : Nat → List Int → Option (List Int)
  | 0, l => some l
  | k + 1, l => match nextL b T l with
    | none => none
    | some v => listGo b T k (l ++ [v])
/-- The list of a set of numbers. -/
def listL (n : Nat) (b : Int → Int → Bool) (s : List Int) : Option (List Int) :=
  if (ofR s).all (hasV n) then listGo b (ofR s) (ofR s).length [] else none
def folTo (b : Int → Int → Bool) (l : List Int) (v : Int) : Nat → Bool
  | 0 => true
  | i + 1 => folTo b l v i && !(l.getD i 0 == v || (bes b (l.take i) v && decide (v < l.getD i 0)))
/-- May a vertex come behind? -/
def follows (n : Nat) (b : Int → Int → Bool) (l : List Int) (v : Int) : Bool :=
  hasV n v && ((l.isEmpty || decide (l.getD 0 0 ≤ v)) && (folTo b l v l.length && (l.isEmpty || bes b l v)))
def canTo (n : Nat) (b : Int → Int → Bool) (l : List Int) : Nat → Bool
  | 0 => true
  | i + 1 => canTo n b l i && follows n b (l.take i) (l.getD i 0)
def canL (n : Nat) (b : Int → Int → Bool) (l : List Int) : Bool := canTo n b l l.length
/-- Linked lists, for any way to be beside. -/
def lkTo (n : Nat) (b : Int → Int → Bool) (l : List Int) : Nat → Bool
  | 0 => true
  | i + 1 => lkTo n b l i && (hasV n (l.getD i 0) && (!(l.take i).contains (l.getD i 0) && (decide (i = 0) || bes b (l.take i) (l.getD i 0))))

theorem take_nil {l : List Int} {i : Nat} (hi : i < l.length) (h : l.take i = []) : i = 0 := by
  have h2 : (l.take i).length = 0 := by rw [h]; rfl
  rw [List.length_take] at h2
  omega
theorem bes_iff {b : Int → Int → Bool} {l : List Int} {v : Int} : bes b l v = true ↔ ∃ u, u ∈ l ∧ b u v = true := by
  unfold bes
  rw [List.any_eq_true]
theorem cand_iff {b : Int → Int → Bool} {l : List Int} {v : Int} : cand b l v = true ↔ v ∉ l ∧ (l = [] ∨ bes b l v = true) := by
  unfold cand
  simp
theorem nextL_some {b : Int → Int → Bool} {T l : List Int} (hT : Rising T) {v : Int} : nextL b T l = some v ↔ v ∈ T ∧ cand b l v = true ∧ ∀ u, u ∈ T → cand b l u = true → v ≤ u := by
  unfold nextL
  induction T with
  | nil => simp
  | cons a t ih =>
    have h' := List.pairwise_cons.1 hT
    rw [List.find?_cons]
    cases hc : cand b l a with
    | true =>
      simp only
      constructor
      · intro h
        injection h with h
        subst h
        refine ⟨List.mem_cons_self, hc, fun u hu _ => ?_⟩
        rcases List.mem_cons.1 hu with rfl | hu
        · omega
        · have := h'.1 u hu; omega
      · rintro ⟨h1, h2, h3⟩
        have h4 := h3 a List.mem_cons_self hc
        rcases List.mem_cons.1 h1 with rfl | h1
        · rfl
        · have := h'.1 v h1; omega
    | false =>
      simp only
      rw [ih h'.2]
      constructor
      · rintro ⟨h1, h2, h3⟩
        refine ⟨List.mem_cons_of_mem _ h1, h2, fun u hu hcu => ?_⟩
        rcases List.mem_cons.1 hu with rfl | hu
        · rw [hc] at hcu; cases hcu
        · exact h3 u hu hcu
      · rintro ⟨h1, h2, h3⟩
        rcases List.mem_cons.1 h1 with rfl | h1
        · rw [hc] at h2; cases h2
        · exact ⟨h1, h2, fun u hu => h3 u (List.mem_cons_of_mem _ hu)⟩
theorem nextL_none {b : Int → Int → Bool} {T l : List Int} : nextL b T l = none ↔ ∀ u, u ∈ T → cand b l u = false := by
  unfold nextL
  rw [List.find?_eq_none]
  simp
/-- Each of a list is the next behind those ahead of it. -/
def IsList (b : Int → Int → Bool) (T l : List Int) : Prop := ∀ i, (hi : i < l.length) → nextL b T (l.take i) = some l[i]
theorem IsList.nil (b : Int → Int → Bool) (T : List Int) : IsList b T [] := fun i hi => by simp at hi
theorem IsList.snoc {b : Int → Int → Bool} {T l : List Int} {v : Int} (h : IsList b T l) (hv : nextL b T l = some v) : IsList b T (l ++ [v]) := by
  intro i hi
  rw [List.length_append] at hi
  simp at hi
  rcases Nat.lt_or_ge i l.length with hl | hl
  · rw [List.take_append_of_le_length (by omega), List.getElem_append_left hl]
    exact h i hl
  · obtain rfl : i = l.length := by omega
    rw [List.take_left, List.getElem_append_right (Nat.le_refl _)]
    simpa using hv
theorem listGo_some {b : Int → Int → Bool} {T : List Int} : ∀ {k : Nat} {l x : List Int}, IsList b T l → (listGo b T k l = some x ↔ l <+: x ∧ x.length = l.length + k ∧ IsList b T x)
  | 0, l, x, hl => by
    unfold listGo
    constructor
    · intro h
      injection h with h
      subst h
      exact ⟨List.prefix_refl _, rfl, hl⟩
    · rintro ⟨h1, h2, h3⟩
      rw [List.IsPrefix.eq_of_length h1 (by omega)]
  | k + 1, l, x, hl => by
    unfold listGo
    cases hv : nextL b T l with
    | none =>
      simp only
      constructor
      · intro h; cases h
      · rintro ⟨⟨t, rfl⟩, h2, h3⟩
        have hlt : l.length < (l ++ t).length := by omega
        have := h3 l.length hlt
        rw [List.take_left, hv] at this
        cases this
    | some v =>
      simp only
      rw [listGo_some (hl.snoc hv)]
      constructor
      · rintro ⟨h1, h2, h3⟩
        refine ⟨(List.prefix_append l [v]).trans h1, ?_, h3⟩
        rw [h2, List.length_append]
        simp
        omega
      · rintro ⟨⟨t, rfl⟩, h2, h3⟩
        have hlt : l.length < (l ++ t).length := by omega
        have h4 := h3 l.length hlt
        rw [List.take_left, hv] at h4
        injection h4 with h4
        rw [List.getElem_append_right (Nat.le_refl _)] at h4
        cases t with
        | nil => simp at hlt
        | cons c t =>
          simp at h4
          subst h4
          refine ⟨⟨t, by simp⟩, ?_, h3⟩
          rw [h2, List.length_append]
          simp
          omega
theorem listL_some {n : Nat} {b : Int → Int → Bool} {s x : List Int} : listL n b s = some x ↔ (∀ u, u ∈ s → hasV n u = true) ∧ x.length = (ofR s).length ∧ IsList b (ofR s) x := by
  obtain ⟨_, h2, _⟩ := ofR_parts _ s rfl
  unfold listL
  by_cases h : (ofR s).all (hasV n) = true
  · rw [if_pos h, listGo_some (IsList.nil _ _)]
    rw [List.all_eq_true] at h
    have h' : ∀ u, u ∈ s → hasV n u = true := fun u hu => h u ((h2 u).2 hu)
    exact ⟨fun hh => ⟨h', by simpa using hh.2⟩, fun hh => ⟨List.nil_prefix, by simpa using hh.2⟩⟩
  · rw [if_neg h]
    have h' : ¬ ∀ u, u ∈ s → hasV n u = true := fun k => h (by rw [List.all_eq_true]; exact fun u hu => k u ((h2 u).1 hu))
    simp [h']
theorem IsList.nodup {b : Int → Int → Bool} {T l : List Int} (hT : Rising T) (h : IsList b T l) : l.Nodup := by
  unfold List.Nodup
  rw [List.pairwise_iff_getElem]
  intro i j hi hj hij e
  have h1 := ((nextL_some hT).1 (h j hj)).2.1
  rw [cand_iff] at h1
  exact h1.1 (by rw [← e, List.mem_take_iff_getElem]; exact ⟨i, by omega, rfl⟩)
theorem IsList.sub {b : Int → Int → Bool} {T l : List Int} (hT : Rising T) (h : IsList b T l) {u : Int} (hu : u ∈ l) : u ∈ T := by
  obtain ⟨i, hi, rfl⟩ := List.getElem_of_mem hu
  exact ((nextL_some hT).1 (h i hi)).1
theorem nodup_le : ∀ {l T : List Int}, l.Nodup → (∀ u, u ∈ l → u ∈ T) → l.length ≤ T.length
  | [], _, _, _ => Nat.zero_le _
  | a :: t, T, h, hs => by
    have h' := List.nodup_cons.1 h
    have hm : a ∈ T := hs a (by simp)
    have ih := nodup_le (l := t) (T := T.erase a) h'.2 (fun u hu => by
      have hne : u ≠ a := fun e => h'.1 (e ▸ hu)
      exact (List.mem_erase_of_ne hne).2 (hs u (by simp [hu])))
    rw [List.length_erase_of_mem hm] at ih
    have := List.length_pos_of_mem hm
    simp
    omega
theorem full_mem {l T : List Int} (hl : l.Nodup) (hs : ∀ u, u ∈ l → u ∈ T) (hlen : T.length ≤ l.length) (u : Int) : u ∈ T → u ∈ l := fun hu =>
  Classical.byContradiction fun hn => by
    have h1 : (u :: l).Nodup := List.nodup_cons.2 ⟨hn, hl⟩
    have h2 : (u :: l).length ≤ T.length := by
      refine nodup_le h1 ?_
      intro x hx
      rcases List.mem_cons.1 hx with rfl | hx
      · exact hu
      · exact hs x hx
    simp at h2
    omega
theorem rising_nodup {T : List Int} (h : Rising T) : T.Nodup := h.imp fun h => by omega
theorem listL_same {n : Nat} {b : Int → Int → Bool} {s x : List Int} (h : listL n b s = some x) : x.Nodup ∧ (∀ u, u ∈ x ↔ u ∈ s) ∧ ofR x = ofR s ∧ (∀ u, u ∈ s → hasV n u = true) ∧ x.length = (ofR s).length ∧ listL n b x = some x := by
  obtain ⟨h1, h2, h3⟩ := listL_some.1 h
  obtain ⟨p1, p2, _⟩ := ofR_parts _ s rfl
  have hn := h3.nodup p1
  have hm : ∀ u, u ∈ x ↔ u ∈ s := fun u => by
    rw [← p2]
    exact ⟨h3.sub p1, full_mem hn (fun _ => h3.sub p1) (by omega) u⟩
  have ho : ofR x = ofR s := ofR_congr hm
  refine ⟨hn, hm, ho, h1, h2, ?_⟩
  rw [listL_some, ho]
  exact ⟨fun u hu => h1 u ((hm u).1 hu), h2, h3⟩
theorem folTo_iff {b : Int → Int → Bool} {l : List Int} {v : Int} : ∀ {k : Nat}, k ≤ l.length → (folTo b l v k = true ↔ ∀ j, (hj : j < l.length) → j < k → l[j] ≠ v ∧ (bes b (l.take j) v = true → l[j] ≤ v))
  | 0, _ => by simp [folTo]
  | k + 1, hk => by
    have hkl : k < l.length := by omega
    unfold folTo
    rw [Bool.and_eq_true, folTo_iff (by omega), show l.getD k 0 = l[k] by simp [List.getD, hkl]]
    constructor
    · rintro ⟨h1, h2⟩ j hj hjk
      rcases (by omega : j < k ∨ j = k) with h | rfl
      · exact h1 j hj h
      · simp at h2
        exact ⟨h2.1, fun hb => h2.2.resolve_left (by rw [hb]; simp)⟩
    · intro h
      refine ⟨fun j hj hjk => h j hj (by omega), ?_⟩
      have := h k hkl (by omega)
      simp
      refine ⟨this.1, ?_⟩
      cases hb : bes b (l.take k) v with
      | false => exact Or.inl rfl
      | true => exact Or.inr (this.2 hb)
theorem follows_iff {n : Nat} {b : Int → Int → Bool} {l : List Int} {v : Int} : follows n b l v = true ↔ hasV n v = true ∧ v ∉ l ∧ (l = [] ∨ (l.getD 0 0 ≤ v ∧ bes b l v = true)) ∧ ∀ j, (hj : j < l.length) → bes b (l.take j) v = true → l[j] ≤ v := by
  unfold follows
  simp only [Bool.and_eq_true, Bool.or_eq_true, List.isEmpty_iff, decide_eq_true_eq]
  rw [folTo_iff (Nat.le_refl _)]
  constructor
  · rintro ⟨h1, h2, h3, h4⟩
    refine ⟨h1, fun hv => ?_, ?_, fun j hj => (h3 j hj hj).2⟩
    · obtain ⟨i, hi, e⟩ := List.getElem_of_mem hv
      exact (h3 i hi hi).1 e
    · rcases h2 with h2 | h2
      · exact Or.inl h2
      · rcases h4 with h4 | h4
        · exact Or.inl h4
        · exact Or.inr ⟨h2, h4⟩
  · rintro ⟨h1, h2, h3, h4⟩
    refine ⟨h1, ?_, fun j hj _ => ⟨fun e => h2 (e ▸ List.getElem_mem _), h4 j hj⟩, ?_⟩
    · rcases h3 with h3 | h3
      · exact Or.inl h3
      · exact Or.inr h3.1
    · rcases h3 with h3 | h3
      · exact Or.inl h3
      · exact Or.inr h3.2
theorem canTo_iff {n : Nat} {b : Int → Int → Bool} {l : List Int} : ∀ {k : Nat}, k ≤ l.length → (canTo n b l k = true ↔ ∀ j, (hj : j < l.length) → j < k → follows n b (l.take j) l[j] = true)
  | 0, _ => by simp [canTo]
  | k + 1, hk => by
    have hkl : k < l.length := by omega
    unfold canTo
    rw [Bool.and_eq_true, canTo_iff (by omega), show l.getD k 0 = l[k] by simp [List.getD, hkl]]
    constructor
    · rintro ⟨h1, h2⟩ j hj hjk
      rcases (by omega : j < k ∨ j = k) with h | rfl
      · exact h1 j hj h
      · exact h2
    · intro h
      exact ⟨fun j hj hjk => h j hj (by omega), h k hkl (by omega)⟩
theorem canTo_bad {n : Nat} {b : Int → Int → Bool} {l : List Int} {i : Nat} : ∀ {k : Nat}, i < k → follows n b (l.take i) (l.getD i 0) = false → canTo n b l k = false
  | 0, h, _ => by omega
  | k + 1, h, hf => by
    unfold canTo
    rcases (by omega : i < k ∨ i = k) with h | rfl
    · rw [canTo_bad h hf]; rfl
    · rw [hf]; simp
theorem folTo_bad {b : Int → Int → Bool} {l : List Int} {v : Int} {i : Nat} : ∀ {k : Nat}, i < k → (l.getD i 0 == v || (bes b (l.take i) v && decide (v < l.getD i 0))) = true → folTo b l v k = false
  | 0, h, _ => by omega
  | k + 1, h, hf => by
    unfold folTo
    rcases (by omega : i < k ∨ i = k) with h | rfl
    · rw [folTo_bad h hf]; rfl
    · rw [hf]; simp
theorem canTo_take {n : Nat} {b : Int → Int → Bool} {l : List Int} {i : Nat} : ∀ {k : Nat}, k ≤ i → i ≤ l.length → canTo n b (l.take i) k = canTo n b l k
  | 0, _, _ => rfl
  | k + 1, h, hi => by
    unfold canTo
    rw [canTo_take (by omega) hi, List.take_take, Nat.min_eq_left (by omega)]
    congr 2
    simp [List.getD, List.getElem?_take_of_lt (show k < i by omega)]
theorem canL_take {n : Nat} {b : Int → Int → Bool} {l : List Int} {i : Nat} (hi : i ≤ l.length) : canL n b (l.take i) = canTo n b l i := by
  unfold canL
  rw [List.length_take, Nat.min_eq_left hi]
  exact canTo_take (Nat.le_refl _) hi
theorem canL_snoc (n : Nat) (b : Int → Int → Bool) (l : List Int) (v : Int) : canL n b (l ++ [v]) = (canL n b l && follows n b l v) := by
  have h := canL_take (n := n) (b := b) (l := l ++ [v]) (i := l.length) (by simp)
  rw [List.take_left] at h
  show canTo n b (l ++ [v]) (l ++ [v]).length = _
  rw [List.length_append]
  show (canTo n b (l ++ [v]) l.length && follows n b ((l ++ [v]).take l.length) ((l ++ [v]).getD l.length 0)) = _
  rw [h, List.take_left]
  simp [List.getD]
theorem canL_pre {n : Nat} {b : Int → Int → Bool} {l : List Int} (h : canL n b l = true) {i : Nat} (hi : i ≤ l.length) : canL n b (l.take i) = true := by
  rw [canL_take hi, canTo_iff hi]
  exact fun j hj _ => (canTo_iff (Nat.le_refl _)).1 h j hj hj
theorem getD_take {l : List Int} {i : Nat} (hi : 0 < i) : (l.take i).getD 0 0 = l.getD 0 0 := by
  simp [List.getD, List.getElem?_take_of_lt hi]
theorem canL_nodup {n : Nat} {b : Int → Int → Bool} {l : List Int} (h : canL n b l = true) : l.Nodup := by
  have hc := (canTo_iff (Nat.le_refl _)).1 h
  unfold List.Nodup
  rw [List.pairwise_iff_getElem]
  intro i j hi hj hij e
  have := (follows_iff.1 (hc j hj hj)).2.1
  exact this (by rw [← e, List.mem_take_iff_getElem]; exact ⟨i, by omega, rfl⟩)
theorem ofR_len {l : List Int} (h : l.Nodup) : (ofR l).length = l.length := by
  obtain ⟨h1, h2, _⟩ := ofR_parts _ l rfl
  exact ((List.perm_ext_iff_of_nodup (rising_nodup h1) h).2 h2).length_eq
/-- A list is canonical just if it's the list of its set. -/
theorem can_iff {n : Nat} {b : Int → Int → Bool} {l : List Int} : canL n b l = true ↔ listL n b l = some l := by
  obtain ⟨p1, p2, _⟩ := ofR_parts _ l rfl
  constructor
  · intro h
    have hc := (canTo_iff (Nat.le_refl _)).1 h
    have hn := canL_nodup h
    rw [listL_some]
    refine ⟨fun u hu => ?_, (ofR_len hn).symm, fun i hi => ?_⟩
    · obtain ⟨i, hi, rfl⟩ := List.getElem_of_mem hu
      exact (follows_iff.1 (hc i hi hi)).1
    · rw [nextL_some p1, cand_iff]
      obtain ⟨f1, f2, f3, f4⟩ := follows_iff.1 (hc i hi hi)
      refine ⟨(p2 _).2 (List.getElem_mem _), ⟨f2, ?_⟩, fun u hu hcu => ?_⟩
      · rcases f3 with f3 | f3
        · exact Or.inl f3
        · exact Or.inr f3.2
      · rw [cand_iff] at hcu
        rw [p2] at hu
        obtain ⟨j, hj, rfl⟩ := List.getElem_of_mem hu
        have hij : i ≤ j := by
          rcases Nat.lt_or_ge j i with h | h
          · exact absurd (List.mem_take_iff_getElem.2 ⟨j, by omega, rfl⟩) hcu.1
          · exact h
        rcases (by omega : i = j ∨ i < j) with rfl | hij
        · omega
        · obtain ⟨g1, g2, g3, g4⟩ := follows_iff.1 (hc j hj hj)
          have hil : i < (l.take j).length := by rw [List.length_take]; omega
          rcases hcu.2 with h0 | h0
          · have hi0 : i = 0 := take_nil hi h0
            subst hi0
            rcases g3 with g3 | g3
            · rw [g3] at hil; simp at hil
            · rw [getD_take hij] at g3
              simpa [List.getD, show 0 < l.length by omega] using g3.1
          · have := g4 i hil (by rw [List.take_take, Nat.min_eq_left (by omega)]; exact h0)
            rwa [List.getElem_take] at this
  · intro h
    obtain ⟨h1, h2, h3⟩ := listL_some.1 h
    unfold canL
    rw [canTo_iff (Nat.le_refl _)]
    intro i hi _
    have hI := (nextL_some p1).1 (h3 i hi)
    have hci := cand_iff.1 hI.2.1
    rw [follows_iff]
    refine ⟨h1 _ (List.getElem_mem _), hci.1, ?_, fun j hj hb => ?_⟩
    · rcases Nat.eq_zero_or_pos i with rfl | hp
      · exact Or.inl (by simp)
      · right
        rcases hci.2 with h0 | h0
        · have := take_nil hi h0
          omega
        · refine ⟨?_, h0⟩
          rw [getD_take hp]
          have := ((nextL_some p1).1 (h3 0 (by omega))).2.2 l[i] hI.1 (by rw [cand_iff]; exact ⟨by simp, Or.inl (by simp)⟩)
          simpa [List.getD, show 0 < l.length by omega] using this
    · rw [List.length_take] at hj
      rw [List.take_take, Nat.min_eq_left (by omega)] at hb
      rw [List.getElem_take]
      refine ((nextL_some p1).1 (h3 j (by omega))).2.2 l[i] hI.1 ?_
      rw [cand_iff]
      exact ⟨fun hm => hci.1 ((List.take_subset_take_left l (by omega)) hm), Or.inr hb⟩
theorem lkTo_iff {n : Nat} {b : Int → Int → Bool} {l : List Int} : ∀ {k : Nat}, k ≤ l.length → (lkTo n b l k = true ↔ ∀ j, (hj : j < l.length) → j < k → hasV n l[j] = true ∧ l[j] ∉ l.take j ∧ (j = 0 ∨ bes b (l.take j) l[j] = true))
  | 0, _ => by simp [lkTo]
  | k + 1, hk => by
    have hkl : k < l.length := by omega
    unfold lkTo
    rw [Bool.and_eq_true, lkTo_iff (by omega), show l.getD k 0 = l[k] by simp [List.getD, hkl]]
    constructor
    · rintro ⟨h1, h2⟩ j hj hjk
      rcases (by omega : j < k ∨ j = k) with h | rfl
      · exact h1 j hj h
      · simpa using h2
    · intro h
      exact ⟨fun j hj hjk => h j hj (by omega), by simpa using h k hkl (by omega)⟩
theorem can_lk {n : Nat} {b : Int → Int → Bool} {l : List Int} (h : canL n b l = true) : lkTo n b l l.length = true := by
  rw [lkTo_iff (Nat.le_refl _)]
  intro j hj _
  obtain ⟨f1, f2, f3, _⟩ := follows_iff.1 ((canTo_iff (Nat.le_refl _)).1 h j hj hj)
  refine ⟨f1, f2, ?_⟩
  rcases f3 with f3 | f3
  · exact Or.inl (take_nil hj f3)
  · exact Or.inr f3.2
theorem lk_nodup {n : Nat} {b : Int → Int → Bool} {l : List Int} (h : lkTo n b l l.length = true) : l.Nodup := by
  have hc := (lkTo_iff (Nat.le_refl _)).1 h
  unfold List.Nodup
  rw [List.pairwise_iff_getElem]
  intro i j hi hj hij e
  exact (hc j hj hj).2.1 (by rw [← e, List.mem_take_iff_getElem]; exact ⟨i, by omega, rfl⟩)
/-- A linked list's set goes on until it's whole. -/
theorem lk_next {n : Nat} {b : Int → Int → Bool} (hb : ∀ u v, b u v = b v u) {l : List Int} (h : lkTo n b l l.length = true) {q : List Int} (hq : ∀ u, u ∈ q → u ∈ l) (hne : ∃ u, u ∈ l ∧ u ∉ q) : nextL b (ofR l) q ≠ none := by
  intro hnone
  rw [nextL_none] at hnone
  obtain ⟨_, p2, _⟩ := ofR_parts _ l rfl
  have hc := (lkTo_iff (Nat.le_refl _)).1 h
  have hno : ∀ u, u ∈ l → u ∉ q → q ≠ [] ∧ ∀ x, x ∈ q → b x u = false := by
    intro u hu hnq
    have := hnone u ((p2 u).2 hu)
    constructor
    · intro e
      have : cand b q u = true := cand_iff.2 ⟨hnq, Or.inl e⟩
      rw [hnone u ((p2 u).2 hu)] at this
      cases this
    · intro x hx
      cases hbx : b x u with
      | false => rfl
      | true =>
        have : cand b q u = true := cand_iff.2 ⟨hnq, Or.inr (bes_iff.2 ⟨x, hx, hbx⟩)⟩
        rw [hnone u ((p2 u).2 hu)] at this
        cases this
  obtain ⟨u, hu, hnq⟩ := hne
  obtain ⟨y, hy⟩ : ∃ y, y ∈ q := by
    cases q with
    | nil => exact absurd rfl (hno u hu hnq).1
    | cons y t => exact ⟨y, by simp⟩
  -- all are in q just if the first is
  have all : ∀ j, (hj : j < l.length) → (l[j] ∈ q ↔ l[0]'(by omega) ∈ q) := by
    intro j
    induction j using Nat.strongRecOn with
    | ind j ih =>
      intro hj
      rcases Nat.eq_zero_or_pos j with rfl | hp
      · exact Iff.rfl
      · rcases (hc j hj hj).2.2 with h0 | h0
        · omega
        · obtain ⟨x, hx, hbx⟩ := bes_iff.1 h0
          rw [List.mem_take_iff_getElem] at hx
          obtain ⟨i, hi, rfl⟩ := hx
          have hil : i < l.length := by omega
          have ihi := ih i (by omega) hil
          rw [← ihi]
          constructor
          · intro hjq
            exact Classical.byContradiction fun hiq => by
              have := (hno l[i] (List.getElem_mem _) hiq).2 _ hjq
              rw [hb, hbx] at this
              cases this
          · intro hiq
            exact Classical.byContradiction fun hjq => by
              have := (hno l[j] (List.getElem_mem _) hjq).2 _ hiq
              rw [hbx] at this
              cases this
  obtain ⟨i, hi, rfl⟩ := List.getElem_of_mem hu
  obtain ⟨j, hj, rfl⟩ := List.getElem_of_mem (hq y hy)
  exact hnq ((all i hi).2 ((all j hj).1 hy))
theorem listGo_lk {n : Nat} {b : Int → Int → Bool} (hb : ∀ u v, b u v = b v u) {l : List Int} (h : lkTo n b l l.length = true) : ∀ (k : Nat) (q : List Int), IsList b (ofR l) q → q.length + k ≤ (ofR l).length → listGo b (ofR l) k q ≠ none
  | 0, q, _, _ => by simp [listGo]
  | k + 1, q, hq, hk => by
    obtain ⟨p1, p2, _⟩ := ofR_parts _ l rfl
    unfold listGo
    have h1 : nextL b (ofR l) q ≠ none := by
      refine lk_next hb h (fun u hu => (p2 u).1 (hq.sub p1 hu)) (Classical.byContradiction fun hn => ?_)
      have : (ofR l).length ≤ q.length := by
        refine nodup_le (rising_nodup p1) fun u hu => ?_
        exact Classical.byContradiction fun k => hn ⟨u, (p2 u).1 hu, k⟩
      omega
    cases hv : nextL b (ofR l) q with
    | none => exact absurd hv h1
    | some v =>
      simp only
      exact listGo_lk hb h k (q ++ [v]) (hq.snoc hv) (by rw [List.length_append]; simp; omega)
theorem lk_list {n : Nat} {b : Int → Int → Bool} (hb : ∀ u v, b u v = b v u) {l : List Int} (h : lkTo n b l l.length = true) : ∃ x, listL n b l = some x ∧ x.length = l.length := by
  obtain ⟨p1, p2, _⟩ := ofR_parts _ l rfl
  have hc := (lkTo_iff (Nat.le_refl _)).1 h
  have hall : (ofR l).all (hasV n) = true := by
    rw [List.all_eq_true]
    intro u hu
    obtain ⟨i, hi, rfl⟩ := List.getElem_of_mem ((p2 u).1 hu)
    exact (hc i hi hi).1
  cases hx : listL n b l with
  | none =>
    unfold listL at hx
    rw [if_pos hall] at hx
    exact absurd hx (listGo_lk hb h _ _ (IsList.nil _ _) (by simp))
  | some x => exact ⟨x, rfl, by rw [(listL_same hx).2.2.2.2.1, ofR_len (lk_nodup h)]⟩
theorem list_can {n : Nat} {b : Int → Int → Bool} {s x : List Int} (h : listL n b s = some x) : canL n b x = true := can_iff.2 (listL_same h).2.2.2.2.2
theorem listL_congr {n : Nat} {b : Int → Int → Bool} {s t : List Int} (h : ∀ u, u ∈ s ↔ u ∈ t) : listL n b s = listL n b t := by
  unfold listL
  rw [ofR_congr h]
/-- With more beside one another, no set is lost. -/
theorem list_more {n : Nat} {b c : Int → Int → Bool} (hc : ∀ u v, c u v = c v u) (hbc : ∀ u v, b u v = true → c u v = true) {s x : List Int} (h : listL n b s = some x) : ∃ y, listL n c s = some y ∧ y.length = x.length := by
  have hm := (listL_same h).2.1
  have hl := (lkTo_iff (Nat.le_refl _)).1 (can_lk (list_can h))
  have hk : lkTo n c x x.length = true := by
    rw [lkTo_iff (Nat.le_refl _)]
    intro j hj _
    obtain ⟨h1, h2, h3⟩ := hl j hj hj
    refine ⟨h1, h2, h3.imp id fun h3 => ?_⟩
    obtain ⟨u, hu, hbu⟩ := bes_iff.1 h3
    exact bes_iff.2 ⟨u, hu, hbc _ _ hbu⟩
  obtain ⟨y, hy, hyl⟩ := lk_list hc hk
  exact ⟨y, by rw [← listL_congr hm]; exact hy, hyl⟩
end Go.Proofs.Ytploaffmhemjkaa
