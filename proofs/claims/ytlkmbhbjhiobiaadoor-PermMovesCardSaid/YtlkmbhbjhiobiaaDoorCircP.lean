/- Going round in an order: what circles there are (pure). -/
import Derived.Test.YtlkmbhbjhiobiaaDoorListsLaw
namespace Go.Proofs.YtlkmbhbjhiobiaaDoor
open Go.RowKit

def nx (P : Nat → Int) (x : Nat) : Nat := (P x).toNat
def it (P : Nat → Int) (x : Nat) : Nat → Nat
  | 0 => x
  | m + 1 => nx P (it P x m)
section
variable {n : Nat} {P : Nat → Int}
theorem nx_lt (h : Order n P) {x : Nat} (hx : x < n) : nx P x < n := by have := h.rng x hx; unfold nx; omega
theorem nx_cast (h : Order n P) {x : Nat} (hx : x < n) : P x = (nx P x : Nat) := by have := h.rng x hx; unfold nx; omega
theorem nx_inj (h : Order n P) {x y : Nat} (hx : x < n) (hy : y < n) (e : nx P x = nx P y) : x = y :=
  h.inj x y hx hy (by rw [nx_cast h hx, nx_cast h hy, e])
theorem it_lt (h : Order n P) {x : Nat} (hx : x < n) : ∀ m, it P x m < n
  | 0 => hx
  | m + 1 => nx_lt h (it_lt h hx m)
theorem it_back (h : Order n P) {x : Nat} (hx : x < n) : ∀ {t m}, t ≤ m → it P x t = it P x m → it P x (m - t) = x
  | 0, m, _, e => by rw [Nat.sub_zero]; exact e.symm
  | t + 1, 0, ht, _ => by omega
  | t + 1, m + 1, ht, e => by
    have := it_back h hx (t := t) (m := m) (by omega) (nx_inj h (it_lt h hx t) (it_lt h hx m) e)
    rw [Nat.succ_sub_succ]; exact this

/-- What is gone when m steps have been gone from x. -/
def gst (P : Nat → Int) (x : Nat) (G : Nat → Bool) : Nat → Nat → Bool
  | 0 => G
  | m + 1 => fun y => gst P x G m y || (it P x m == y)
theorem gst_iff {x : Nat} {G : Nat → Bool} {y : Nat} : ∀ {m}, gst P x G m y = true ↔ G y = true ∨ ∃ j, j < m ∧ it P x j = y
  | 0 => by simp [gst]
  | m + 1 => by
    simp only [gst, Bool.or_eq_true, gst_iff, beq_iff_eq]
    constructor
    · rintro ((h | ⟨j, h1, h2⟩) | h)
      · exact Or.inl h
      · exact Or.inr ⟨j, by omega, h2⟩
      · exact Or.inr ⟨m, by omega, h⟩
    · rintro (h | ⟨j, h1, h2⟩)
      · exact Or.inl (Or.inl h)
      · rcases (by omega : j < m ∨ j = m) with h | rfl
        · exact Or.inl (Or.inr ⟨j, h, h2⟩)
        · exact Or.inr h2
/-- m steps from x, no one back at x. -/
def Going (P : Nat → Int) (x m : Nat) : Prop := ∀ j, j < m → 0 < j → it P x j ≠ x
def Closed (P : Nat → Int) (n : Nat) (G : Nat → Bool) : Prop := ∀ y, y < n → G (nx P y) = G y
theorem closed_it (h : Order n P) {G : Nat → Bool} (hc : Closed P n G) {x : Nat} (hx : x < n) : ∀ m, G (it P x m) = G x
  | 0 => rfl
  | m + 1 => (hc _ (it_lt h hx m)).trans (closed_it h hc hx m)
theorem going_next {G : Nat → Bool} {x m : Nat} (hg : Going P x m) (hn : gst P x G m (it P x m) = false) : Going P x (m + 1) := by
  intro j hj h0 e
  rcases (by omega : j < m ∨ j = m) with h1 | rfl
  · exact hg j h1 h0 e
  · rw [gst_iff.2 (Or.inr ⟨0, h0, e.symm⟩)] at hn
    cases hn
theorem going_end (h : Order n P) {G : Nat → Bool} (hc : Closed P n G) {x m : Nat} (hx : x < n) (hgx : G x = false) (hg : Going P x m) (he : gst P x G m (it P x m) = true) : 0 < m ∧ it P x m = x := by
  rcases gst_iff.1 he with h1 | ⟨j, h1, h2⟩
  · rw [closed_it h hc hx m, hgx] at h1; cases h1
  · have h3 := it_back h hx (Nat.le_of_lt h1) h2
    refine ⟨by omega, ?_⟩
    rcases Nat.eq_zero_or_pos j with h4 | h4
    · subst h4; exact h2.symm
    · exact absurd h3 (hg (m - j) (by omega) (by omega))
theorem going_inj (h : Order n P) {x m : Nat} (hx : x < n) (hg : Going P x m) {i j : Nat} (hi : i < m) (hj : j < m) (e : it P x i = it P x j) : i = j := by
  rcases (by omega : i < j ∨ i = j ∨ j < i) with h1 | h1 | h1
  · exact absurd (it_back h hx (Nat.le_of_lt h1) e) (hg (j - i) (by omega) (by omega))
  · exact h1
  · exact absurd (it_back h hx (Nat.le_of_lt h1) e.symm) (hg (i - j) (by omega) (by omega))
theorem nodup_len : ∀ (l l' : List Nat), l.Nodup → (∀ x, x ∈ l → x ∈ l') → l.length ≤ l'.length
  | [], l', _, _ => by simp
  | a :: t, l', hn, hs => by
    have ha : a ∈ l' := hs a (by simp)
    have hnt := List.nodup_cons.1 hn
    have h1 := nodup_len t (l'.erase a) hnt.2 (fun x hx => (List.mem_erase_of_ne (fun e => by subst e; exact hnt.1 hx)).2 (hs x (by simp [hx])))
    rw [List.length_erase_of_mem ha] at h1
    have := List.length_pos_of_mem ha
    simp; omega
/-- The circle of m steps from x. -/
def ring (P : Nat → Int) (x m : Nat) : List Nat := (List.range m).map (it P x)
theorem ring_len (x m : Nat) : (ring P x m).length = m := by simp [ring]
theorem ring_mem {x m y : Nat} : y ∈ ring P x m ↔ ∃ j, j < m ∧ it P x j = y := by simp [ring]
theorem ring_succ (x m : Nat) : ring P x (m + 1) = ring P x m ++ [it P x m] := by simp [ring, List.range_succ]
theorem ring_nodup (h : Order n P) {x m : Nat} (hx : x < n) (hg : Going P x m) : (ring P x m).Nodup := by
  unfold List.Nodup ring
  rw [List.pairwise_map, List.pairwise_iff_getElem]
  intro i j hi hj hij
  simp only [List.length_range] at hi hj
  rw [List.getElem_range, List.getElem_range]
  intro e
  have := going_inj h hx hg hi hj e
  omega
theorem going_le (h : Order n P) {x m : Nat} (hx : x < n) (hg : Going P x m) : m ≤ n := by
  have := nodup_len (ring P x m) (List.range n) (ring_nodup h hx hg) (fun y hy => by obtain ⟨j, _, rfl⟩ := ring_mem.1 hy; exact List.mem_range.2 (it_lt h hx j))
  simpa [ring_len] using this

/-- The circles of all below k. -/
structure Rings (n : Nat) (P : Nat → Int) (k : Nat) (C : List (List Nat)) (G : Nat → Bool) : Prop where
  mem : ∀ y, G y = true ↔ ∃ c, c ∈ C ∧ y ∈ c
  lt : ∀ y, G y = true → y < n
  clo : Closed P n G
  upto : ∀ y, y < k → G y = true
  rg : ∀ c, c ∈ C → ∃ x m, 0 < m ∧ x < n ∧ c = ring P x m ∧ it P x m = x ∧ ∀ y, y ∈ c → x ≤ y
  heads : C.Pairwise (fun c d => c.headD 0 < d.headD 0)
  headk : ∀ c, c ∈ C → c.headD 0 < k
  nod : C.flatten.Nodup
theorem Rings.nil (n : Nat) (P : Nat → Int) : Rings n P 0 [] (fun _ => false) :=
  ⟨by simp, by simp, fun _ _ => rfl, fun y hy => by omega, by simp, by simp, by simp, by simp⟩
theorem Rings.skip {k : Nat} {C : List (List Nat)} {G : Nat → Bool} (h : Rings n P k C G) (hk : G k = true) : Rings n P (k + 1) C G :=
  { h with
    upto := fun y hy => by
      rcases (by omega : y < k ∨ y = k) with h1 | rfl
      · exact h.upto y h1
      · exact hk
    headk := fun c hc => by have := h.headk c hc; omega }
theorem ring_head {x m : Nat} (hm : 0 < m) : (ring P x m).headD 0 = x := by
  obtain ⟨m, rfl⟩ : ∃ q, m = q + 1 := ⟨m - 1, by omega⟩
  simp [ring, List.range_succ_eq_map, it]
theorem Rings.more (hO : Order n P) {k m : Nat} {C : List (List Nat)} {G : Nat → Bool} (h : Rings n P k C G) (hk : k < n) (hgk : G k = false) (hg : Going P k m) (he : gst P k G m (it P k m) = true) :
    Rings n P (k + 1) (C ++ [ring P k m]) (gst P k G m) := by
  obtain ⟨hm, hit⟩ := going_end hO h.clo hk hgk hg he
  have hnew : ∀ j, G (it P k j) = false := fun j => (closed_it hO h.clo hk j).trans hgk
  refine ⟨fun y => ?_, fun y hy => ?_, fun y hy => ?_, fun y hy => ?_, fun c hc => ?_, ?_, fun c hc => ?_, ?_⟩
  · rw [gst_iff, h.mem]
    constructor
    · rintro (⟨c, h1, h2⟩ | h1)
      · exact ⟨c, by simp [h1], h2⟩
      · exact ⟨_, by simp, ring_mem.2 h1⟩
    · rintro ⟨c, h1, h2⟩
      rcases List.mem_append.1 h1 with h3 | h3
      · exact Or.inl ⟨c, h3, h2⟩
      · obtain rfl := List.mem_singleton.1 h3
        exact Or.inr (ring_mem.1 h2)
  · rcases gst_iff.1 hy with h1 | ⟨j, _, rfl⟩
    · exact h.lt y h1
    · exact it_lt hO hk j
  · rw [Bool.eq_iff_iff, gst_iff, gst_iff, h.clo y hy]
    refine or_congr Iff.rfl ⟨?_, ?_⟩
    · rintro ⟨j, h1, h2⟩
      rcases Nat.eq_zero_or_pos j with h3 | h3
      · subst h3
        obtain ⟨q, rfl⟩ : ∃ q, m = q + 1 := ⟨m - 1, by omega⟩
        exact ⟨q, by omega, nx_inj hO (it_lt hO hk q) hy (hit.trans h2)⟩
      · obtain ⟨q, rfl⟩ : ∃ q, j = q + 1 := ⟨j - 1, by omega⟩
        exact ⟨q, by omega, nx_inj hO (it_lt hO hk q) hy h2⟩
    · rintro ⟨j, h1, rfl⟩
      rcases (by omega : j + 1 < m ∨ j + 1 = m) with h3 | h3
      · exact ⟨j + 1, h3, rfl⟩
      · exact ⟨0, hm, by rw [← h3] at hit; exact hit.symm⟩
  · rw [gst_iff]
    rcases (by omega : y < k ∨ y = k) with h1 | rfl
    · exact Or.inl (h.upto y h1)
    · exact Or.inr ⟨0, hm, rfl⟩
  · rcases List.mem_append.1 hc with h3 | h3
    · exact h.rg c h3
    · obtain rfl := List.mem_singleton.1 h3
      refine ⟨k, m, hm, hk, rfl, hit, fun y hy => ?_⟩
      obtain ⟨j, _, rfl⟩ := ring_mem.1 hy
      rcases Nat.lt_or_ge (it P k j) k with h4 | h4
      · have := h.upto _ h4
        rw [hnew j] at this; cases this
      · exact h4
  · refine List.pairwise_append.2 ⟨h.heads, by simp, fun c hc d hd => ?_⟩
    obtain rfl := List.mem_singleton.1 hd
    rw [ring_head hm]
    exact h.headk c hc
  · rcases List.mem_append.1 hc with h3 | h3
    · have := h.headk c h3; omega
    · obtain rfl := List.mem_singleton.1 h3
      rw [ring_head hm]; omega
  · rw [List.flatten_append]
    refine List.nodup_append.2 ⟨h.nod, by simpa using ring_nodup hO hk hg, fun a ha b hb e => ?_⟩
    subst e
    simp only [List.flatten_cons, List.flatten_nil, List.append_nil] at hb
    obtain ⟨j, _, rfl⟩ := ring_mem.1 hb
    obtain ⟨c, h1, h2⟩ := List.mem_flatten.1 ha
    have := (h.mem _).2 ⟨c, h1, h2⟩
    rw [hnew j] at this; cases this
theorem Rings.total {C : List (List Nat)} {G : Nat → Bool} (h : Rings n P n C G) : C.flatten.length = n := by
  have h1 := nodup_len C.flatten (List.range n) h.nod (fun x hx => by obtain ⟨c, h1, h2⟩ := List.mem_flatten.1 hx; exact List.mem_range.2 (h.lt x ((h.mem x).2 ⟨c, h1, h2⟩)))
  have h2 := nodup_len (List.range n) C.flatten List.nodup_range (fun x hx => by
    obtain ⟨c, h1, h2⟩ := (h.mem x).1 (h.upto x (List.mem_range.1 hx))
    exact List.mem_flatten.2 ⟨c, h1, h2⟩)
  rw [List.length_range] at h1 h2
  omega
theorem Rings.few {k : Nat} {C : List (List Nat)} {G : Nat → Bool} (h : Rings n P k C G) : C.length ≤ k := by
  have h1 := nodup_len (C.map (fun c => c.headD 0)) (List.range k) (by
    unfold List.Nodup
    rw [List.pairwise_map]
    exact h.heads.imp (fun {a b} hab => by omega)) (fun x hx => by
    obtain ⟨c, h1, rfl⟩ := List.mem_map.1 hx
    exact List.mem_range.2 (h.headk c h1))
  simpa using h1
end
end Go.Proofs.YtlkmbhbjhiobiaaDoor
