/- lines: pure facts of LinesOf. -/
import Derived.Test.YtjilbnfaclenlaaLinesD
namespace Go.Proofs.Ytjilbnfaclenlaa
open Go.RowKit

/-- The pairs of an edge with those behind it that it touches, up to a number. -/
def refRow (S : List (Int × Int)) (a k : Nat) : List (Int × Int) := ((List.range k).filter fun (b : Nat) => decide (a < b) && touchB S (a : Int) (b : Int)).map fun (b : Nat) => ((a : Int), (b : Int))
/-- The document's pairs, of the first edges. -/
def refTo (S : List (Int × Int)) (a : Nat) : List (Int × Int) := (List.range a).flatMap fun x => refRow S x S.length
theorem refRow_start (S : List (Int × Int)) (a : Nat) : refRow S a (a + 1) = [] := by
  unfold refRow
  rw [List.map_eq_nil_iff, List.filter_eq_nil_iff]
  intro b hb
  have := List.mem_range.1 hb
  have : ¬ a < b := by omega
  simp [this]
theorem refRow_succ (S : List (Int × Int)) {a k : Nat} (h : a < k) : refRow S a (k + 1) = refRow S a k ++ (if touchB S (a : Int) (k : Int) = true then [((a : Int), (k : Int))] else []) := by
  unfold refRow
  rw [List.range_succ, List.filter_append, List.map_append]
  congr 1
  by_cases ht : touchB S (a : Int) (k : Int) = true <;> simp [ht, h]
theorem refTo_succ (S : List (Int × Int)) (a : Nat) : refTo S (a + 1) = refTo S a ++ refRow S a S.length := by
  unfold refTo
  rw [List.range_succ, List.flatMap_append]
  simp
theorem refRow_le (S : List (Int × Int)) (a k : Nat) : (refRow S a k).length ≤ k := by
  unfold refRow
  rw [List.length_map]
  exact Nat.le_trans (List.length_filter_le _ _) (by simp)
theorem refTo_le (S : List (Int × Int)) : ∀ a, (refTo S a).length ≤ a * S.length
  | 0 => by simp [refTo]
  | a + 1 => by
    rw [refTo_succ, List.length_append, Nat.add_mul, Nat.one_mul]
    exact Nat.add_le_add (refTo_le S a) (refRow_le S a _)
theorem refRow_mem {S : List (Int × Int)} {a k : Nat} {p : Int × Int} : p ∈ refRow S a k ↔ ∃ b : Nat, p = ((a : Int), (b : Int)) ∧ a < b ∧ b < k ∧ touchB S (a : Int) (b : Int) = true := by
  unfold refRow
  rw [List.mem_map]
  constructor
  · rintro ⟨b, hb, rfl⟩
    obtain ⟨h1, h2⟩ := List.mem_filter.1 hb
    rw [Bool.and_eq_true, decide_eq_true_eq] at h2
    exact ⟨b, rfl, h2.1, List.mem_range.1 h1, h2.2⟩
  · rintro ⟨b, rfl, h1, h2, h3⟩
    exact ⟨b, List.mem_filter.2 ⟨List.mem_range.2 h2, by simp [h1, h3]⟩, rfl⟩
theorem refTo_mem {S : List (Int × Int)} {a : Nat} {p : Int × Int} : p ∈ refTo S a ↔ ∃ x b : Nat, p = ((x : Int), (b : Int)) ∧ x < a ∧ x < b ∧ b < S.length ∧ touchB S (x : Int) (b : Int) = true := by
  unfold refTo
  rw [List.mem_flatMap]
  constructor
  · rintro ⟨x, hx, hp⟩
    obtain ⟨b, h1, h2, h3, h4⟩ := refRow_mem.1 hp
    exact ⟨x, b, h1, List.mem_range.1 hx, h2, h3, h4⟩
  · rintro ⟨x, b, h1, h2, h3, h4, h5⟩
    exact ⟨x, List.mem_range.2 h2, refRow_mem.2 ⟨b, h1, h3, h4, h5⟩⟩
theorem refRow_rising (S : List (Int × Int)) (a k : Nat) : (refRow S a k).Pairwise ltE := by
  unfold refRow
  rw [List.pairwise_map]
  exact (List.pairwise_lt_range.filter _).imp (fun h => Or.inr ⟨rfl, by simp only; omega⟩)
theorem refTo_rising (S : List (Int × Int)) : ∀ a, (refTo S a).Pairwise ltE
  | 0 => List.Pairwise.nil
  | a + 1 => by
    rw [refTo_succ, List.pairwise_append]
    refine ⟨refTo_rising S a, refRow_rising S a _, fun p hp q hq => ?_⟩
    obtain ⟨x, b, rfl, h1, _⟩ := refTo_mem.1 hp
    obtain ⟨c, rfl, _⟩ := refRow_mem.1 hq
    exact Or.inl (by simp only; omega)
theorem prs_all : ∀ {l : List Int} {a b : Int}, l.Pairwise (· < ·) → a ∈ l → b ∈ l → a < b → (a, b) ∈ prs l
  | [], _, _, _, h, _, _ => by simp at h
  | c :: t, a, b, hl, ha, hb, hab => by
    have hl' := List.pairwise_cons.1 hl
    unfold prs
    rw [List.mem_append]
    rcases List.mem_cons.1 ha with rfl | ha'
    · rcases List.mem_cons.1 hb with rfl | hb'
      · omega
      · exact Or.inl (List.mem_map.2 ⟨b, hb', rfl⟩)
    · rcases List.mem_cons.1 hb with rfl | hb'
      · have := hl'.1 a ha'
        omega
      · exact Or.inr (prs_all hl'.2 ha' hb' hab)
theorem touch_iff {S : List (Int × Int)} {a b : Nat} (hab : a < b) (hb : b < S.length) {x y z u : Int} (h1 : S.getD a (0, 0) = (x, y)) (h2 : S.getD b (0, 0) = (z, u)) :
    touchB S (a : Int) (b : Int) = true ↔ x = z ∨ x = u ∨ y = z ∨ y = u := by
  unfold touchB
  rw [edgeOr_at (by omega), edgeOr_at hb, h1, h2]
  have e1 : hasV S.length (a : Nat) = true := by simp [hasV]; omega
  have e2 : hasV S.length (b : Nat) = true := by simp [hasV, hb]
  have e3 : ((a : Int) != b) = true := by simp; omega
  rw [e1, e2, e3]
  simp
theorem pairs_touch {S : List (Int × Int)} {n : Nat} (hR : ∀ e, e ∈ S → 0 ≤ e.1 ∧ e.2 < (n : Int)) (hL : ∀ e, e ∈ S → e.1 < e.2) (p : Int × Int) : p ∈ pairsE n S ↔ p ∈ refTo S S.length := by
  rw [refTo_mem]
  constructor
  · intro hp
    obtain ⟨v, hv, hp⟩ := pairsE_mem hp
    have hlt := prs_lt (at_rising S v) hp
    obtain ⟨h1, h2⟩ := prs_mem hp
    obtain ⟨a, ha, ha1, ha2⟩ := at_mem h1
    obtain ⟨b, hb, hb1, hb2⟩ := at_mem h2
    have hab : a < b := by omega
    refine ⟨a, b, Prod.ext ha hb, ha1, hab, hb1, (touch_iff (x := S[a].1) (y := S[a].2) (z := S[b].1) (u := S[b].2) hab hb1 (getD_at ha1) (getD_at hb1)).2 ?_⟩
    omega
  · rintro ⟨a, b, rfl, ha, hab, hb, ht⟩
    have ht := (touch_iff (x := S[a].1) (y := S[a].2) (z := S[b].1) (u := S[b].2) hab hb (getD_at ha) (getD_at hb)).1 ht
    have ra := hR _ (List.getElem_mem ha)
    have la := hL _ (List.getElem_mem ha)
    have key : ∀ v : Int, 0 ≤ v → v < n → (v = S[a].1 ∨ v = S[a].2) → (v = S[b].1 ∨ v = S[b].2) → ((a : Int), (b : Int)) ∈ pairsE n S := by
      intro v h0 h1 h2 h3
      obtain ⟨k, rfl⟩ : ∃ k : Nat, v = k := ⟨v.toNat, by omega⟩
      unfold pairsE
      rw [List.mem_flatMap]
      refine ⟨k, List.mem_range.2 (by omega), prs_all (at_rising S k) ((mem_atL ha (getD_at ha)).2 h2) ((mem_atL hb (getD_at hb)).2 h3) (by omega)⟩
    rcases ht with h | h | h | h
    · exact key S[a].1 (by omega) (by omega) (Or.inl rfl) (Or.inl h)
    · exact key S[a].1 (by omega) (by omega) (Or.inl rfl) (Or.inr h)
    · exact key S[a].2 (by omega) (by omega) (Or.inr rfl) (Or.inl h)
    · exact key S[a].2 (by omega) (by omega) (Or.inr rfl) (Or.inr h)
theorem ris_pairs {n : Nat} {S : List (Int × Int)} : (pairsE n S).map ris = pairsE n S := by
  have : ∀ l : List (Int × Int), (∀ p, p ∈ l → p.1 < p.2) → l.map ris = l := fun l => by
    induction l with
    | nil => intro _; rfl
    | cons a t ih =>
      intro h
      rw [List.map_cons, ih (fun p hp => h p (by simp [hp]))]
      have := h a (by simp)
      rw [show ris a = a by unfold ris; exact Prod.ext (by simp only; omega) (by simp only; omega)]
  refine this _ (fun p hp => ?_)
  obtain ⟨v, _, hp⟩ := pairsE_mem hp
  exact prs_lt (at_rising S v) hp
theorem line_edges {S : List (Int × Int)} {n : Nat} (hF : Fine S) (hR : ∀ e, e ∈ S → 0 ≤ e.1 ∧ e.2 < (n : Int)) : sortE (pairsE n S) = refTo S S.length := by
  have hn := (pairsE_good (n := n) hF).1
  rw [ris_pairs] at hn
  have h1 : (sortE (pairsE n S)).Perm (pairsE n S) := by
    have := sortE_perm _ (pairsE n S) rfl
    rwa [ris_pairs] at this
  refine risingE_eq (sortE_rising _ _ rfl (by rw [ris_pairs]; exact hn)) (refTo_rising S _) (h1.trans ?_)
  refine (List.perm_ext_iff_of_nodup hn (RisingE.nodup (refTo_rising S _))).2 (fun p => pairs_touch hR hF.less p)
end Go.Proofs.Ytjilbnfaclenlaa
