/- pat: the text of a pattern is no other's; pure. -/
import Derived.Test.YtgolcogigpnbeaaGreatDoorTextP
namespace Go.Proofs.YtgolcogigpnbeaaGreatDoor

/-- Parts with a byte between them. -/
def joinB (b : UInt8) : List (List UInt8) → List UInt8
  | [] => []
  | [p] => p
  | p :: q :: t => p ++ b :: joinB b (q :: t)
theorem joinB_cons (b : UInt8) (p q : List UInt8) (t : List (List UInt8)) : joinB b (p :: q :: t) = p ++ b :: joinB b (q :: t) := rfl
theorem joinB_inj {b : UInt8} : ∀ {P Q : List (List UInt8)}, (∀ p ∈ P, b ∉ p ∧ p ≠ []) → (∀ p ∈ Q, b ∉ p ∧ p ≠ []) → joinB b P = joinB b Q → P = Q
  | [], [], _, _, _ => rfl
  | [], [q], _, hq, h => absurd h.symm (hq q (by simp)).2
  | [], q :: r :: t, _, _, h => by simp [joinB] at h
  | [p], [], hp, _, h => absurd h (hp p (by simp)).2
  | p :: r :: t, [], _, _, h => by simp [joinB] at h
  | [p], [q], _, _, h => by
    have h' : p = q := h
    rw [h']
  | [p], q :: r :: t, hp, _, h => by
    have h' : p = q ++ b :: joinB b (r :: t) := h
    exact absurd (by rw [h']; simp) (hp p (by simp)).1
  | p :: r :: t, [q], _, hq, h => by
    have h' : p ++ b :: joinB b (r :: t) = q := h
    exact absurd (by rw [← h']; simp) (hq q (by simp)).1
  | p :: r :: t, q :: s :: u, hp, hq, h => by
    rw [joinB_cons, joinB_cons] at h
    obtain ⟨h1, h2⟩ := split_inj (hp p (by simp)).1 (hq q (by simp)).1 h
    have ih := joinB_inj (P := r :: t) (Q := s :: u) (fun x hx => hp x (List.mem_cons_of_mem _ hx)) (fun x hx => hq x (List.mem_cons_of_mem _ hx)) h2
    rw [h1, ih]
theorem joinB_mem {b c : UInt8} : ∀ {P : List (List UInt8)}, c ∈ joinB b P → c = b ∨ ∃ p ∈ P, c ∈ p
  | [], h => by simp [joinB] at h
  | [p], h => Or.inr ⟨p, by simp, h⟩
  | p :: q :: t, h => by
    rw [joinB_cons] at h
    rcases List.mem_append.1 h with h | h
    · exact Or.inr ⟨p, by simp, h⟩
    · rcases List.mem_cons.1 h with h | h
      · exact Or.inl h
      · rcases joinB_mem h with h | ⟨x, hx, h⟩
        · exact Or.inl h
        · exact Or.inr ⟨x, List.mem_cons_of_mem _ hx, h⟩
def decI (n : Int) : List UInt8 := Lib.decDigits n.toNat
def edgeT (e : Int × Int) : List UInt8 := decI e.1 ++ 45 :: decI e.2
/-- The text of a pattern whose numbers are none below nought. -/
def patT (L : List Int) (E : List (Int × Int)) : List UInt8 := joinB 44 (L.map decI) ++ 124 :: joinB 44 (E.map edgeT)
theorem dec_not {n : Int} {b : UInt8} (hb : b.toNat < 48 ∨ 57 < b.toNat) : b ∉ decI n := fun h => by
  have := dec_digit n.toNat b h
  omega
theorem decI_inj {a c : Int} (ha : 0 ≤ a ∧ a < 1000000) (hc : 0 ≤ c ∧ c < 1000000) (h : decI a = decI c) : a = c := by
  have := dec_inj (m := a.toNat) (k := c.toNat) (by omega) (by omega) h
  omega
theorem edgeT_inj {e d : Int × Int} (h1 : 0 ≤ e.1 ∧ e.1 < 1000000) (h2 : 0 ≤ e.2 ∧ e.2 < 1000000) (h3 : 0 ≤ d.1 ∧ d.1 < 1000000) (h4 : 0 ≤ d.2 ∧ d.2 < 1000000) (h : edgeT e = edgeT d) : e = d := by
  obtain ⟨q1, q2⟩ := split_inj (dec_not (by decide)) (dec_not (by decide)) h
  exact Prod.ext (decI_inj h1 h3 q1) (decI_inj h2 h4 q2)
theorem map_inj_on {α β : Type _} {f : α → β} : ∀ {A B : List α}, (∀ a ∈ A, ∀ b ∈ B, f a = f b → a = b) → A.map f = B.map f → A = B
  | [], [], _, _ => rfl
  | [], _ :: _, _, h => by simp at h
  | _ :: _, [], _, h => by simp at h
  | a :: s, b :: t, hf, h => by
    rw [List.map_cons, List.map_cons] at h
    injection h with h1 h2
    rw [hf a (by simp) b (by simp) h1, map_inj_on (fun x hx y hy => hf x (List.mem_cons_of_mem _ hx) y (List.mem_cons_of_mem _ hy)) h2]
/-- All numbers are small and none is below nought. -/
def SmallP (L : List Int) (E : List (Int × Int)) : Prop := (∀ x ∈ L, 0 ≤ x ∧ x < 1000000) ∧ ∀ e ∈ E, (0 ≤ e.1 ∧ e.1 < 1000000) ∧ 0 ≤ e.2 ∧ e.2 < 1000000
theorem patT_inj {L M : List Int} {E F : List (Int × Int)} (h1 : SmallP L E) (h2 : SmallP M F) (h : patT L E = patT M F) : L = M ∧ E = F := by
  have bar : ∀ K : List Int, (124 : UInt8) ∉ joinB 44 (K.map decI) := fun K hK => by
    rcases joinB_mem hK with h | ⟨p, hp, h⟩
    · exact absurd h (by decide)
    · obtain ⟨x, _, rfl⟩ := List.mem_map.1 hp
      exact dec_not (by decide) h
  obtain ⟨q1, q2⟩ := split_inj (bar L) (bar M) h
  have hl : ∀ (K : List Int), ∀ p ∈ K.map decI, (44 : UInt8) ∉ p ∧ p ≠ [] := fun K p hp => by
    obtain ⟨x, _, rfl⟩ := List.mem_map.1 hp
    exact ⟨dec_not (by decide), dec_ne _⟩
  have he : ∀ (K : List (Int × Int)), ∀ p ∈ K.map edgeT, (44 : UInt8) ∉ p ∧ p ≠ [] := fun K p hp => by
    obtain ⟨x, _, rfl⟩ := List.mem_map.1 hp
    refine ⟨fun hc => ?_, fun hc => ?_⟩
    · rcases List.mem_append.1 hc with hc | hc
      · exact dec_not (by decide) hc
      · rcases List.mem_cons.1 hc with hc | hc
        · exact absurd hc (by decide)
        · exact dec_not (by decide) hc
    · unfold edgeT at hc
      simp at hc
  have e1 := joinB_inj (hl L) (hl M) q1
  have e2 := joinB_inj (he E) (he F) q2
  exact ⟨map_inj_on (fun a ha b hb h => decI_inj (h1.1 a ha) (h2.1 b hb) h) e1, map_inj_on (fun a ha b hb h => edgeT_inj (h1.2 a ha).1 (h1.2 a ha).2 (h2.2 b hb).1 (h2.2 b hb).2 h) e2⟩
end Go.Proofs.YtgolcogigpnbeaaGreatDoor
