/- net: all that was sent flies or came; pure. -/
import Derived.Test.YtbecgfeoacncdaaDoorNetB19
namespace Go.Proofs.YtbecgfeoacncdaaDoor

/-- All that was sent flies or came; what flies or came was sent. -/
structure Full (n : NetP) (T : Int → Int → Int → ByteArray) : Prop where
  fly : ∀ l ∈ n.fly, l.x = T l.f l.t l.s ∧ ∃ s : Nat, l.s = s ∧ s < n.sent l.f l.t
  came : ∀ a c s l, n.came a c s = some l → l = ⟨a, c, s, T a c s⟩ ∧ ∃ k : Nat, s = k ∧ k < n.sent a c
  all : ∀ (a c : Int) (s : Nat), s < n.sent a c → (⟨a, c, s, T a c s⟩ : Let) ∈ n.fly ∨ n.came a c s = some ⟨a, c, s, T a c s⟩
theorem Full.fresh (k : Nat) : Full (freshP k) (fun _ _ _ => ⟨#[]⟩) :=
  ⟨fun l hl => by simp [freshP] at hl, fun a c s l hl => by simp [freshP] at hl, fun a c s hs => by simp [freshP] at hs⟩
theorem Full.send {n : NetP} {T : Int → Int → Int → ByteArray} (h : Full n T) (a c : Int) (x : ByteArray) :
    Full (sendP n a c x) (fun p q s => if p = a ∧ q = c ∧ s = n.sent a c then x else T p q s) := by
  have hs : ∀ p q, (sendP n a c x).sent p q = if p = a ∧ q = c then n.sent a c + 1 else n.sent p q := fun _ _ => rfl
  have hle : ∀ p q, n.sent p q ≤ (sendP n a c x).sent p q := fun p q => by
    rw [hs]
    split
    · rename_i e; rw [e.1, e.2]; omega
    · exact Nat.le_refl _
  have hold : ∀ (p q : Int) (s : Nat), s < n.sent p q → ¬ (p = a ∧ q = c ∧ (s : Int) = n.sent a c) := fun p q s h1 ⟨e1, e2, e3⟩ => by
    subst e1 e2; omega
  refine ⟨fun l hl => ?_, fun p q s l hl => ?_, fun p q s hq => ?_⟩
  · have hl' : l ∈ n.fly ++ [⟨a, c, n.sent a c, x⟩] := hl
    rcases List.mem_append.1 hl' with h1 | h1
    · obtain ⟨h2, s, h3, h4⟩ := h.fly l h1
      refine ⟨?_, s, h3, Nat.lt_of_lt_of_le h4 (hle _ _)⟩
      rw [if_neg (by rw [h3]; exact hold _ _ s h4)]
      exact h2
    · obtain rfl := List.mem_singleton.1 h1
      exact ⟨by rw [if_pos ⟨rfl, rfl, rfl⟩], n.sent a c, rfl, by rw [hs, if_pos ⟨rfl, rfl⟩]; omega⟩
  · obtain ⟨h2, k, h3, h4⟩ := h.came p q s l hl
    refine ⟨?_, k, h3, Nat.lt_of_lt_of_le h4 (hle _ _)⟩
    rw [if_neg (by rw [h3]; exact hold _ _ k h4)]
    exact h2
  · rw [hs] at hq
    by_cases e : p = a ∧ q = c ∧ (s : Int) = n.sent a c
    · rw [if_pos e]
      obtain ⟨rfl, rfl, e3⟩ := e
      rw [e3]
      exact Or.inl (List.mem_append.2 (Or.inr (List.mem_singleton.2 rfl)))
    · rw [if_neg e]
      have hlt : s < n.sent p q := by
        by_cases e2 : p = a ∧ q = c
        · rw [if_pos e2] at hq
          obtain ⟨rfl, rfl⟩ := e2
          have : ¬ s = n.sent p q := fun h5 => e ⟨rfl, rfl, by rw [h5]⟩
          omega
        · rwa [if_neg e2] at hq
      rcases h.all p q s hlt with h1 | h1
      · exact Or.inl (List.mem_append.2 (Or.inl h1))
      · exact Or.inr h1
theorem Full.dup {n : NetP} {T : Int → Int → Int → ByteArray} (h : Full n T) {l : Let} (hl : l ∈ n.fly) : Full (dupP n l) T := by
  refine ⟨fun q hq => ?_, h.came, fun a c s hs => ?_⟩
  · have hq' : q ∈ n.fly ++ [l] := hq
    rcases List.mem_append.1 hq' with h1 | h1
    · exact h.fly q h1
    · rw [List.mem_singleton.1 h1]; exact h.fly l hl
  · rcases h.all a c s hs with h1 | h1
    · exact Or.inl (List.mem_append.2 (Or.inl h1))
    · exact Or.inr h1
theorem Full.deliver {n : NetP} {T : Int → Int → Int → ByteArray} (h : Full n T) (i : Nat) (hi : i < n.fly.length) : Full (cameP (dropP n i) n.fly[i]) T := by
  obtain ⟨l, hl⟩ : ∃ l, n.fly[i] = l := ⟨_, rfl⟩
  have hlm : l ∈ n.fly := by rw [← hl]; exact List.getElem_mem _
  have hsplit : n.fly = n.fly.take i ++ l :: n.fly.drop (i + 1) := by rw [← hl, ← List.drop_eq_getElem_cons hi, List.take_append_drop]
  rw [hl]
  have hsub : ∀ q, q ∈ n.fly.take i ++ n.fly.drop (i + 1) → q ∈ n.fly := fun q hq => by
    rcases List.mem_append.1 hq with h1 | h1
    · exact List.mem_of_mem_take h1
    · exact List.mem_of_mem_drop h1
  have hback : ∀ q, q ∈ n.fly → q = l ∨ q ∈ n.fly.take i ++ n.fly.drop (i + 1) := fun q hq => by
    rw [hsplit] at hq
    rcases List.mem_append.1 hq with h1 | h1
    · exact Or.inr (List.mem_append.2 (Or.inl h1))
    · rcases List.mem_cons.1 h1 with h1 | h1
      · exact Or.inl h1
      · exact Or.inr (List.mem_append.2 (Or.inr h1))
  obtain ⟨hx, s0, hs0, hlt⟩ := h.fly l hlm
  unfold cameP
  by_cases hc : ((dropP n i).came l.f l.t l.s).isSome = true
  · rw [if_pos hc]
    have hc' : (n.came l.f l.t l.s).isSome = true := hc
    refine ⟨fun q hq => h.fly q (hsub q hq), h.came, fun a c s hs => ?_⟩
    rcases h.all a c s hs with h1 | h1
    · rcases hback _ h1 with e | h2
      · obtain ⟨l', hl'⟩ := Option.isSome_iff_exists.1 hc'
        have h3 := (h.came _ _ _ _ hl').1
        rw [← e] at hl' h3
        rw [h3] at hl'
        exact Or.inr hl'
      · exact Or.inl h2
    · exact Or.inr h1
  · rw [if_neg hc]
    refine ⟨fun q hq => h.fly q (hsub q hq), fun a c s q hq => ?_, fun a c s hs => ?_⟩
    · have hq' : (if a = l.f ∧ c = l.t ∧ s = l.s then some l else n.came a c s) = some q := hq
      by_cases e : a = l.f ∧ c = l.t ∧ s = l.s
      · rw [if_pos e] at hq'
        obtain rfl := Option.some.inj hq'
        obtain ⟨rfl, rfl, rfl⟩ := e
        refine ⟨?_, s0, hs0, hlt⟩
        rw [← hx]
      · rw [if_neg e] at hq'
        exact h.came a c s q hq'
    · rcases h.all a c s hs with h1 | h1
      · rcases hback _ h1 with e | h2
        · refine Or.inr ?_
          show (if a = l.f ∧ c = l.t ∧ (s : Int) = l.s then some l else n.came a c s) = _
          rw [if_pos (by rw [← e]; exact ⟨rfl, rfl, rfl⟩), ← e]
        · exact Or.inl h2
      · refine Or.inr ?_
        show (if a = l.f ∧ c = l.t ∧ (s : Int) = l.s then some l else n.came a c s) = _
        rw [if_neg (fun e => hc (by show (n.came l.f l.t l.s).isSome = true; rw [← e.1, ← e.2.1, ← e.2.2, h1]; rfl))]
        exact h1
/-- What an inbox holds once nothing flies. -/
def allL (sent : Int → Int → Nat) (T : Int → Int → Int → ByteArray) (c : Int) (k : Nat) : List Let :=
  (List.range k).flatMap fun (a : Nat) => (List.range (sent a c)).map fun (s : Nat) => ⟨a, c, s, T a c s⟩
theorem Full.inbox {n : NetP} {T : Int → Int → Int → ByteArray} (h : Full n T) (h0 : n.fly = []) (c : Int) (k : Nat) : inboxL n c k = allL n.sent T c k := by
  unfold inboxL allL
  refine congrArg (fun f => (List.range k).flatMap f) (funext fun a => ?_)
  unfold inRow
  have hall : ∀ s, s ∈ List.range (n.sent a c) → n.came a c (s : Nat) = some ⟨a, c, s, T a c s⟩ := fun s hs => by
    rcases h.all a c s (List.mem_range.1 hs) with h1 | h1
    · rw [h0] at h1; cases h1
    · exact h1
  generalize List.range (n.sent a c) = L at hall
  induction L with
  | nil => rfl
  | cons s t ih =>
    rw [List.filterMap_cons, hall s (List.mem_cons_self ..), List.map_cons, ih (fun q hq => hall q (List.mem_cons_of_mem _ hq))]
end Go.Proofs.YtbecgfeoacncdaaDoor
