/- net: what holds of a net, whatever is called (pure). -/
import Derived.Test.YtbecgfeoacncdaaDoorStep19
namespace Go.Proofs.YtbecgfeoacncdaaDoor

/-- A letter of those sent. -/
def Of (n : NetP) (l : Let) : Prop := hasB n.k l.f = true ∧ hasB n.k l.t = true ∧ ∃ s : Nat, l.s = s ∧ s < n.sent l.f l.t
/-- What holds of a net: T is the text of each letter, by its name; L the letters that never came. -/
structure Inv (n : NetP) (T : Int → Int → Int → ByteArray) (L : List Let) : Prop where
  fly : ∀ l ∈ n.fly, Of n l ∧ l.x = T l.f l.t l.s
  came : ∀ a c s l, n.came a c s = some l → l = ⟨a, c, s, T a c s⟩ ∧ Of n l
  nd : L.Nodup
  len : n.miss = L.length
  miss : ∀ l ∈ L, l ∈ n.fly ∧ n.came l.f l.t l.s = none
  all : ∀ l ∈ n.fly, l ∈ L ∨ n.came l.f l.t l.s = some l
theorem Inv.fresh (k : Nat) : Inv (freshP k) (fun _ _ _ => ⟨#[]⟩) [] :=
  ⟨fun l hl => by simp [freshP] at hl, fun a c s l hl => by simp [freshP] at hl, List.nodup_nil, rfl, fun l hl => by simp at hl, fun l hl => by simp [freshP] at hl⟩
theorem Inv.send {n : NetP} {T : Int → Int → Int → ByteArray} {L : List Let} (h : Inv n T L) {a c : Int} (x : ByteArray) (ha : hasB n.k a = true) (hc : hasB n.k c = true) :
    ∃ T', Inv (sendP n a c x) T' (⟨a, c, n.sent a c, x⟩ :: L) := by
  obtain ⟨nl, hnl⟩ : ∃ nl : Let, nl = ⟨a, c, n.sent a c, x⟩ := ⟨_, rfl⟩
  have hmono : ∀ l, Of n l → Of (sendP n a c x) l := fun l ⟨h1, h2, s, h3, h4⟩ => ⟨h1, h2, s, h3, by
    show s < (if l.f = a ∧ l.t = c then n.sent a c + 1 else n.sent l.f l.t)
    split
    · rename_i e; rw [e.1, e.2] at h4; omega
    · exact h4⟩
  have hne : ∀ l, Of n l → ¬ (l.f = a ∧ l.t = c ∧ l.s = n.sent a c) := fun l ⟨_, _, s, h3, h4⟩ ⟨e1, e2, e3⟩ => by
    rw [e1, e2] at h4
    omega
  have hof : Of (sendP n a c x) ⟨a, c, n.sent a c, x⟩ := ⟨ha, hc, n.sent a c, rfl, by
    show n.sent a c < (if a = a ∧ c = c then n.sent a c + 1 else n.sent a c)
    rw [if_pos ⟨rfl, rfl⟩]; omega⟩
  have hnone : n.came a c (n.sent a c) = none := by
    cases hca : n.came a c (n.sent a c) with
    | none => rfl
    | some l =>
      obtain ⟨e, ho⟩ := h.came _ _ _ _ hca
      subst e
      exact absurd ⟨rfl, rfl, rfl⟩ (hne _ ho)
  refine ⟨fun p q s => if p = a ∧ q = c ∧ s = n.sent a c then x else T p q s, ?_, ?_, ?_, ?_, ?_, ?_⟩
  · intro l hl
    have hl' : l ∈ n.fly ++ [⟨a, c, n.sent a c, x⟩] := hl
    rcases List.mem_append.1 hl' with h1 | h1
    · obtain ⟨h2, h3⟩ := h.fly l h1
      refine ⟨hmono l h2, ?_⟩
      rw [if_neg (hne l h2)]
      exact h3
    · rw [List.mem_singleton] at h1
      subst h1
      refine ⟨hof, ?_⟩
      dsimp only
      rw [if_pos ⟨rfl, rfl, rfl⟩]
  · intro p q s l hl
    obtain ⟨e, ho⟩ := h.came p q s l hl
    refine ⟨?_, hmono l ho⟩
    have hn := hne l ho
    rw [e] at hn
    rw [if_neg hn]
    exact e
  · refine List.nodup_cons.2 ⟨fun hl => ?_, h.nd⟩
    have := (h.fly _ (h.miss _ hl).1).1
    exact absurd ⟨rfl, rfl, rfl⟩ (hne _ this)
  · show n.miss + 1 = _
    rw [h.len, List.length_cons]
    rfl
  · intro l hl
    rcases List.mem_cons.1 hl with rfl | hl
    · exact ⟨List.mem_append.2 (Or.inr (List.mem_singleton.2 rfl)), hnone⟩
    · exact ⟨List.mem_append.2 (Or.inl (h.miss l hl).1), (h.miss l hl).2⟩
  · intro l hl
    have hl' : l ∈ n.fly ++ [⟨a, c, n.sent a c, x⟩] := hl
    rcases List.mem_append.1 hl' with h1 | h1
    · rcases h.all l h1 with h2 | h2
      · exact Or.inl (List.mem_cons_of_mem _ h2)
      · exact Or.inr h2
    · rw [List.mem_singleton] at h1
      subst h1
      exact Or.inl (List.mem_cons_self ..)
theorem Inv.dup {n : NetP} {T : Int → Int → Int → ByteArray} {L : List Let} (h : Inv n T L) {l : Let} (hl : l ∈ n.fly) : Inv (dupP n l) T L := by
  have hm : ∀ q, q ∈ (dupP n l).fly → q ∈ n.fly := fun q hq => by
    have hq' : q ∈ n.fly ++ [l] := hq
    rcases List.mem_append.1 hq' with h1 | h1
    · exact h1
    · rw [List.mem_singleton] at h1
      subst h1
      exact hl
  exact ⟨fun q hq => h.fly q (hm q hq), h.came, h.nd, h.len, fun q hq => ⟨List.mem_append.2 (Or.inl (h.miss q hq).1), (h.miss q hq).2⟩, fun q hq => h.all q (hm q hq)⟩
/-- Letters of one name are one letter. -/
theorem Inv.one {n : NetP} {T : Int → Int → Int → ByteArray} {L : List Let} (h : Inv n T L) {l q : Let} (hl : l ∈ n.fly) (hq : q ∈ n.fly) (e1 : l.f = q.f) (e2 : l.t = q.t) (e3 : l.s = q.s) : l = q := by
  have h1 := (h.fly l hl).2
  have h2 := (h.fly q hq).2
  rw [e1, e2, e3, ← h2] at h1
  exact Let.ext' e1 e2 e3 h1
open Classical in
theorem Inv.deliver {n : NetP} {T : Int → Int → Int → ByteArray} {L : List Let} (h : Inv n T L) (i : Nat) (hi : i < n.fly.length) : ∃ L', Inv (cameP (dropP n i) n.fly[i]) T L' ∧ ∀ q ∈ L', q ∈ L := by
  obtain ⟨l, hl⟩ : ∃ l, n.fly[i] = l := ⟨_, rfl⟩
  have hlm : l ∈ n.fly := by rw [← hl]; exact List.getElem_mem _
  rw [hl]
  have hm : ∀ q, q ∈ (dropP n i).fly → q ∈ n.fly := fun q hq => by
    have hq' : q ∈ n.fly.take i ++ n.fly.drop (i + 1) := hq
    rcases List.mem_append.1 hq' with h1 | h1
    · exact List.mem_of_mem_take h1
    · exact List.mem_of_mem_drop h1
  have hk : ∀ q, q ∈ n.fly → q ≠ l → q ∈ (dropP n i).fly := fun q hq hne => by
    show q ∈ n.fly.take i ++ n.fly.drop (i + 1)
    have e : n.fly = n.fly.take i ++ (l :: n.fly.drop (i + 1)) := by
      rw [← hl, List.getElem_cons_drop, List.take_append_drop]
    rw [e] at hq
    rcases List.mem_append.1 hq with h1 | h1
    · exact List.mem_append.2 (Or.inl h1)
    · rcases List.mem_cons.1 h1 with h2 | h2
      · exact absurd h2 hne
      · exact List.mem_append.2 (Or.inr h2)
  by_cases hc : (n.came l.f l.t l.s).isSome = true
  · have e : cameP (dropP n i) l = dropP n i := if_pos hc
    rw [e]
    refine ⟨L, ⟨fun q hq => h.fly q (hm q hq), h.came, h.nd, h.len, fun q hq => ⟨hk q (h.miss q hq).1 fun e => ?_, (h.miss q hq).2⟩, fun q hq => h.all q (hm q hq)⟩, fun q hq => hq⟩
    subst e
    rw [(h.miss q hq).2] at hc
    cases hc
  · have hno : n.came l.f l.t l.s = none := by simpa using hc
    have e : cameP (dropP n i) l = { dropP n i with came := fun p q r => if p = l.f ∧ q = l.t ∧ r = l.s then some l else n.came p q r, miss := n.miss - 1 } := if_neg hc
    rw [e]
    have hlL : l ∈ L := by
      rcases h.all l hlm with h1 | h1
      · exact h1
      · rw [hno] at h1; cases h1
    have hlen : (L.erase l).length = L.length - 1 := by rw [List.length_erase_of_mem hlL]
    have hpos : 0 < L.length := List.length_pos_of_mem hlL
    refine ⟨L.erase l, ⟨fun q hq => h.fly q (hm q hq), fun p q r y hy => ?_, h.nd.erase l, ?_, fun q hq => ?_, fun q hq => ?_⟩, fun q hq => List.mem_of_mem_erase hq⟩
    · have hy' : (if p = l.f ∧ q = l.t ∧ r = l.s then some l else n.came p q r) = some y := hy
      split at hy'
      · rename_i he
        obtain ⟨rfl, rfl, rfl⟩ := he
        injection hy' with hy'
        subst hy'
        obtain ⟨h1, h2⟩ := h.fly l hlm
        refine ⟨?_, h1⟩
        rw [← h2]
      · exact h.came p q r y hy'
    · show n.miss - 1 = _
      rw [h.len, hlen]
      omega
    · have hne : q ≠ l := fun e => by subst e; exact absurd hq (List.Nodup.not_mem_erase h.nd)
      have hq2 := h.miss q (List.mem_of_mem_erase hq)
      refine ⟨hk q hq2.1 hne, ?_⟩
      show (if q.f = l.f ∧ q.t = l.t ∧ q.s = l.s then some l else n.came q.f q.t q.s) = none
      rw [if_neg (fun e => hne (h.one hq2.1 hlm e.1 e.2.1 e.2.2))]
      exact hq2.2
    · show q ∈ L.erase l ∨ (if q.f = l.f ∧ q.t = l.t ∧ q.s = l.s then some l else n.came q.f q.t q.s) = some q
      by_cases hql : q = l
      · subst hql
        exact Or.inr (if_pos ⟨rfl, rfl, rfl⟩)
      · rcases h.all q (hm q hq) with h1 | h1
        · exact Or.inl ((List.mem_erase_of_ne hql).2 h1)
        · refine Or.inr ?_
          rw [if_neg (fun e => hql (h.one (hm q hq) hlm e.1 e.2.1 e.2.2))]
          exact h1
theorem Inv.step {n : NetP} {T : Int → Int → Int → ByteArray} {L : List Let} (h : Inv n T L) (kind a c : Int) (x : ByteArray) : ∃ T' L', Inv (stepP n kind a c x).1 T' L' ∧ L'.length ≤ L.length + 1 := by
  unfold stepP
  split
  · split
    · rename_i hh
      rw [Bool.and_eq_true] at hh
      obtain ⟨T', h1⟩ := h.send x hh.1 hh.2
      exact ⟨T', _, h1, by simp⟩
    · exact ⟨T, L, h, Nat.le_succ _⟩
  · split
    · rename_i hh
      split
      · exact ⟨T, L, h.dup (List.getElem_mem _), Nat.le_succ _⟩
      · obtain ⟨L', h1, h2⟩ := h.deliver a.toNat (by omega)
        refine ⟨T, L', h1, ?_⟩
        have h3 := h1.nd
        exact Nat.le_succ_of_le (List.Nodup.length_le_of_subset h3 h2)
    · exact ⟨T, L, h, Nat.le_succ _⟩
end Go.Proofs.YtbecgfeoacncdaaDoor
