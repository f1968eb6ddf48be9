/- A barrier that is waited for: what is plain. -/
import Derived.Test.YtlopoddllfkkfaaDoorBspG
namespace Go.Proofs.YtlopoddllfkkfaaDoor
open Go.RowKit

/-- All workers' numbers. -/
def allN (k : Nat) : List Int := (List.range k).map Int.ofNat
def allTo (k : Nat) : List (List Int) := List.replicate k (allN k)
theorem allN_len (k : Nat) : (allN k).length = k := by simp [allN]
theorem allN_snoc (v : Nat) : allN (v + 1) = allN v ++ [(v : Int)] := by simp [allN, List.range_succ]
theorem allTo_at {k a : Nat} (h : a < k) : (allTo k).getD a [] = allN k := by simp [allTo, List.getD, h]
theorem allTo_out {k a : Nat} (h : ¬ a < k) : (allTo k).getD a [] = [] := by simp [allTo, List.getD, h]
theorem allTo_tl {k : Nat} (hk : k ≤ 8) (a : Nat) : ((allTo k).getD a []).length ≤ 8 := by
  by_cases h : a < k
  · rw [allTo_at h, allN_len]; exact hk
  · rw [allTo_out h]; exact Nat.zero_le _
theorem allTo_tr {k : Nat} (a : Nat) : ∀ t ∈ (allTo k).getD a [], 0 ≤ t ∧ t < (k : Int) := by
  intro t ht
  by_cases h : a < k
  · rw [allTo_at h] at ht
    obtain ⟨i, hi, rfl⟩ := List.mem_map.1 ht
    have := List.mem_range.1 hi
    exact ⟨Int.natCast_nonneg i, by show (i : Int) < k; omega⟩
  · rw [allTo_out h] at ht; cases ht
theorem sendsP_many (a : Int) (x : ByteArray) : ∀ (M : List Int) (n : NetP), (sendsP n a x M).fly.length = n.fly.length + M.length ∧ (sendsP n a x M).miss = n.miss + M.length
  | [], n => ⟨rfl, by show n.miss = n.miss + ((0 : Nat) : Int); omega⟩
  | t :: r, n => by
    have h := sendsP_many a x r (sendP n a t x)
    refine ⟨?_, ?_⟩
    · show (sendsP (sendP n a t x) a x r).fly.length = _
      rw [h.1]
      show (n.fly ++ [_]).length + _ = _
      rw [List.length_append, List.length_cons, List.length_cons, List.length_nil]
      omega
    · show (sendsP (sendP n a t x) a x r).miss = _
      rw [h.2]
      show n.miss + 1 + _ = _
      rw [List.length_cons]
      omega
/-- All have worked but so many first ones. -/
structure BarP (k r : Nat) (p : MP) : Prop where
  kk : p.k = k
  rd : p.rd = 0
  no : ∀ a, a < r → p.wk.getD a false = false
  yes : ∀ a, r ≤ a → a < k → p.wk.getD a false = true
  fly : p.nt.fly.length = k * (k - r)
  miss : p.nt.miss = ((k * (k - r) : Nat) : Int)
theorem BarP.start (k : Nat) (st : List ByteArray) (bx : List (List ByteArray)) : BarP k k (startP k 0 st bx) where
  kk := rfl
  rd := rfl
  no := fun a _ => rep_getD
  yes := fun a h1 h2 => by omega
  fly := by rw [Nat.sub_self, Nat.mul_zero]; rfl
  miss := by rw [Nat.sub_self, Nat.mul_zero]; rfl
theorem BarP.work {k b : Nat} {p : MP} (h : BarP k (b + 1) p) (hb : b < k) (hl : p.wk.length = k) :
    passC p = 5 ∧ passQ (allTo k) p = p ∧ workC p b = 0 ∧ (if 0 ≤ (b : Int) ∧ (b : Int) < p.k then p.wk.getD ((b : Int)).toNat false else false) = false ∧ BarP k b (workQ (allTo k) p b) := by
  have h0 := h.no b (Nat.lt_succ_self b)
  have e1 : passC p = 5 := by
    unfold passC
    rw [if_neg]
    intro ha
    have := all_at ha (a := b) (by rw [hl]; exact hb)
    rw [h0] at this
    cases this
  have e2 : workC p b = 0 := by
    unfold workC
    rw [if_pos (show 0 ≤ (b : Int) ∧ (b : Int) < p.k by rw [h.kk]; omega), show ((b : Int)).toNat = b from rfl, if_neg (by rw [h0]; decide)]
  have e3 : workQ (allTo k) p b = workP p b (allN k) := by
    unfold workQ
    rw [if_pos e2, show ((b : Int)).toNat = b from rfl, allTo_at hb]
  refine ⟨e1, ?_, e2, ?_, ?_⟩
  · unfold passQ; rw [e1]; rfl
  · rw [if_pos (show 0 ≤ (b : Int) ∧ (b : Int) < p.k by rw [h.kk]; omega)]; exact h0
  · rw [e3]
    have hs := sendsP_many (b : Int) (p.st.getD b ⟨#[]⟩) (allN k) p.nt
    rw [allN_len] at hs
    have hm : k * (k - b) = k * (k - (b + 1)) + k := by
      have : k - b = (k - (b + 1)) + 1 := by omega
      rw [this, Nat.mul_succ]
    exact {
      kk := h.kk
      rd := h.rd
      no := fun a ha => by
        show (p.wk.set b true).getD a false = false
        rw [getD_set_ne (by omega)]
        exact h.no a (by omega)
      yes := fun a h1 h2 => by
        show (p.wk.set b true).getD a false = true
        by_cases e : a = b
        · rw [e]; exact getD_set_self (by rw [hl]; exact hb)
        · rw [getD_set_ne e]; exact h.yes a (by omega) h2
      fly := by
        show (sendsP p.nt b (p.st.getD b ⟨#[]⟩) (allN k)).fly.length = _
        rw [hs.1, h.fly, hm]
      miss := by
        show (sendsP p.nt b (p.st.getD b ⟨#[]⟩) (allN k)).miss = _
        rw [hs.2, h.miss, hm]
        omega }
/-- All have worked, and so many letters are missing. -/
structure WaitP (k L : Nat) (p : MP) : Prop where
  kk : p.k = k
  rd : p.rd = 0
  all : p.wk.all id = true
  fly : p.nt.fly.length = L
  miss : p.nt.miss = (L : Int)
theorem BarP.wait {k : Nat} {p : MP} (h : BarP k 0 p) (hl : p.wk.length = k) : WaitP k (k * k) p where
  kk := h.kk
  rd := h.rd
  all := by
    rw [List.all_eq_true]
    intro x hx
    obtain ⟨a, ha, rfl⟩ := List.getElem_of_mem hx
    have := h.yes a (Nat.zero_le _) (by rw [← hl]; exact ha)
    simpa [List.getD, ha] using this
  fly := h.fly
  miss := h.miss
theorem pigeon {α : Type} : ∀ (A B : List α), A.Nodup → (∀ x ∈ A, x ∈ B) → B.length ≤ A.length → ∀ y ∈ B, y ∈ A
  | [], B, _, _, hl, y, hy => by
    rw [List.eq_nil_of_length_eq_zero (Nat.le_zero.1 hl)] at hy
    cases hy
  | a :: t, B, hn, hs, hl, y, hy => by
    obtain ⟨p, q, rfl⟩ := List.append_of_mem (hs a (List.mem_cons_self ..))
    have hn' := List.nodup_cons.1 hn
    have ih := pigeon t (p ++ q) hn'.2 (fun x hx => by
      have hxa : x ≠ a := fun e => hn'.1 (e ▸ hx)
      rcases List.mem_append.1 (hs x (List.mem_cons_of_mem _ hx)) with h1 | h1
      · exact List.mem_append.2 (Or.inl h1)
      · rcases List.mem_cons.1 h1 with h2 | h2
        · exact absurd h2 hxa
        · exact List.mem_append.2 (Or.inr h2)) (by
      simp only [List.length_append, List.length_cons] at hl ⊢
      omega)
    rcases List.mem_append.1 hy with h1 | h1
    · exact List.mem_cons_of_mem _ (ih y (List.mem_append.2 (Or.inl h1)))
    · rcases List.mem_cons.1 h1 with h2 | h2
      · rw [h2]; exact List.mem_cons_self ..
      · exact List.mem_cons_of_mem _ (ih y (List.mem_append.2 (Or.inr h2)))
theorem WaitP.come {k L i : Nat} {p : MP} (h : WaitP k L p) (hi : i < L) (hv : ∃ T Li, Inv p.nt T Li) : (stepP p.nt 2 i 0 ⟨#[]⟩).2 = 0 ∧ WaitP k (L - 1) (netP p 2 i) := by
  obtain ⟨T, Li, hv⟩ := hv
  have hf : i < p.nt.fly.length := by rw [h.fly]; exact hi
  have hlen : p.nt.fly.length ≤ Li.length := by
    have := hv.len
    rw [h.miss] at this
    rw [h.fly]
    omega
  have hmem := pigeon Li p.nt.fly hv.nd (fun x hx => (hv.miss x hx).1) hlen p.nt.fly[i] (List.getElem_mem hf)
  have hnone := (hv.miss _ hmem).2
  have e : stepP p.nt 2 i 0 ⟨#[]⟩ = (cameP (dropP p.nt i) p.nt.fly[i], 0) := by
    unfold stepP
    rw [if_neg (by decide), dif_pos ⟨by omega, by omega⟩, if_neg (by decide)]
    rfl
  have ec : (cameP (dropP p.nt i) p.nt.fly[i]).fly = p.nt.fly.take i ++ p.nt.fly.drop (i + 1) ∧ (cameP (dropP p.nt i) p.nt.fly[i]).miss = p.nt.miss - 1 := by
    unfold cameP
    rw [if_neg]
    · exact ⟨rfl, rfl⟩
    · show ¬ (p.nt.came _ _ _).isSome = true
      rw [hnone]
      decide
  refine ⟨by rw [e], ?_⟩
  unfold netP
  rw [e]
  exact {
    kk := h.kk
    rd := h.rd
    all := h.all
    fly := by
      show (cameP (dropP p.nt i) p.nt.fly[i]).fly.length = _
      rw [ec.1, List.length_append, List.length_take, List.length_drop, h.fly]
      omega
    miss := by
      show (cameP (dropP p.nt i) p.nt.fly[i]).miss = _
      rw [ec.2, h.miss]
      omega }
theorem WaitP.pass {k L : Nat} {p : MP} {TL : List (List Int)} (h : WaitP k L p) : (0 < L → passC p = 13 ∧ passA p = (L : Int) ∧ passQ TL p = p) ∧ (L = 0 → passC p = 0 ∧ passA p = 0 ∧ passQ TL p = roundP TL p) := by
  have ha : passA p = (L : Int) := by unfold passA; rw [if_pos h.all, h.miss]
  refine ⟨fun hL => ?_, fun hL => ?_⟩
  · have e : passC p = 13 := by unfold passC; rw [if_pos h.all, if_neg (by rw [h.miss]; omega)]
    exact ⟨e, ha, by unfold passQ; rw [e]; rfl⟩
  · have e : passC p = 0 := by unfold passC; rw [if_pos h.all, if_pos (by rw [h.miss, hL]; rfl)]
    exact ⟨e, by rw [ha, hL]; rfl, if_pos e⟩
end Go.Proofs.YtlopoddllfkkfaaDoor
