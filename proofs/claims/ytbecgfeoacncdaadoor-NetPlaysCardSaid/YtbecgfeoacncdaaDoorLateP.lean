/- net: a double that comes late (pure). -/
import Derived.Test.YtbecgfeoacncdaaDoorNetInv
import Derived.Test.YtbecgfeoacncdaaDoorEqLet
namespace Go.Proofs.YtbecgfeoacncdaaDoor

/-- How often a letter came, of those of one way. -/
theorem inRow_count {n : NetP} {T : Int → Int → Int → ByteArray} {L : List Let} (h : Inv n T L) {x : Let} (hx : n.came x.f x.t x.s = some x) {s0 : Nat} (hs : x.s = s0) (a : Int) : ∀ j : Nat,
    (inRow n x.t a j).countP (fun l => eqLB l x) = if a = x.f ∧ s0 < j then 1 else 0
  | 0 => by simp [inRow]
  | j + 1 => by
    rw [inRow_succ, List.countP_append, inRow_count h hx hs a j]
    cases hc : n.came a x.t j with
    | none =>
      have hne : ¬ (a = x.f ∧ s0 = j) := fun ⟨e1, e2⟩ => by
        rw [e1, show (j : Int) = x.s by omega, hx] at hc
        cases hc
      simp only [Option.toList_none, List.countP_nil, Nat.add_zero]
      by_cases h1 : a = x.f ∧ s0 < j
      · rw [if_pos h1, if_pos ⟨h1.1, by omega⟩]
      · rw [if_neg h1, if_neg (fun e => h1 ⟨e.1, by have : ¬ s0 = j := fun e2 => hne ⟨e.1, e2⟩; omega⟩)]
    | some l =>
      have hl := (h.came _ _ _ _ hc).1
      have hz : eqLB l x = decide (a = x.f ∧ s0 = j) := by
        by_cases e : a = x.f ∧ s0 = j
        · have : l = x := by
            rw [e.1, show (j : Int) = x.s by omega, hx] at hc
            injection hc with hc
            exact hc.symm
          rw [decide_eq_true e, (eqLB_iff l x).2 this]
        · have hne : ¬ l = x := fun e2 => e (by
            rw [e2] at hl
            have h1 : x.f = a := by rw [hl]
            have h2 : x.s = j := by rw [hl]
            exact ⟨h1.symm, by omega⟩)
          rw [decide_eq_false e]
          cases hb : eqLB l x with
          | false => rfl
          | true => exact absurd ((eqLB_iff l x).1 hb) hne
      simp only [Option.toList_some, List.countP_cons, List.countP_nil, hz, Nat.zero_add]
      by_cases e : a = x.f ∧ s0 = j
      · rw [if_neg (fun h1 => by omega), if_pos (decide_eq_true e), if_pos ⟨e.1, by omega⟩]
      · rw [if_neg (show ¬ decide (a = x.f ∧ s0 = j) = true by simpa using e)]
        by_cases h1 : a = x.f ∧ s0 < j
        · rw [if_pos h1, if_pos ⟨h1.1, by omega⟩]
        · rw [if_neg h1, if_neg (fun e3 => h1 ⟨e3.1, by have : ¬ s0 = j := fun e2 => e ⟨e3.1, e2⟩; omega⟩)]
/-- Each letter that came is in its inbox once. -/
theorem inbox_count {n : NetP} {T : Int → Int → Int → ByteArray} {L : List Let} (h : Inv n T L) {x : Let} (hx : n.came x.f x.t x.s = some x) : (inboxL n x.t n.k).countP (fun l => eqLB l x) = 1 := by
  obtain ⟨_, h1, h2, s0, hs, hlt⟩ := h.came _ _ _ _ hx
  have key : ∀ i : Nat, (inboxL n x.t i).countP (fun l => eqLB l x) = if x.f < (i : Int) then 1 else 0 := by
    intro i
    have h0 : 0 ≤ x.f := by
      unfold hasB at h1
      rw [Bool.and_eq_true, decide_eq_true_eq] at h1
      exact h1.1
    induction i with
    | zero =>
      rw [if_neg (by omega)]
      rfl
    | succ i ih =>
      rw [inboxL_succ, List.countP_append, ih, inRow_count h hx hs]
      by_cases e : (i : Int) = x.f
      · rw [if_neg (by omega), if_pos ⟨e, by rw [e]; exact hlt⟩, if_pos (by omega)]
      · rw [if_neg (show ¬ ((i : Int) = x.f ∧ s0 < n.sent i x.t) from fun e2 => e e2.1)]
        by_cases e3 : x.f < (i : Int)
        · rw [if_pos e3, if_pos (by omega)]
        · rw [if_neg e3, if_neg (by omega)]
  rw [key, if_pos]
  unfold hasB at h1
  rw [Bool.and_eq_true, decide_eq_true_eq, decide_eq_true_eq] at h1
  exact h1.2
/-- An inbox hangs on what was sent and what came. -/
theorem inbox_of (n n' : NetP) (c : Int) (h1 : n'.sent = n.sent) (h2 : n'.came = n.came) (i : Nat) : inboxL n' c i = inboxL n c i := by
  unfold inboxL inRow
  rw [h1, h2]
theorem stepP_k (n : NetP) (kind a c : Int) (x : ByteArray) : (stepP n kind a c x).1.k = n.k := by
  unfold stepP
  split
  · split <;> rfl
  · split
    · split
      · rfl
      · unfold cameP
        split <;> rfl
    · rfl
/-- What a call makes of what is missing. -/
theorem step_miss (n : NetP) (kind a c : Int) (x : ByteArray) :
    ((stepP n kind a c x).2 ≠ 0 → (stepP n kind a c x).1.miss = n.miss) ∧ ((stepP n kind a c x).2 = 0 →
      (kind = 0 → (stepP n kind a c x).1.miss = n.miss + 1) ∧ (kind = 1 → (stepP n kind a c x).1.miss = n.miss) ∧ (kind ≠ 0 → kind ≠ 1 → (stepP n kind a c x).1.miss = n.miss ∨ (stepP n kind a c x).1.miss = n.miss - 1)) := by
  unfold stepP
  split
  · rename_i k0
    split
    · exact ⟨fun h => absurd rfl h, fun _ => ⟨fun _ => rfl, fun h => by omega, fun h => absurd k0 h⟩⟩
    · exact ⟨fun _ => rfl, fun h => by cases h⟩
  · rename_i k0
    split
    · split
      · rename_i k1
        exact ⟨fun h => absurd rfl h, fun _ => ⟨fun h => absurd h k0, fun _ => rfl, fun _ h => absurd k1 h⟩⟩
      · rename_i k1
        refine ⟨fun h => absurd rfl h, fun _ => ⟨fun h => absurd h k0, fun h => absurd h k1, fun _ _ => ?_⟩⟩
        unfold cameP
        split
        · exact Or.inl rfl
        · exact Or.inr rfl
    · exact ⟨fun _ => rfl, fun h => by cases h⟩
/-- A letter doubled, delivered, and its double delivered. -/
theorem late_pure {n : NetP} {T : Int → Int → Int → ByteArray} {L : List Let} (h : Inv n T L) (i : Nat) (hi : i < n.fly.length) {x : Let} (hx : n.fly[i] = x) :
    ∃ (n2 n3 n4 : NetP) (T3 : Int → Int → Int → ByteArray) (L3 : List Let), stepP n 1 i 0 ⟨#[]⟩ = (n2, 0) ∧ stepP n2 2 i 0 ⟨#[]⟩ = (n3, 0) ∧ n3.fly.length = n.fly.length ∧ stepP n3 2 ((n.fly.length : Int) - 1) 0 ⟨#[]⟩ = (n4, 0) ∧
      Inv n3 T3 L3 ∧ n3.came x.f x.t x.s = some x ∧ n4.sent = n3.sent ∧ n4.came = n3.came ∧ n4.miss = n3.miss ∧ n3.k = n.k ∧ n4.k = n.k ∧ hasB n.k x.t = true := by
  have hxm : x ∈ n.fly := by rw [← hx]; exact List.getElem_mem _
  have h2 := h.dup hxm
  have e2 : stepP n 1 i 0 ⟨#[]⟩ = (dupP n x, 0) := by
    unfold stepP
    rw [if_neg (by decide), dif_pos ⟨by omega, by omega⟩, if_pos rfl]
    simp only [Int.toNat_natCast, hx]
  have hi2 : i < (dupP n x).fly.length := by
    show i < (n.fly ++ [x]).length
    rw [List.length_append]
    omega
  have hx2 : (dupP n x).fly[i] = x := by
    have e := List.getElem_append_left (bs := [x]) hi (h' := by rw [List.length_append]; omega)
    exact e.trans hx
  obtain ⟨L3, h3, _⟩ := h2.deliver i hi2
  rw [hx2] at h3
  have e3 : stepP (dupP n x) 2 i 0 ⟨#[]⟩ = (cameP (dropP (dupP n x) i) x, 0) := by
    unfold stepP
    rw [if_neg (by decide), dif_pos ⟨by omega, by omega⟩, if_neg (by decide)]
    simp only [Int.toNat_natCast, hx2]
  have hfl : (cameP (dropP (dupP n x) i) x).fly = (n.fly ++ [x]).take i ++ (n.fly ++ [x]).drop (i + 1) := by
    unfold cameP
    split <;> rfl
  have hlen : (cameP (dropP (dupP n x) i) x).fly.length = n.fly.length := by
    rw [hfl, List.length_append, List.length_take, List.length_drop, List.length_append]
    simp
    omega
  have hcame : (cameP (dropP (dupP n x) i) x).came x.f x.t x.s = some x := by
    unfold cameP
    split
    · rename_i hs
      obtain ⟨y, hy⟩ := Option.isSome_iff_exists.1 hs
      have hy' : n.came x.f x.t x.s = some y := hy
      have h5 := (h.came _ _ _ _ hy').1
      have h6 := (h.fly x hxm).2
      show n.came x.f x.t x.s = some x
      rw [hy', h5, ← h6]
    · exact if_pos ⟨rfl, rfl, rfl⟩
  have hlast : (cameP (dropP (dupP n x) i) x).fly[n.fly.length - 1]'(by rw [hlen]; omega) = x := by
    have e : (cameP (dropP (dupP n x) i) x).fly = (n.fly.take i ++ n.fly.drop (i + 1)) ++ [x] := by
      rw [hfl, List.take_append_of_le_length (by omega), List.drop_append_of_le_length (by omega), List.append_assoc]
    have hl2 : (n.fly.take i ++ n.fly.drop (i + 1)).length = n.fly.length - 1 := by
      rw [List.length_append, List.length_take, List.length_drop]
      omega
    simp only [e]
    rw [List.getElem_append_right (by omega)]
    simp [hl2]
  obtain ⟨n3, hn3⟩ : ∃ m, cameP (dropP (dupP n x) i) x = m := ⟨_, rfl⟩
  have hk3 : n3.k = n.k := by
    rw [← hn3]
    unfold cameP
    split <;> rfl
  rw [hn3] at h3 e3 hlen hcame
  simp only [hn3] at hlast
  have e4 : stepP n3 2 ((n.fly.length : Int) - 1) 0 ⟨#[]⟩ = (dropP n3 (n.fly.length - 1), 0) := by
    unfold stepP
    rw [if_neg (by decide), dif_pos ⟨by omega, by omega⟩, if_neg (by decide)]
    have e5 : ((n.fly.length : Int) - 1).toNat = n.fly.length - 1 := by omega
    simp only [e5, hlast]
    rw [show cameP (dropP n3 (n.fly.length - 1)) x = dropP n3 (n.fly.length - 1) from if_pos (by show (n3.came x.f x.t x.s).isSome = true; rw [hcame]; rfl)]
  exact ⟨_, n3, _, T, L3, e2, e3, hlen, e4, h3, hcame, rfl, rfl, rfl, hk3, hk3, (h.fly x hxm).1.2.1⟩
end Go.Proofs.YtbecgfeoacncdaaDoor
