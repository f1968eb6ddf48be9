/- net: the document's net beside the program's; pure. -/
import Derived.Test.YtbecgfeoacncdaaDoorFullI
import Derived.Test.YtbecgfeoacncdaaDoorEqLet
namespace Go.Proofs.YtbecgfeoacncdaaDoor

/-- The document's net. -/
structure NetR where
  k : Nat
  S : List Let
  F : List Let
  C : List Let
def isWay (a c : Int) (l : Let) : Bool := l.f == a && l.t == c
def cntS (S : List Let) (a c : Int) : Nat := S.countP (isWay a c)
def inC (C : List Let) (l : Let) : Bool := C.any (fun q => eqLB q l)
theorem inC_iff (C : List Let) (l : Let) : inC C l = true ↔ l ∈ C := by
  unfold inC
  rw [List.any_eq_true]
  constructor
  · rintro ⟨q, hq, e⟩
    rw [← (eqLB_iff q l).1 e]
    exact hq
  · intro h
    exact ⟨l, h, (eqLB_iff l l).2 rfl⟩
def sendR (m : NetR) (a c : Int) (x : ByteArray) : NetR := { m with S := m.S ++ [⟨a, c, cntS m.S a c, x⟩], F := m.F ++ [⟨a, c, cntS m.S a c, x⟩] }
def dupR (m : NetR) (l : Let) : NetR := { m with F := m.F ++ [l] }
def comeR (m : NetR) (i : Nat) (l : Let) : NetR := { m with F := m.F.take i ++ m.F.drop (i + 1), C := if inC m.C l = true then m.C else m.C ++ [l] }
/-- The document's Do. -/
def stepR (m : NetR) (kind a c : Int) (x : ByteArray) : NetR × Int :=
  if kind = 0 then (if (hasB m.k a && hasB m.k c) = true then (sendR m a c x, 0) else (m, 3))
  else if h : 0 ≤ a ∧ a < m.F.length then
    (if kind = 1 then (dupR m (m.F[a.toNat]'(by omega)), 0) else (comeR m a.toNat (m.F[a.toNat]'(by omega)), 0))
  else (m, 3)
/-- Both nets are of the same calls. -/
structure Tie (n : NetP) (m : NetR) (T : Int → Int → Int → ByteArray) : Prop where
  k : m.k = n.k
  fly : m.F = n.fly
  full : Full n T
  row : ∀ a c, m.S.filter (isWay a c) = (List.range (n.sent a c)).map fun (s : Nat) => (⟨a, c, s, T a c s⟩ : Let)
  lim : ∀ l ∈ m.S, hasB m.k l.f = true ∧ hasB m.k l.t = true
  came : ∀ l, l ∈ m.C ↔ n.came l.f l.t l.s = some l
  miss : n.miss = (m.S.length : Int) - m.C.length
theorem Tie.fresh (k : Nat) : Tie (freshP k) ⟨k, [], [], []⟩ (fun _ _ _ => ⟨#[]⟩) :=
  ⟨rfl, rfl, Full.fresh k, fun a c => by simp [freshP], fun l hl => by simp at hl, fun l => by simp [freshP], by simp [freshP]⟩
theorem Tie.cnt {n : NetP} {m : NetR} {T : Int → Int → Int → ByteArray} (h : Tie n m T) (a c : Int) : cntS m.S a c = n.sent a c := by
  unfold cntS
  rw [List.countP_eq_length_filter, h.row a c, List.length_map, List.length_range]
theorem Tie.send {n : NetP} {m : NetR} {T : Int → Int → Int → ByteArray} (h : Tie n m T) (a c : Int) (x : ByteArray) (ha : hasB m.k a = true) (hc : hasB m.k c = true) :
    Tie (sendP n a c x) (sendR m a c x) (fun p q s => if p = a ∧ q = c ∧ s = n.sent a c then x else T p q s) := by
  have hcnt := h.cnt a c
  refine ⟨h.k, ?_, h.full.send a c x, fun p q => ?_, fun l hl => ?_, h.came, ?_⟩
  · show m.F ++ [_] = n.fly ++ [_]
    rw [h.fly, hcnt]
  · show (m.S ++ [_]).filter _ = _
    rw [List.filter_append, h.row p q]
    have hs : (sendP n a c x).sent p q = if p = a ∧ q = c then n.sent a c + 1 else n.sent p q := rfl
    rw [hs]
    by_cases e : p = a ∧ q = c
    · obtain ⟨rfl, rfl⟩ := e
      rw [if_pos ⟨rfl, rfl⟩, List.range_succ, List.map_append]
      have hw : isWay p q ⟨p, q, cntS m.S p q, x⟩ = true := by simp [isWay]
      rw [List.filter_cons_of_pos hw, List.filter_nil, hcnt]
      congr 1
      · refine List.map_congr_left (fun s hs => ?_)
        have := List.mem_range.1 hs
        rw [if_neg (by rintro ⟨_, _, e⟩; omega)]
      · simp
    · rw [if_neg e]
      have hw : ¬ isWay p q ⟨a, c, cntS m.S a c, x⟩ = true := by
        simp only [isWay, Bool.and_eq_true, beq_iff_eq]
        rintro ⟨rfl, rfl⟩
        exact e ⟨rfl, rfl⟩
      rw [List.filter_cons_of_neg hw, List.filter_nil, List.append_nil]
      refine List.map_congr_left (fun s _ => ?_)
      rw [if_neg (by rintro ⟨e1, e2, _⟩; exact e ⟨e1, e2⟩)]
  · have hl' : l ∈ m.S ++ [⟨a, c, cntS m.S a c, x⟩] := hl
    rcases List.mem_append.1 hl' with h1 | h1
    · exact h.lim l h1
    · obtain rfl := List.mem_singleton.1 h1
      exact ⟨ha, hc⟩
  · show n.miss + 1 = ((m.S ++ [_]).length : Int) - m.C.length
    rw [List.length_append, h.miss]
    simp
    omega
theorem Tie.dup {n : NetP} {m : NetR} {T : Int → Int → Int → ByteArray} (h : Tie n m T) {l : Let} (hl : l ∈ n.fly) : Tie (dupP n l) (dupR m l) T :=
  ⟨h.k, by show m.F ++ [l] = n.fly ++ [l]; rw [h.fly], h.full.dup hl, h.row, h.lim, h.came, h.miss⟩
theorem Tie.deliver {n : NetP} {m : NetR} {T : Int → Int → Int → ByteArray} (h : Tie n m T) (i : Nat) (hi : i < n.fly.length) : Tie (cameP (dropP n i) n.fly[i]) (comeR m i n.fly[i]) T := by
  have hf := h.full.deliver i hi
  obtain ⟨l, hl⟩ : ∃ l, n.fly[i] = l := ⟨_, rfl⟩
  rw [hl] at hf ⊢
  have hlm : l ∈ n.fly := by rw [← hl]; exact List.getElem_mem _
  obtain ⟨hx, s0, hs0, hlt⟩ := h.full.fly l hlm
  have hlT : l = ⟨l.f, l.t, l.s, T l.f l.t l.s⟩ := Let.ext' rfl rfl rfl hx
  have hfly : (comeR m i l).F = (dropP n i).fly := by
    show m.F.take i ++ m.F.drop (i + 1) = n.fly.take i ++ n.fly.drop (i + 1)
    rw [h.fly]
  have hsome : (n.came l.f l.t l.s).isSome = true ↔ l ∈ m.C := by
    rw [h.came]
    constructor
    · intro h1
      obtain ⟨l', hl'⟩ := Option.isSome_iff_exists.1 h1
      have h3 := (h.full.came _ _ _ _ hl').1
      rw [hl', h3, ← hlT]
    · intro h1
      rw [h1]
      rfl
  by_cases hc : (n.came l.f l.t l.s).isSome = true
  · have e1 : cameP (dropP n i) l = dropP n i := by
      unfold cameP
      exact if_pos (show ((dropP n i).came l.f l.t l.s).isSome = true from hc)
    have e2 : (comeR m i l).C = m.C := by
      show (if inC m.C l = true then m.C else m.C ++ [l]) = m.C
      rw [if_pos ((inC_iff _ _).2 (hsome.1 hc))]
    rw [e1] at hf ⊢
    refine ⟨h.k, hfly, hf, h.row, h.lim, fun q => ?_, ?_⟩
    · rw [e2]
      exact h.came q
    · rw [e2]
      exact h.miss
  · have hnm : ¬ l ∈ m.C := fun h1 => hc (hsome.2 h1)
    have e2 : (comeR m i l).C = m.C ++ [l] := by
      show (if inC m.C l = true then m.C else m.C ++ [l]) = m.C ++ [l]
      rw [if_neg (fun h1 => hnm ((inC_iff _ _).1 h1))]
    have e1 : cameP (dropP n i) l = { dropP n i with came := fun a c s => if a = l.f ∧ c = l.t ∧ s = l.s then some l else n.came a c s, miss := n.miss - 1 } := by
      unfold cameP
      rw [if_neg (show ¬ ((dropP n i).came l.f l.t l.s).isSome = true from hc)]
      rfl
    rw [e1] at hf ⊢
    refine ⟨h.k, hfly, hf, h.row, h.lim, fun q => ?_, ?_⟩
    · rw [e2]
      show q ∈ m.C ++ [l] ↔ (if q.f = l.f ∧ q.t = l.t ∧ q.s = l.s then some l else n.came q.f q.t q.s) = some q
      by_cases e : q.f = l.f ∧ q.t = l.t ∧ q.s = l.s
      · rw [if_pos e]
        constructor
        · intro h1
          rcases List.mem_append.1 h1 with h2 | h2
          · have h3 := (h.came q).1 h2
            rw [e.1, e.2.1, e.2.2] at h3
            rw [h3] at hc
            exact absurd rfl hc
          · rw [List.mem_singleton.1 h2]
        · intro h1
          rw [Option.some.inj h1]
          exact List.mem_append.2 (Or.inr (List.mem_singleton.2 rfl))
      · rw [if_neg e, ← h.came q]
        constructor
        · intro h1
          rcases List.mem_append.1 h1 with h2 | h2
          · exact h2
          · obtain rfl := List.mem_singleton.1 h2
            exact absurd ⟨rfl, rfl, rfl⟩ e
        · intro h1
          exact List.mem_append.2 (Or.inl h1)
    · rw [e2]
      show n.miss - 1 = (m.S.length : Int) - ((m.C ++ [l]).length : Nat)
      rw [List.length_append, h.miss]
      simp
      omega
theorem Tie.step {n : NetP} {m : NetR} {T : Int → Int → Int → ByteArray} (h : Tie n m T) (kind a c : Int) (x : ByteArray) : ∃ T', Tie (stepP n kind a c x).1 (stepR m kind a c x).1 T' ∧ (stepP n kind a c x).2 = (stepR m kind a c x).2 := by
  unfold stepP stepR
  by_cases hk : kind = 0
  · rw [if_pos hk, if_pos hk, ← h.k]
    by_cases hh : (hasB m.k a && hasB m.k c) = true
    · rw [if_pos hh, if_pos hh]
      obtain ⟨h1, h2⟩ := Bool.and_eq_true_iff.1 hh
      exact ⟨_, h.send a c x h1 h2, rfl⟩
    · rw [if_neg hh, if_neg hh]
      exact ⟨T, h, rfl⟩
  · rw [if_neg hk, if_neg hk]
    by_cases hh : 0 ≤ a ∧ a < n.fly.length
    · have hh' : 0 ≤ a ∧ a < m.F.length := by rw [h.fly]; exact hh
      rw [dif_pos hh, dif_pos hh']
      have hi : a.toNat < n.fly.length := by omega
      have he : m.F[a.toNat]'(by omega) = n.fly[a.toNat] := by
        simp only [h.fly]
      rw [he]
      by_cases h1 : kind = 1
      · rw [if_pos h1, if_pos h1]
        exact ⟨T, h.dup (List.getElem_mem _), rfl⟩
      · rw [if_neg h1, if_neg h1]
        exact ⟨T, h.deliver a.toNat hi, rfl⟩
    · rw [dif_neg hh, dif_neg (by rw [h.fly]; exact hh)]
      exact ⟨T, h, rfl⟩

/-- Where one goes in. -/
def insAt (out : List Let) (f : Int) : Nat → Nat
  | 0 => 0
  | k + 1 => if f < (out.getD k letZ).f then insAt out f k else k + 1
theorem insAt_spec (A B : List Let) (f : Int) (hA : ∀ l ∈ A, l.f ≤ f) (hB : ∀ l ∈ B, f < l.f) : ∀ n, n ≤ B.length → insAt (A ++ B) f (A.length + n) = A.length
  | 0, _ => by
    rcases Nat.eq_zero_or_pos A.length with h | h
    · rw [h]; rfl
    · obtain ⟨k, hk⟩ : ∃ k, A.length = k + 1 := ⟨A.length - 1, by omega⟩
      rw [Nat.add_zero, hk]
      unfold insAt
      have e : (A ++ B).getD k letZ = A[k] := by
        rw [List.getD_eq_getElem?_getD, List.getElem?_append_left (by omega), List.getElem?_eq_getElem (by omega)]
        rfl
      rw [e, if_neg (by have := hA _ (List.getElem_mem (l := A) (n := k) (by omega)); omega)]
  | n + 1, hn => by
    rw [← Nat.add_assoc]
    unfold insAt
    have e : (A ++ B).getD (A.length + n) letZ = B[n] := by
      rw [List.getD_eq_getElem?_getD, List.getElem?_append_right (by omega), Nat.add_sub_cancel_left, List.getElem?_eq_getElem (by omega)]
      rfl
    rw [e, if_pos (hB _ (List.getElem_mem _))]
    exact insAt_spec A B f hA hB n (by omega)
def insL (out : List Let) (l : Let) : List Let := out.take (insAt out l.f out.length) ++ [l] ++ out.drop (insAt out l.f out.length)
def inStep (C : List Let) (w : Int) (out : List Let) (l : Let) : List Let := if (inC C l && l.t == w) = true then insL out l else out
def inR (S C : List Let) (w : Int) : List Let := S.foldl (inStep C w) []
theorem inR_take {S : List Let} {i : Nat} (hi : i < S.length) (C : List Let) (w : Int) : inR (S.take (i + 1)) C w = inStep C w (inR (S.take i) C w) S[i] := by
  unfold inR
  rw [List.take_succ_eq_append_getElem hi, List.foldl_append]
  rfl
def isIn (C : List Let) (w a : Int) (l : Let) : Bool := l.f == a && (inC C l && l.t == w)
def flatR (S C : List Let) (w : Int) (L : List Nat) : List Let := L.flatMap fun (a : Nat) => S.filter (isIn C w a)
theorem flatR_mem {S C : List Let} {w : Int} {L : List Nat} {l : Let} (h : l ∈ flatR S C w L) : ∃ a ∈ L, l.f = (a : Nat) := by
  obtain ⟨a, ha, h⟩ := List.mem_flatMap.1 h
  obtain ⟨_, h⟩ := List.mem_filter.1 h
  simp only [isIn, Bool.and_eq_true, beq_iff_eq] at h
  exact ⟨a, ha, h.1⟩
theorem flatR_other {S C : List Let} {w : Int} {l : Let} : ∀ {L : List Nat}, (∀ a ∈ L, ¬ l.f = (a : Nat)) → flatR (S ++ [l]) C w L = flatR S C w L
  | [], _ => rfl
  | a :: t, h => by
    unfold flatR
    rw [List.flatMap_cons, List.flatMap_cons, List.filter_append, List.filter_cons_of_neg (by
      simp only [isIn, Bool.and_eq_true, beq_iff_eq]
      rintro ⟨e, _⟩
      exact h a (List.mem_cons_self ..) e), List.filter_nil, List.append_nil]
    congr 1
    exact flatR_other (fun b hb => h b (List.mem_cons_of_mem _ hb))
theorem inR_flat (C : List Let) (w : Int) (K : Nat) (S : List Let) (hS : ∀ l ∈ S, 0 ≤ l.f ∧ l.f < K) : ∀ i, i ≤ S.length → inR (S.take i) C w = flatR (S.take i) C w (List.range K)
  | 0, _ => by
    rw [List.take_zero]
    unfold inR flatR
    simp
  | i + 1, hi => by
    have hi' : i < S.length := by omega
    rw [inR_take hi', inR_flat C w K S hS i (by omega), List.take_succ_eq_append_getElem hi']
    obtain ⟨l, hl⟩ : ∃ l, S[i] = l := ⟨_, rfl⟩
    have hlS := hS l (by rw [← hl]; exact List.getElem_mem _)
    rw [hl]
    generalize S.take i = P
    obtain ⟨j, hj⟩ : ∃ j : Nat, l.f = j := ⟨l.f.toNat, by omega⟩
    have hjK : j < K := by omega
    have hsplit : List.range K = List.range (j + 1) ++ (List.range K).drop (j + 1) := by
      conv => lhs; rw [← List.take_append_drop (j + 1) (List.range K)]
      rw [List.take_range, Nat.min_eq_left (by omega)]
    have hD : ∀ a ∈ (List.range K).drop (j + 1), j < a := by
      intro a ha
      obtain ⟨q, hq, rfl⟩ := List.mem_iff_getElem.1 ha
      rw [List.getElem_drop, List.getElem_range]
      omega
    generalize (List.range K).drop (j + 1) = D at hsplit hD
    have happ : ∀ (Q : List Let) (L1 L2 : List Nat), flatR Q C w (L1 ++ L2) = flatR Q C w L1 ++ flatR Q C w L2 := fun Q L1 L2 => by
      unfold flatR
      rw [List.flatMap_append]
    have hone : ∀ (Q : List Let), flatR Q C w [j] = Q.filter (isIn C w j) := fun Q => by
      unfold flatR
      simp
    unfold inStep
    by_cases hin : (inC C l && l.t == w) = true
    · rw [if_pos hin]
      have hA : flatR (P ++ [l]) C w (List.range (j + 1)) = flatR P C w (List.range (j + 1)) ++ [l] := by
        rw [List.range_succ, happ, happ, flatR_other (fun a ha e => by have := List.mem_range.1 ha; omega), hone, hone, List.filter_append, List.filter_cons_of_pos (by
          simp only [isIn, Bool.and_eq_true, beq_iff_eq] at hin ⊢
          exact ⟨hj, hin⟩), List.filter_nil, List.append_assoc]
      have hB : flatR (P ++ [l]) C w D = flatR P C w D := flatR_other (fun a ha e => by have := hD a ha; omega)
      rw [hsplit, happ, happ, hA, hB]
      have hlow : ∀ q ∈ flatR P C w (List.range (j + 1)), q.f ≤ l.f := fun q hq => by
        obtain ⟨a, ha, e⟩ := flatR_mem hq
        have := List.mem_range.1 ha
        omega
      have hhigh : ∀ q ∈ flatR P C w D, l.f < q.f := fun q hq => by
        obtain ⟨a, ha, e⟩ := flatR_mem hq
        have := hD a ha
        omega
      unfold insL
      rw [List.length_append, insAt_spec _ _ _ hlow hhigh _ (Nat.le_refl _), List.take_left, List.drop_left]
    · rw [if_neg hin]
      unfold flatR
      congr 1
      funext a
      rw [List.filter_append, List.filter_cons_of_neg (by
        simp only [isIn, Bool.and_eq_true, beq_iff_eq] at hin ⊢
        rintro ⟨_, e⟩
        exact hin e), List.filter_nil, List.append_nil]
theorem filter_map_some {f : Nat → Let} {g : Nat → Option Let} {p : Let → Bool} : ∀ L : List Nat, (∀ s ∈ L, g s = if p (f s) = true then some (f s) else none) → (L.map f).filter p = L.filterMap g
  | [], _ => rfl
  | s :: t, h => by
    have h1 := h s (List.mem_cons_self ..)
    have ih := filter_map_some t (fun q hq => h q (List.mem_cons_of_mem _ hq))
    rw [List.map_cons, List.filterMap_cons, h1]
    by_cases e : p (f s) = true
    · rw [List.filter_cons_of_pos e, if_pos e, ih]
    · rw [List.filter_cons_of_neg e, if_neg e, ih]
theorem Tie.inbox {n : NetP} {m : NetR} {T : Int → Int → Int → ByteArray} (h : Tie n m T) (w : Int) : inR m.S m.C w = inboxL n w n.k := by
  have hlim : ∀ l ∈ m.S, 0 ≤ l.f ∧ l.f < n.k := fun l hl => by
    have h1 := (h.lim l hl).1
    rw [h.k] at h1
    unfold hasB at h1
    simp at h1
    omega
  have h1 := inR_flat m.C w n.k m.S hlim m.S.length (Nat.le_refl _)
  rw [List.take_length] at h1
  rw [h1]
  unfold flatR inboxL
  congr 1
  funext a
  have e1 : m.S.filter (isIn m.C w a) = (m.S.filter (isWay a w)).filter (inC m.C) := by
    rw [List.filter_filter]
    congr 1
    funext l
    unfold isIn isWay
    cases inC m.C l <;> cases l.f == (a : Int) <;> cases l.t == w <;> rfl
  rw [e1, h.row a w]
  unfold inRow
  refine filter_map_some _ (fun s hs => ?_)
  have hlt := List.mem_range.1 hs
  by_cases e : inC m.C ⟨a, w, s, T a w s⟩ = true
  · rw [if_pos e]
    exact (h.came ⟨a, w, s, T a w s⟩).1 ((inC_iff _ _).1 e)
  · rw [if_neg e]
    cases hc : n.came a w s with
    | none => rfl
    | some q =>
      obtain ⟨rfl, _⟩ := h.full.came _ _ _ _ hc
      exact absurd ((inC_iff _ _).2 ((h.came ⟨a, w, s, T a w s⟩).2 hc)) e
/-- Where there is no worker nothing came. -/
theorem Tie.inbox_no {n : NetP} {m : NetR} {T : Int → Int → Int → ByteArray} (h : Tie n m T) (w : Int) (hw : hasB n.k w = false) : inR m.S m.C w = [] := by
  have key : ∀ i, i ≤ m.S.length → inR (m.S.take i) m.C w = [] := by
    intro i
    induction i with
    | zero => intro _; rw [List.take_zero]; rfl
    | succ i ih =>
      intro hi
      rw [inR_take (by omega), ih (by omega)]
      unfold inStep
      have hl := (h.lim _ (List.getElem_mem (l := m.S) (n := i) (by omega))).2
      rw [h.k] at hl
      rw [if_neg]
      simp only [Bool.and_eq_true, beq_iff_eq]
      rintro ⟨_, e⟩
      rw [e, hw] at hl
      cases hl
  have := key m.S.length (Nat.le_refl _)
  rwa [List.take_length] at this
end Go.Proofs.YtbecgfeoacncdaaDoor
