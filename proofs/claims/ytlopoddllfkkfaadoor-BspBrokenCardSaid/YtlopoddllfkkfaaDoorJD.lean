/- Machines of words: what holds whatever is called; pure. Machines of words: a worker works, the barrier is passed; pure. -/
import Derived.Test.YtlopoddllfkkfaaDoorBspA
namespace Go.Proofs.YtlopoddllfkkfaaDoor
section
open Go.RowKit

def cntW (p : MP) : Nat := p.wk.count true
def cntT (TL : List (List Int)) (a : Nat) (c : Int) : Nat := (TL.getD a []).count c
def stOf (p : MP) (a : Nat) : ByteArray := p.st.getD a ⟨#[]⟩
def bxOf (p : MP) (a : Nat) : List ByteArray := p.bx.getD a []
/-- What comes to a worker in a round. -/
def mailBox (TL : List (List Int)) (k : Nat) (st : Nat → ByteArray) (c : Nat) : List ByteArray := (List.range k).flatMap fun a => List.replicate (cntT TL a (c : Int)) (st a)
structure MInv (TL : List (List Int)) (q : Nat) (p : MP) : Prop where
  k1 : 1 ≤ p.k
  k2 : p.k ≤ 8
  l1 : p.st.length = p.k
  l2 : p.bx.length = p.k
  l4 : p.nx.length = p.k
  l5 : p.wk.length = p.k
  nk : p.nt.k = p.k
  tl : ∀ a, (TL.getD a []).length ≤ 8
  tr : ∀ a, ∀ t ∈ TL.getD a [], 0 ≤ t ∧ t < p.k
  good : Good p.nt (q + 8 * cntW p)
  full : Full p.nt (fun a _ _ => stOf p a.toNat)
  inv : ∃ T L, Inv p.nt T L
  sent : ∀ a c, p.nt.sent a c = if 0 ≤ a ∧ p.wk.getD a.toNat false = true then cntT TL a.toNat c else 0
  nx : ∀ a, p.wk.getD a false = true → p.nx.getD a ⟨#[]⟩ = nextB a (stOf p a) (bxOf p a)
  s1 : ∀ a, (stOf p a).size ≤ 60
  s2 : ∀ a, ∀ x ∈ bxOf p a, x.size ≤ 60
  s3 : ∀ a, (bxOf p a).length ≤ 10000
theorem Full.start (k : Nat) (T : Int → Int → Int → ByteArray) : Full (freshP k) T where
  fly := fun l hl => by cases hl
  came := fun a c s l h => by cases h
  all := fun a c s h => absurd h (Nat.not_lt_zero s)
theorem rep_getD {k a : Nat} : (List.replicate k false).getD a false = false := by
  simp only [List.getD, List.getElem?_replicate]
  split <;> rfl
theorem cnt_start (k rd : Nat) (st : List ByteArray) (bx : List (List ByteArray)) : cntW (startP k rd st bx) = 0 := by
  unfold cntW startP
  simp [List.count_replicate]
theorem MInv.start {TL : List (List Int)} {k rd : Nat} {st : List ByteArray} {bx : List (List ByteArray)} (k1 : 1 ≤ k) (k2 : k ≤ 8) (l1 : st.length = k) (l2 : bx.length = k) (tl : ∀ a, (TL.getD a []).length ≤ 8) (tr : ∀ a, ∀ t ∈ TL.getD a [], 0 ≤ t ∧ t < (k : Int))
    (s1 : ∀ a, (st.getD a ⟨#[]⟩).size ≤ 60) (s2 : ∀ a, ∀ x ∈ bx.getD a [], x.size ≤ 60) (s3 : ∀ a, (bx.getD a []).length ≤ 10000) : MInv TL 0 (startP k rd st bx) where
  k1 := k1
  k2 := k2
  l1 := l1
  l2 := l2
  l4 := by simp [startP]
  l5 := by simp [startP]
  nk := rfl
  tl := tl
  tr := tr
  good := (Good.fresh (by show k ≤ 64; omega)).mono (Nat.zero_le _)
  full := Full.start _ _
  inv := ⟨_, _, Inv.fresh _⟩
  sent := fun a c => by
    rw [if_neg (fun h => by have h2 := h.2; rw [show (startP k rd st bx).wk = List.replicate k false from rfl, rep_getD] at h2; cases h2)]
    rfl
  nx := fun a h => by rw [show (startP k rd st bx).wk = List.replicate k false from rfl, rep_getD] at h; cases h
  s1 := s1
  s2 := s2
  s3 := s3
theorem MInv.back {TL : List (List Int)} {q : Nat} {p : MP} (h : MInv TL q p) : MInv TL 0 (backP p) := MInv.start h.k1 h.k2 h.l1 h.l2 h.tl h.tr h.s1 h.s2 h.s3
theorem MInv.mono {TL : List (List Int)} {q q' : Nat} {p : MP} (h : MInv TL q p) (hq : q ≤ q') : MInv TL q' p := { h with good := h.good.mono (by omega) }
/-- A delivery, or a double. -/
theorem MInv.net {TL : List (List Int)} {q : Nat} {p : MP} (h : MInv TL q p) (hq : q + 8 * cntW p ≤ 1000) (kind i : Int) (hk : kind = 1 ∨ kind = 2) : MInv TL (q + 1) (netP p kind i) := by
  have hs : (stepP p.nt kind i 0 ⟨#[]⟩).1.sent = p.nt.sent ∧ Full (stepP p.nt kind i 0 ⟨#[]⟩).1 (fun a _ _ => stOf p a.toNat) := by
    rcases hk with rfl | rfl
    · have h9 := h.full.double i 0 ⟨#[]⟩; exact ⟨h9.2, h9.1⟩
    · have h9 := h.full.come i 0 ⟨#[]⟩; exact ⟨h9.2, h9.1⟩
  obtain ⟨T, L, hi⟩ := h.inv
  obtain ⟨T', L', hi', _⟩ := hi.step kind i 0 ⟨#[]⟩
  exact { h with
    nk := by show (stepP p.nt kind i 0 ⟨#[]⟩).1.k = _; rw [stepP_k]; exact h.nk
    good := by
      have h9 := h.good.step hq kind i 0 ⟨#[]⟩
      rw [show q + 1 + 8 * cntW (netP p kind i) = q + 8 * cntW p + 1 by show q + 1 + 8 * cntW p = _; omega]
      exact h9
    full := hs.2
    inv := ⟨_, _, hi'⟩
    sent := fun a c => by show (stepP p.nt kind i 0 ⟨#[]⟩).1.sent a c = _; rw [hs.1]; exact h.sent a c }
end

section
open Go.RowKit

theorem count_set_true : ∀ (X : List Bool) (a : Nat), a < X.length → X.getD a false = false → (X.set a true).count true = X.count true + 1
  | [], a, h, _ => by simp at h
  | x :: t, 0, _, h => by
    have hx : x = false := by simpa using h
    subst hx
    simp
  | x :: t, a + 1, h, h2 => by
    have ih := count_set_true t a (by simpa using h) (by simpa using h2)
    rw [List.set_cons_succ, List.count_cons, List.count_cons, ih]
    omega
theorem Full.sends {n : NetP} {T : Int → Int → Int → ByteArray} (h : Full n T) (a : Int) (x : ByteArray) (hT : ∀ c s, T a c s = x) : ∀ M : List Int, Full (sendsP n a x M) T := by
  intro M
  induction M generalizing n with
  | nil => exact h
  | cons t r ih =>
    have h1 := h.send a t x
    have e : (fun (p q s : Int) => if p = a ∧ q = t ∧ s = n.sent a t then x else T p q s) = T := by
      funext p q s
      split
      · rename_i hc
        rw [hc.1, hT]
      · rfl
    rw [e] at h1
    exact ih h1
theorem Inv.sends {n : NetP} (h : ∃ T L, Inv n T L) (a : Int) (x : ByteArray) (ha : hasB n.k a = true) : ∀ M : List Int, (∀ t ∈ M, hasB n.k t = true) → ∃ T L, Inv (sendsP n a x M) T L := by
  intro M
  induction M generalizing n with
  | nil => intro _; exact h
  | cons t r ih =>
    intro ht
    obtain ⟨T, L, h⟩ := h
    obtain ⟨T', h1⟩ := h.send x ha (ht t (List.mem_cons_self ..))
    exact ih ⟨_, _, h1⟩ ha (fun q hq => ht q (List.mem_cons_of_mem _ hq))
theorem sendsP_sent (a : Int) (x : ByteArray) : ∀ (M : List Int) (n : NetP) (p q : Int), (sendsP n a x M).sent p q = n.sent p q + if p = a then M.count q else 0
  | [], n, p, q => by simp [sendsP]
  | t :: r, n, p, q => by
    show (sendsP (sendP n a t x) a x r).sent p q = _
    rw [sendsP_sent a x r]
    show (if p = a ∧ q = t then n.sent a t + 1 else n.sent p q) + _ = _
    by_cases hp : p = a
    · subst hp
      by_cases hq : q = t
      · subst hq
        rw [if_pos ⟨rfl, rfl⟩, if_pos rfl, if_pos rfl, List.count_cons_self]
        omega
      · rw [if_neg (fun h => hq h.2), if_pos rfl, if_pos rfl, List.count_cons_of_ne (fun h => hq h.symm)]
    · rw [if_neg (fun h => hp h.1), if_neg hp, if_neg hp]
theorem getD_set_self {α : Type} {X : List α} {a : Nat} {d x : α} (h : a < X.length) : (X.set a x).getD a d = x := by simp [List.getD, h]
theorem getD_set_ne {α : Type} {X : List α} {a b : Nat} {d x : α} (h : b ≠ a) : (X.set a x).getD b d = X.getD b d := by simp [List.getD, List.getElem?_set_ne (fun e => h e.symm)]
theorem MInv.work {TL : List (List Int)} {q : Nat} {p : MP} (h : MInv TL q p) {a : Nat} (ha : a < p.k) (hw : p.wk.getD a false = false) (hq : q + 8 * (cntW p + 1) ≤ 1000) : MInv TL q (workP p a (TL.getD a [])) := by
  have hHa : hasB p.nt.k (a : Int) = true := by rw [h.nk]; unfold hasB; simp; omega
  have hHt : ∀ t ∈ TL.getD a [], hasB p.nt.k t = true := fun t ht => by have := h.tr a t ht; rw [h.nk]; unfold hasB; simp; omega
  have hc : cntW (workP p a (TL.getD a [])) = cntW p + 1 := count_set_true _ _ (by rw [h.l5]; exact ha) hw
  have htl := h.tl a
  exact {
    k1 := h.k1
    k2 := h.k2
    l1 := h.l1
    l2 := h.l2
    l4 := by show (p.nx.set a _).length = _; rw [List.length_set]; exact h.l4
    l5 := by show (p.wk.set a _).length = _; rw [List.length_set]; exact h.l5
    nk := by show (sendsP _ _ _ _).k = _; rw [sendsP_k]; exact h.nk
    tl := h.tl
    tr := h.tr
    good := by
      rw [hc]
      exact (h.good.sends (a : Int) _ hHa (TL.getD a []) (by omega) hHt).mono (by omega)
    full := h.full.sends (a : Int) _ (fun c s => rfl) _
    inv := Inv.sends h.inv (a : Int) _ hHa _ hHt
    sent := fun b c => by
      show (sendsP _ _ _ _).sent b c = if 0 ≤ b ∧ (p.wk.set a true).getD b.toNat false = true then _ else 0
      rw [sendsP_sent, h.sent b c]
      by_cases hb : b = (a : Int)
      · subst hb
        rw [show ((a : Int)).toNat = a from rfl, getD_set_self (by rw [h.l5]; exact ha), hw, if_neg (fun h => by cases h.2), if_pos rfl, if_pos ⟨by omega, rfl⟩, Nat.zero_add]
        rfl
      · rw [if_neg hb, Nat.add_zero]
        by_cases h0 : 0 ≤ b
        · rw [getD_set_ne (by omega)]
        · rw [if_neg (fun h => h0 h.1), if_neg (fun h => h0 h.1)]
    nx := fun b hb => by
      show (p.nx.set a _).getD b _ = nextB b (stOf p b) (bxOf p b)
      by_cases hba : b = a
      · subst hba
        rw [getD_set_self (by rw [h.l4]; exact ha)]
        rfl
      · rw [getD_set_ne hba]
        exact h.nx b (by rw [show (workP p a (TL.getD a [])).wk = p.wk.set a true from rfl, getD_set_ne hba] at hb; exact hb)
    s1 := h.s1
    s2 := h.s2
    s3 := h.s3 }
/-- All that was sent came. -/
theorem quiet_inbox {n : NetP} {T : Int → Int → Int → ByteArray} (h : Full n T) (hi : ∃ Ti Li, Inv n Ti Li) (h0 : n.miss = 0) (c : Int) (k : Nat) : inboxL n c k = allL n.sent T c k := by
  obtain ⟨Ti, Li, hi⟩ := hi
  have hl : Li = [] := by
    have := hi.len
    rw [h0] at this
    exact List.eq_nil_of_length_eq_zero (by omega)
  subst hl
  unfold inboxL allL
  refine congrArg (fun f => (List.range k).flatMap f) (funext fun a => ?_)
  unfold inRow
  have hall : ∀ s, s ∈ List.range (n.sent a c) → n.came a c (s : Nat) = some ⟨a, c, s, T a c s⟩ := fun s hs => by
    rcases h.all a c s (List.mem_range.1 hs) with h1 | h1
    · rcases hi.all _ h1 with h2 | h2
      · cases h2
      · exact h2
    · exact h1
  generalize List.range (n.sent a c) = L at hall
  induction L with
  | nil => rfl
  | cons s t ih =>
    rw [List.filterMap_cons, hall s (List.mem_cons_self ..), List.map_cons, ih (fun q hq => hall q (List.mem_cons_of_mem _ hq))]
def nextSt (p : MP) : List ByteArray := (List.range p.k).map fun a => nextB a (stOf p a) (bxOf p a)
/-- The round behind. -/
def roundP (TL : List (List Int)) (p : MP) : MP := startP p.k (p.rd + 1) (nextSt p) ((List.range p.k).map (mailBox TL p.k (stOf p)))
theorem allL_txt (sent : Int → Int → Nat) (T : Int → Int → Int → ByteArray) (c : Int) (k : Nat) (f : Nat → ByteArray) (g : Nat → Nat) (hT : ∀ (a : Nat) q s, T a q s = f a) (hs : ∀ a, a < k → sent a c = g a) : (allL sent T c k).map (·.x) = (List.range k).flatMap fun a => List.replicate (g a) (f a) := by
  unfold allL
  rw [List.map_flatMap]
  rw [List.flatMap_def, List.flatMap_def]
  refine congrArg List.flatten (List.map_congr_left (fun a ha => ?_))
  rw [List.map_map, hs a (List.mem_range.1 ha)]
  apply List.ext_getElem
  · simp
  · intro i h1 h2
    simp [hT]
theorem all_at {X : List Bool} (h : X.all id = true) {a : Nat} (ha : a < X.length) : X.getD a false = true := by
  have h1 := List.all_eq_true.1 h X[a] (List.getElem_mem ha)
  simp only [List.getD, List.getElem?_eq_getElem ha, Option.getD_some]
  exact h1
theorem MInv.pass_eq {TL : List (List Int)} {q : Nat} {p : MP} (h : MInv TL q p) (hw : p.wk.all id = true) (hm : p.nt.miss = 0) : passP p = roundP TL p := by
  have e1 : p.nx = nextSt p := by
    apply List.ext_getElem?
    intro a
    by_cases ha : a < p.k
    · have h3 := h.nx a (all_at hw (by rw [h.l5]; exact ha))
      have h4 : p.nx[a]? = some (p.nx.getD a ⟨#[]⟩) := by simp [List.getD, show a < p.nx.length by rw [h.l4]; exact ha]
      rw [h4, h3, nextSt, List.getElem?_map, List.getElem?_range ha]
      rfl
    · rw [List.getElem?_eq_none (by rw [h.l4]; omega), List.getElem?_eq_none (by simp [nextSt]; omega)]
  have e2 : ∀ c, c < p.k → boxN p.nt c = mailBox TL p.k (stOf p) c := fun c hc => by
    unfold boxN mailBox
    rw [quiet_inbox h.full h.inv hm, h.nk]
    exact allL_txt _ _ _ _ (stOf p) (fun a => cntT TL a (c : Int)) (fun a q s => rfl) (fun a ha => by
      rw [h.sent, if_pos ⟨by omega, all_at hw (by rw [h.l5]; exact ha)⟩]
      rfl)
  unfold passP roundP
  rw [← e1, List.map_congr_left (fun c hc => e2 c (List.mem_range.1 hc))]
theorem nextB_size (k : Nat) (s : ByteArray) (X : List ByteArray) : (nextB k s X).size ≤ 60 := by
  unfold nextB
  split
  · rw [ByteArray.size_extract]
    omega
  · omega
theorem mailBox_mem {TL : List (List Int)} {k c : Nat} {st : Nat → ByteArray} {x : ByteArray} (h : x ∈ mailBox TL k st c) : ∃ a, x = st a := by
  unfold mailBox at h
  obtain ⟨a, _, h⟩ := List.mem_flatMap.1 h
  exact ⟨a, (List.mem_replicate.1 h).2⟩
theorem mailBox_len {TL : List (List Int)} {c : Nat} {st : Nat → ByteArray} (h : ∀ a, (TL.getD a []).length ≤ 8) : ∀ k : Nat, (mailBox TL k st c).length ≤ 8 * k
  | 0 => by simp [mailBox]
  | k + 1 => by
    have ih := mailBox_len (c := c) (st := st) h k
    unfold mailBox at ih ⊢
    rw [List.range_succ, List.flatMap_append, List.length_append]
    have h1 : (List.flatMap (fun a => List.replicate (cntT TL a (c : Int)) (st a)) [k]).length ≤ 8 := by
      simp
      exact Nat.le_trans List.count_le_length (h k)
    omega
theorem MInv.round {TL : List (List Int)} {q : Nat} {p : MP} (h : MInv TL q p) : MInv TL 0 (roundP TL p) := by
  have e1 : ∀ a, (nextSt p).getD a ⟨#[]⟩ = ⟨#[]⟩ ∨ ∃ b, (nextSt p).getD a ⟨#[]⟩ = nextB b (stOf p b) (bxOf p b) := fun a => by
    by_cases ha : a < p.k
    · exact Or.inr ⟨a, by unfold nextSt; simp [List.getD, ha]⟩
    · exact Or.inl (by unfold nextSt; simp [List.getD, ha])
  have e2 : ∀ a, ((List.range p.k).map (mailBox TL p.k (stOf p))).getD a [] = [] ∨ ((List.range p.k).map (mailBox TL p.k (stOf p))).getD a [] = mailBox TL p.k (stOf p) a := fun a => by
    by_cases ha : a < p.k
    · exact Or.inr (by simp [List.getD, ha])
    · exact Or.inl (by simp [List.getD, ha])
  refine MInv.start h.k1 h.k2 (by simp [nextSt]) (by simp) h.tl h.tr (fun a => ?_) (fun a x hx => ?_) (fun a => ?_)
  · rcases e1 a with e | ⟨b, e⟩
    · rw [e]; decide
    · rw [e]; exact nextB_size _ _ _
  · rcases e2 a with e | e
    · rw [e] at hx; cases hx
    · rw [e] at hx
      obtain ⟨b, rfl⟩ := mailBox_mem hx
      exact h.s1 b
  · rcases e2 a with e | e
    · rw [e]; exact Nat.zero_le _
    · rw [e]
      have h1 := mailBox_len (c := a) (st := stOf p) h.tl p.k
      have := h.k2
      omega
end
end Go.Proofs.YtlopoddllfkkfaaDoor
