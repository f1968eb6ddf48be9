/- net: a net by its footprint; several nets beside each other. net: all that was sent flies or came; pure. net: New of any number; Double and Deliver, by footprints. net: neighbours in an inbox; pure. -/
import Derived.Test.YtlopoddllfkkfaaDoorJ8
import Derived.Test.YtlopoddllfkkfaaDoorJ9
namespace Go.Proofs.YtlopoddllfkkfaaDoor
section
open Go.RowKit

/-- A net and its blocks. -/
def NetB (w : World) (base N : Nat) (n : NetP) (b : Nat) (R : Nat → Prop) : Prop := ∃ mb cb v F G, NetIn w base N n b mb cb v F G ∧ R = Foot b mb cb v
theorem NetB.foot {w : World} {base N : Nat} {n : NetP} {b : Nat} {R : Nat → Prop} (h : NetB w base N n b R) {k : Nat} (hk : R k) : base ≤ k ∧ k < w.heap.size := by
  obtain ⟨mb, cb, v, F, G, h, rfl⟩ := h
  exact h.foot hk
theorem NetB.stay {w w' : World} {base N : Nat} {n : NetP} {b : Nat} {R R' : Nat → Prop} (h : NetB w base N n b R) (hf : Fr w.heap.size R' w w') (hs : ∀ k, R k → ¬ R' k) : NetB w' base N n b R := by
  obtain ⟨mb, cb, v, F, G, h, rfl⟩ := h
  exact ⟨mb, cb, v, F, G, h.apart hf (Nat.le_refl _) hs, rfl⟩
theorem NetB.below {w w' : World} {base N : Nat} {n : NetP} {b : Nat} {R : Nat → Prop} (h : NetB w base N n b R) (hb : Below w.heap.size w w') : NetB w' base N n b R := by
  obtain ⟨mb, cb, v, F, G, h, rfl⟩ := h
  exact ⟨mb, cb, v, F, G, h.below hb (Nat.le_refl _), rfl⟩
theorem NetB.at {w : World} {base N : Nat} {n : NetP} {b : Nat} {R : Nat → Prop} (h : NetB w base N n b R) : NetAt w base (.pointer (some ⟨b, 0, none⟩)) N n := by
  obtain ⟨mb, cb, v, F, G, h, rfl⟩ := h
  exact ⟨b, mb, cb, v, F, G, rfl, h⟩
theorem NetIn.less {w : World} {base base' N : Nat} {n : NetP} {b mb cb : Nat} {v : Value} {F G : Value → Option Value} (h : NetIn w base N n b mb cb v F G) (hb : base' ≤ base) : NetIn w base' N n b mb cb v F G := by
  obtain ⟨A, c, e, hc, hf⟩ := h.fly
  refine { h with bb := Nat.le_trans hb h.bb, bm := Nat.le_trans hb h.bm, bc := Nat.le_trans hb h.bc, fly := ⟨A, c, e, hc, ?_⟩ }
  rcases hf with hf | ⟨g, off, h1, h2, h3⟩
  · exact Or.inl hf
  · exact Or.inr ⟨g, off, h1, Nat.le_trans hb h2, h3⟩
/-- What a call leaves. -/
def DoB (base N : Nat) (n : NetP) (code : Int) (b : Nat) (R : Nat → Prop) (w : World) (e : Ending) (w' : World) : Prop :=
  e = .returned (.int .i64 code) ∧ ∃ R', NetB w' base N n b R' ∧ Fr w.heap.size R w w' ∧ (∀ k, R' k → R k ∨ w.heap.size ≤ k) ∧ Below base w w'
/-- A net of new blocks. -/
def NewB (base N : Nat) (n : NetP) (w : World) (v : Value) (w' : World) : Prop := ∃ b R, v = .pointer (some ⟨b, 0, none⟩) ∧ NetB w' base N n b R ∧ (∀ k, R k → w.heap.size ≤ k) ∧ Below w.heap.size w w'
theorem new_b {w : World} {base : Nat} (hbase : base ≤ w.heap.size) :
    Calls Tryd.prog 27 #[.int .i64 3] w fun e w' => ∃ v, e = .returned (.tuple #[v, .nilIface]) ∧ NewB base 0 (freshP 3) w v w' := by
  refine (netNew_any 3 w).mono ?_
  rintro e w2 ⟨hb2, ⟨j, p, hj, _, _, rfl, hN⟩ | ⟨h0, _⟩⟩
  case inr => omega
  obtain rfl : j = 3 := by omega
  obtain ⟨b, mb, cb, v1, F1, G1, rfl, hN1⟩ := hN
  exact ⟨_, rfl, b, _, rfl, ⟨mb, cb, v1, F1, G1, hN1.less hbase, rfl⟩, fun k hk => (hN1.foot hk).1, hb2⟩
theorem next_b {w : World} {base N : Nat} {n : NetP} {b : Nat} {R : Nat → Prop} (h : NetB w base N n b R) (hbase : base ≤ w.heap.size) :
    Calls Tryd.prog 44 #[.pointer (some ⟨b, 0, none⟩)] w fun e w' => ∃ v, e = .returned v ∧ NewB base 0 (freshP n.k) w v w' := by
  obtain ⟨mb, cb, v, F, G, h, rfl⟩ := h
  refine (next_any h).mono ?_
  rintro e w2 ⟨p, rfl, hN, hb2⟩
  obtain ⟨b, mb, cb, v1, F1, G1, rfl, hN1⟩ := hN
  exact ⟨_, rfl, b, _, rfl, ⟨mb, cb, v1, F1, G1, hN1.less hbase, rfl⟩, fun k hk => (hN1.foot hk).1, hb2⟩
/-- Letters handed over: how many. -/
def LenTo (m : Nat) (w : World) (e : Ending) (w' : World) : Prop := ∃ A c, e = .returned (.slice A m c) ∧ Below w.heap.size w w'
theorem flying_b {w : World} {base N : Nat} {n : NetP} {b : Nat} {R : Nat → Prop} (h : NetB w base N n b R) (hS : n.fly.length ≤ 1000000) {m : Nat} (hm : n.fly.length = m) :
    Calls Tryd.prog 34 #[.pointer (some ⟨b, 0, none⟩)] w (LenTo m w) := by
  subst hm
  refine (flying_any h.at hS).mono ?_
  rintro e w' ⟨v', rfl, ho, hb⟩
  obtain ⟨A, c, rfl⟩ := own_form ho
  exact ⟨A, c, rfl, hb⟩
theorem inbox_b {w : World} {base N : Nat} {n : NetP} {b : Nat} {R : Nat → Prop} (h : NetB w base N n b R) (c : Int) (hk : n.k ≤ 64) (hc : hasB n.k c = true) (hsn : ∀ a, n.sent a c ≤ 1000) {m : Nat} (hm : (inboxL n c n.k).length = m) :
    Calls Tryd.prog 40 #[.pointer (some ⟨b, 0, none⟩), .int .i64 c] w (LenTo m w) := by
  subst hm
  obtain ⟨mb, cb, v, F, G, h, rfl⟩ := h
  refine (inbox_ok h c hk hc hsn).mono ?_
  rintro e w' ⟨u, rfl, hf, hb⟩
  obtain ⟨A, cc, rfl, _⟩ := hf
  exact ⟨A, cc, rfl, hb⟩
theorem missing_b {w : World} {base N : Nat} {n : NetP} {b : Nat} {R : Nat → Prop} (h : NetB w base N n b R) {m : Int} (hm : n.miss = m) :
    Calls Tryd.prog 39 #[.pointer (some ⟨b, 0, none⟩)] w fun e w' => e = .returned (.int .i64 m) ∧ w' = w := by
  subst hm
  exact missing_any h.at
/-- Calls one behind the other. -/
def runN (n : NetP) (L : List Let) : NetP := L.foldl (fun n l => (stepP n l.f l.t l.s l.x).1) n
theorem runN_snoc (n : NetP) (L : List Let) (l : Let) : runN n (L ++ [l]) = (stepP (runN n L) l.f l.t l.s l.x).1 := by
  unfold runN
  rw [List.foldl_append]
  rfl
theorem runN_k : ∀ (L : List Let) (n : NetP), (runN n L).k = n.k
  | [], _ => rfl
  | l :: t, n => by
    show (runN (stepP n l.f l.t l.s l.x).1 t).k = n.k
    rw [runN_k t, stepP_k]
end

section
/-- All that was sent flies or came; what flies or came was sent. -/
structure Full (n : NetP) (T : Int → Int → Int → ByteArray) : Prop where
  fly : ∀ l ∈ n.fly, l.x = T l.f l.t l.s ∧ ∃ s : Nat, l.s = s ∧ s < n.sent l.f l.t
  came : ∀ a c s l, n.came a c s = some l → l = ⟨a, c, s, T a c s⟩ ∧ ∃ k : Nat, s = k ∧ k < n.sent a c
  all : ∀ (a c : Int) (s : Nat), s < n.sent a c → (⟨a, c, s, T a c s⟩ : Let) ∈ n.fly ∨ n.came a c s = some ⟨a, c, s, T a c s⟩
theorem Full.fresh (k : Nat) : Full (freshP k) (fun _ _ _ => ⟨#[]⟩) :=
  ⟨fun l hl => by simp [freshP] at hl, fun a c s l hl => by simp [freshP] at hl, fun a c s hs => by simp [freshP] at hs⟩
theorem Full.send {n : NetP} {T : Int → Int → Int → ByteArray} (h : Full n T) (a c : Int) (x : ByteArray) :
    Full (sendP n a c x) (fun p q s => if p = a ∧ q = c ∧ s = n.sent a c then x else T p q s) := by
  have hs : ∀ p q, (sendP n a c x).sent p q = if p = a ∧ q = c then n.sent a c + 1 else n.sent p q := fun _ _ => rfl
  have hle : ∀ p q, n.sent p q ≤ (sendP n a c x).sent p q := fun p q => by
    rw [hs]
    split
    · rename_i e; rw [e.1, e.2]; omega
    · exact Nat.le_refl _
  have hold : ∀ (p q : Int) (s : Nat), s < n.sent p q → ¬ (p = a ∧ q = c ∧ (s : Int) = n.sent a c) := fun p q s h1 ⟨e1, e2, e3⟩ => by
    subst e1 e2; omega
  refine ⟨fun l hl => ?_, fun p q s l hl => ?_, fun p q s hq => ?_⟩
  · have hl' : l ∈ n.fly ++ [⟨a, c, n.sent a c, x⟩] := hl
    rcases List.mem_append.1 hl' with h1 | h1
    · obtain ⟨h2, s, h3, h4⟩ := h.fly l h1
      refine ⟨?_, s, h3, Nat.lt_of_lt_of_le h4 (hle _ _)⟩
      rw [if_neg (by rw [h3]; exact hold _ _ s h4)]
      exact h2
    · obtain rfl := List.mem_singleton.1 h1
      exact ⟨by rw [if_pos ⟨rfl, rfl, rfl⟩], n.sent a c, rfl, by rw [hs, if_pos ⟨rfl, rfl⟩]; omega⟩
  · obtain ⟨h2, k, h3, h4⟩ := h.came p q s l hl
    refine ⟨?_, k, h3, Nat.lt_of_lt_of_le h4 (hle _ _)⟩
    rw [if_neg (by rw [h3]; exact hold _ _ k h4)]
    exact h2
  · rw [hs] at hq
    by_cases e : p = a ∧ q = c ∧ (s : Int) = n.sent a c
    · rw [if_pos e]
      obtain ⟨rfl, rfl, e3⟩ := e
      rw [e3]
      exact Or.inl (List.mem_append.2 (Or.inr (List.mem_singleton.2 rfl)))
    · rw [if_neg e]
      have hlt : s < n.sent p q := by
        by_cases e2 : p = a ∧ q = c
        · rw [if_pos e2] at hq
          obtain ⟨rfl, rfl⟩ := e2
          have : ¬ s = n.sent p q := fun h5 => e ⟨rfl, rfl, by rw [h5]⟩
          omega
        · rwa [if_neg e2] at hq
      rcases h.all p q s hlt with h1 | h1
      · exact Or.inl (List.mem_append.2 (Or.inl h1))
      · exact Or.inr h1
theorem Full.dup {n : NetP} {T : Int → Int → Int → ByteArray} (h : Full n T) {l : Let} (hl : l ∈ n.fly) : Full (dupP n l) T := by
  refine ⟨fun q hq => ?_, h.came, fun a c s hs => ?_⟩
  · have hq' : q ∈ n.fly ++ [l] := hq
    rcases List.mem_append.1 hq' with h1 | h1
    · exact h.fly q h1
    · rw [List.mem_singleton.1 h1]; exact h.fly l hl
  · rcases h.all a c s hs with h1 | h1
    · exact Or.inl (List.mem_append.2 (Or.inl h1))
    · exact Or.inr h1
theorem Full.deliver {n : NetP} {T : Int → Int → Int → ByteArray} (h : Full n T) (i : Nat) (hi : i < n.fly.length) : Full (cameP (dropP n i) n.fly[i]) T := by
  obtain ⟨l, hl⟩ : ∃ l, n.fly[i] = l := ⟨_, rfl⟩
  have hlm : l ∈ n.fly := by rw [← hl]; exact List.getElem_mem _
  have hsplit : n.fly = n.fly.take i ++ l :: n.fly.drop (i + 1) := by rw [← hl, ← List.drop_eq_getElem_cons hi, List.take_append_drop]
  rw [hl]
  have hsub : ∀ q, q ∈ n.fly.take i ++ n.fly.drop (i + 1) → q ∈ n.fly := fun q hq => by
    rcases List.mem_append.1 hq with h1 | h1
    · exact List.mem_of_mem_take h1
    · exact List.mem_of_mem_drop h1
  have hback : ∀ q, q ∈ n.fly → q = l ∨ q ∈ n.fly.take i ++ n.fly.drop (i + 1) := fun q hq => by
    rw [hsplit] at hq
    rcases List.mem_append.1 hq with h1 | h1
    · exact Or.inr (List.mem_append.2 (Or.inl h1))
    · rcases List.mem_cons.1 h1 with h1 | h1
      · exact Or.inl h1
      · exact Or.inr (List.mem_append.2 (Or.inr h1))
  obtain ⟨hx, s0, hs0, hlt⟩ := h.fly l hlm
  unfold cameP
  by_cases hc : ((dropP n i).came l.f l.t l.s).isSome = true
  · rw [if_pos hc]
    have hc' : (n.came l.f l.t l.s).isSome = true := hc
    refine ⟨fun q hq => h.fly q (hsub q hq), h.came, fun a c s hs => ?_⟩
    rcases h.all a c s hs with h1 | h1
    · rcases hback _ h1 with e | h2
      · obtain ⟨l', hl'⟩ := Option.isSome_iff_exists.1 hc'
        have h3 := (h.came _ _ _ _ hl').1
        rw [← e] at hl' h3
        rw [h3] at hl'
        exact Or.inr hl'
      · exact Or.inl h2
    · exact Or.inr h1
  · rw [if_neg hc]
    refine ⟨fun q hq => h.fly q (hsub q hq), fun a c s q hq => ?_, fun a c s hs => ?_⟩
    · have hq' : (if a = l.f ∧ c = l.t ∧ s = l.s then some l else n.came a c s) = some q := hq
      by_cases e : a = l.f ∧ c = l.t ∧ s = l.s
      · rw [if_pos e] at hq'
        obtain rfl := Option.some.inj hq'
        obtain ⟨rfl, rfl, rfl⟩ := e
        refine ⟨?_, s0, hs0, hlt⟩
        rw [← hx]
      · rw [if_neg e] at hq'
        exact h.came a c s q hq'
    · rcases h.all a c s hs with h1 | h1
      · rcases hback _ h1 with e | h2
        · refine Or.inr ?_
          show (if a = l.f ∧ c = l.t ∧ (s : Int) = l.s then some l else n.came a c s) = _
          rw [if_pos (by rw [← e]; exact ⟨rfl, rfl, rfl⟩), ← e]
        · exact Or.inl h2
      · refine Or.inr ?_
        show (if a = l.f ∧ c = l.t ∧ (s : Int) = l.s then some l else n.came a c s) = _
        rw [if_neg (fun e => hc (by show (n.came l.f l.t l.s).isSome = true; rw [← e.1, ← e.2.1, ← e.2.2, h1]; rfl))]
        exact h1
/-- What an inbox holds once nothing flies. -/
def allL (sent : Int → Int → Nat) (T : Int → Int → Int → ByteArray) (c : Int) (k : Nat) : List Let :=
  (List.range k).flatMap fun (a : Nat) => (List.range (sent a c)).map fun (s : Nat) => ⟨a, c, s, T a c s⟩
theorem Full.inbox {n : NetP} {T : Int → Int → Int → ByteArray} (h : Full n T) (h0 : n.fly = []) (c : Int) (k : Nat) : inboxL n c k = allL n.sent T c k := by
  unfold inboxL allL
  refine congrArg (fun f => (List.range k).flatMap f) (funext fun a => ?_)
  unfold inRow
  have hall : ∀ s, s ∈ List.range (n.sent a c) → n.came a c (s : Nat) = some ⟨a, c, s, T a c s⟩ := fun s hs => by
    rcases h.all a c s (List.mem_range.1 hs) with h1 | h1
    · rw [h0] at h1; cases h1
    · exact h1
  generalize List.range (n.sent a c) = L at hall
  induction L with
  | nil => rfl
  | cons s t ih =>
    rw [List.filterMap_cons, hall s (List.mem_cons_self ..), List.map_cons, ih (fun q hq => hall q (List.mem_cons_of_mem _ hq))]
end

section
open Go.RowKit

theorem newk_b {w : World} {base : Nat} (hbase : base ≤ w.heap.size) (k : Nat) (h1 : 1 ≤ k) (h2 : k ≤ 64) :
    Calls Tryd.prog 27 #[.int .i64 k] w fun e w' => ∃ v, e = .returned (.tuple #[v, .nilIface]) ∧ NewB base 0 (freshP k) w v w' := by
  refine (netNew_any k w).mono ?_
  rintro e w2 ⟨hb2, ⟨j, p, hj, _, _, rfl, hN⟩ | ⟨h0, _⟩⟩
  case inr => omega
  obtain rfl : j = k := by omega
  obtain ⟨b, mb, cb, v1, F1, G1, rfl, hN1⟩ := hN
  exact ⟨_, rfl, b, _, rfl, ⟨mb, cb, v1, F1, G1, hN1.less hbase, rfl⟩, fun k hk => (hN1.foot hk).1, hb2⟩
/-- What a call of a net leaves. -/
def StepB (base N : Nat) (n : NetP) (code : Int) (b : Nat) (R : Nat → Prop) (w : World) (e : Ending) (w' : World) : Prop :=
  ∃ u, e = .returned u ∧ ErrAs code w' u ∧ ∃ R', NetB w' base N n b R' ∧ Fr w.heap.size R w w' ∧ (∀ k, R' k → R k ∨ w.heap.size ≤ k) ∧ Below base w w'
theorem stepB_of {w w' : World} {base N M : Nat} {n n' : NetP} {code : Int} {b mb cb : Nat} {v : Value} {F G : Value → Option Value} {e : Ending} (h : NetIn w base N n b mb cb v F G) (hbase : base ≤ w.heap.size) (hs : ∃ u, e = .returned u ∧ ErrAs code w' u ∧ Left w base M n' b mb cb v w') :
    StepB base M n' code b (Foot b mb cb v) w e w' := by
  obtain ⟨u, rfl, he, hl⟩ := hs
  have hgo := hl.go h hbase
  obtain ⟨v', F', G', hN', hf, hv⟩ := hl
  refine ⟨u, rfl, he, _, ⟨mb, cb, v', F', G', hN', rfl⟩, hf, ?_, hgo⟩
  rintro k (rfl | rfl | rfl | hk)
  · exact Or.inl (Or.inl rfl)
  · exact Or.inl (Or.inr (Or.inl rfl))
  · exact Or.inl (Or.inr (Or.inr (Or.inl rfl)))
  · rcases hv with e | ⟨j, e, hj⟩
    · exact Or.inl (Or.inr (Or.inr (Or.inr (by rw [← e]; exact hk))))
    · rw [e] at hk
      injection hk with hk
      exact Or.inr (by omega)
theorem double_b {w : World} {base N M : Nat} {n : NetP} {b : Nat} {R : Nat → Prop} (h : NetB w base N n b R) (g : Good n M) (hM : M ≤ 1000) (hbase : base ≤ w.heap.size) (a c : Int) (x : ByteArray) :
    Calls Tryd.prog 36 #[.pointer (some ⟨b, 0, none⟩), .int .i64 a] w (StepB base (N + 1) (stepP n 1 a c x).1 (stepP n 1 a c x).2 b R w) := by
  obtain ⟨mb, cb, v, F, G, h, rfl⟩ := h
  exact (double_step h g hM a c x).mono fun e w' hs => stepB_of h hbase hs
theorem deliver_b {w : World} {base N M : Nat} {n : NetP} {b : Nat} {R : Nat → Prop} (h : NetB w base N n b R) (g : Good n M) (hM : M ≤ 1000) (hN : N ≤ 1000) (hbase : base ≤ w.heap.size) (a c : Int) (x : ByteArray) :
    Calls Tryd.prog 35 #[.pointer (some ⟨b, 0, none⟩), .int .i64 a] w (StepB base (N + 1) (stepP n 2 a c x).1 (stepP n 2 a c x).2 b R w) := by
  obtain ⟨mb, cb, v, F, G, h, rfl⟩ := h
  exact (deliver_step h g hM hN 2 a c x (by decide) (by decide)).mono fun e w' hs => stepB_of h hbase hs
/-- Double and Deliver keep what was sent. -/
theorem Full.double {n : NetP} {T : Int → Int → Int → ByteArray} (h : Full n T) (a c : Int) (x : ByteArray) : Full (stepP n 1 a c x).1 T ∧ (stepP n 1 a c x).1.sent = n.sent := by
  unfold stepP
  rw [if_neg (by decide)]
  split
  · rw [if_pos rfl]
    exact ⟨h.dup (List.getElem_mem _), rfl⟩
  · exact ⟨h, rfl⟩
theorem cameP_sent (n : NetP) (l : Let) : (cameP n l).sent = n.sent := by
  unfold cameP
  split <;> rfl
theorem Full.come {n : NetP} {T : Int → Int → Int → ByteArray} (h : Full n T) (a c : Int) (x : ByteArray) : Full (stepP n 2 a c x).1 T ∧ (stepP n 2 a c x).1.sent = n.sent := by
  unfold stepP
  rw [if_neg (by decide)]
  split
  · rename_i hh
    rw [if_neg (by decide)]
    exact ⟨h.deliver a.toNat (by omega), cameP_sent _ _⟩
  · exact ⟨h, rfl⟩
end

section
/-- Neighbours of one sender have numbers one apart. -/
def Nb (L : List Let) : Prop := ∀ (i : Nat) (l l' : Let), L[i]? = some l → L[i + 1]? = some l' → l.f = l'.f → l'.s = l.s + 1
theorem Nb.app {A B : List Let} (hA : Nb A) (hB : Nb B) (hd : ∀ l ∈ A, ∀ l' ∈ B, l.f ≠ l'.f) : Nb (A ++ B) := by
  intro i l l' h1 h2 hf
  rcases Nat.lt_trichotomy (i + 1) A.length with h | h | h
  · rw [List.getElem?_append_left (by omega)] at h1 h2
    exact hA i l l' h1 h2 hf
  · rw [List.getElem?_append_left (by omega)] at h1
    rw [List.getElem?_append_right (by omega)] at h2
    exact absurd hf (hd l (List.mem_of_getElem? h1) l' (List.mem_of_getElem? h2))
  · rw [List.getElem?_append_right (by omega)] at h1 h2
    rw [show i + 1 - A.length = (i - A.length) + 1 by omega] at h2
    exact hB (i - A.length) l l' h1 h2 hf
theorem Nb.row (a c : Int) (T : Int → Int → Int → ByteArray) (j : Nat) : Nb ((List.range j).map fun (s : Nat) => (⟨a, c, s, T a c s⟩ : Let)) := by
  intro i l l' h1 h2 _
  rw [List.getElem?_map] at h1 h2
  obtain ⟨s, hs, rfl⟩ := Option.map_eq_some_iff.1 h1
  obtain ⟨s', hs', rfl⟩ := Option.map_eq_some_iff.1 h2
  obtain ⟨_, e1⟩ := List.getElem?_eq_some_iff.1 hs
  obtain ⟨_, e2⟩ := List.getElem?_eq_some_iff.1 hs'
  rw [List.getElem_range] at e1 e2
  subst e1 e2
  show ((i + 1 : Nat) : Int) = (i : Int) + 1
  omega
theorem allL_succ (sent : Int → Int → Nat) (T : Int → Int → Int → ByteArray) (c : Int) (k : Nat) : allL sent T c (k + 1) = allL sent T c k ++ (List.range (sent k c)).map fun (s : Nat) => (⟨k, c, s, T k c s⟩ : Let) := by
  unfold allL
  rw [List.range_succ, List.flatMap_append]
  simp
theorem allL_low (sent : Int → Int → Nat) (T : Int → Int → Int → ByteArray) (c : Int) : ∀ (k : Nat) (l : Let), l ∈ allL sent T c k → l.f < k
  | 0, l, h => by simp [allL] at h
  | k + 1, l, h => by
    rw [allL_succ] at h
    rcases List.mem_append.1 h with h | h
    · have := allL_low sent T c k l h; omega
    · obtain ⟨s, _, rfl⟩ := List.mem_map.1 h
      show (k : Int) < ((k + 1 : Nat) : Int)
      omega
theorem allL_nb (sent : Int → Int → Nat) (T : Int → Int → Int → ByteArray) (c : Int) : ∀ k : Nat, Nb (allL sent T c k)
  | 0 => fun i l l' h1 _ _ => by simp [allL] at h1
  | k + 1 => by
    rw [allL_succ]
    refine (allL_nb sent T c k).app (Nb.row k c T _) (fun l hl l' hl' e => ?_)
    have h1 := allL_low sent T c k l hl
    obtain ⟨s, _, rfl⟩ := List.mem_map.1 hl'
    have e' : l.f = (k : Int) := e
    omega
end
end Go.Proofs.YtlopoddllfkkfaaDoor
