/- net: a net by its footprint; several nets beside each other. -/
import Derived.Test.YtbecgfeoacncdaaDoorClone19
import Derived.Test.YtbecgfeoacncdaaDoorLateP
namespace Go.Proofs.YtbecgfeoacncdaaDoor
open Go.RowKit

/-- A net and its blocks. -/
def NetB (w : World) (base N : Nat) (n : NetP) (b : Nat) (R : Nat → Prop) : Prop := ∃ mb cb v F G, NetIn w base N n b mb cb v F G ∧ R = Foot b mb cb v
theorem NetB.foot {w : World} {base N : Nat} {n : NetP} {b : Nat} {R : Nat → Prop} (h : NetB w base N n b R) {k : Nat} (hk : R k) : base ≤ k ∧ k < w.heap.size := by
  obtain ⟨mb, cb, v, F, G, h, rfl⟩ := h
  exact h.foot hk
theorem NetB.stay {w w' : World} {base N : Nat} {n : NetP} {b : Nat} {R R' : Nat → Prop} (h : NetB w base N n b R) (hf : Fr w.heap.size R' w w') (hs : ∀ k, R k → ¬ R' k) : NetB w' base N n b R := by
  obtain ⟨mb, cb, v, F, G, h, rfl⟩ := h
  exact ⟨mb, cb, v, F, G, h.apart hf (Nat.le_refl _) hs, rfl⟩
theorem NetB.below {w w' : World} {base N : Nat} {n : NetP} {b : Nat} {R : Nat → Prop} (h : NetB w base N n b R) (hb : Below w.heap.size w w') : NetB w' base N n b R := by
  obtain ⟨mb, cb, v, F, G, h, rfl⟩ := h
  exact ⟨mb, cb, v, F, G, h.below hb (Nat.le_refl _), rfl⟩
theorem NetB.at {w : World} {base N : Nat} {n : NetP} {b : Nat} {R : Nat → Prop} (h : NetB w base N n b R) : NetAt w base (.pointer (some ⟨b, 0, none⟩)) N n := by
  obtain ⟨mb, cb, v, F, G, h, rfl⟩ := h
  exact ⟨b, mb, cb, v, F, G, rfl, h⟩
theorem NetIn.less {w : World} {base base' N : Nat} {n : NetP} {b mb cb : Nat} {v : Value} {F G : Value → Option Value} (h : NetIn w base N n b mb cb v F G) (hb : base' ≤ base) : NetIn w base' N n b mb cb v F G := by
  obtain ⟨A, c, e, hc, hf⟩ := h.fly
  refine { h with bb := Nat.le_trans hb h.bb, bm := Nat.le_trans hb h.bm, bc := Nat.le_trans hb h.bc, fly := ⟨A, c, e, hc, ?_⟩ }
  rcases hf with hf | ⟨g, off, h1, h2, h3⟩
  · exact Or.inl hf
  · exact Or.inr ⟨g, off, h1, Nat.le_trans hb h2, h3⟩
/-- What a call leaves. -/
def DoB (base N : Nat) (n : NetP) (code : Int) (b : Nat) (R : Nat → Prop) (w : World) (e : Ending) (w' : World) : Prop :=
  e = .returned (.int .i64 code) ∧ ∃ R', NetB w' base N n b R' ∧ Fr w.heap.size R w w' ∧ (∀ k, R' k → R k ∨ w.heap.size ≤ k) ∧ Below base w w'
theorem do_b {w : World} {base N M : Nat} {n : NetP} {b : Nat} {R : Nat → Prop} (h : NetB w base N n b R) (g : Good n M) (hM : M ≤ 1000) (hN : N ≤ 1000) (hbase : base ≤ w.heap.size) (hg : ∀ W, Below base w W → ErrT W) (kind a c : Int) (x : ByteArray) :
    Calls Tryd.prog 13 #[.pointer (some ⟨b, 0, none⟩), .agg #[.int .i64 kind, .int .i64 a, .int .i64 c, .string x]] w (DoB base (N + 1) (stepP n kind a c x).1 (stepP n kind a c x).2 b R w) := by
  obtain ⟨mb, cb, v, F, G, h, rfl⟩ := h
  refine (do_any h g hM hN hbase hg kind a c x).mono ?_
  rintro e w' ⟨rfl, hl⟩
  have hgo := hl.go h hbase
  obtain ⟨v', F', G', hN', hf, hv⟩ := hl
  refine ⟨rfl, _, ⟨mb, cb, v', F', G', hN', rfl⟩, hf, ?_, hgo⟩
  rintro k (rfl | rfl | rfl | hk)
  · exact Or.inl (Or.inl rfl)
  · exact Or.inl (Or.inr (Or.inl rfl))
  · exact Or.inl (Or.inr (Or.inr (Or.inl rfl)))
  · rcases hv with e | ⟨j, e, hj⟩
    · exact Or.inl (Or.inr (Or.inr (Or.inr (by rw [← e]; exact hk))))
    · rw [e] at hk
      injection hk with hk
      exact Or.inr (by omega)
/-- A net of new blocks. -/
def NewB (base N : Nat) (n : NetP) (w : World) (v : Value) (w' : World) : Prop := ∃ b R, v = .pointer (some ⟨b, 0, none⟩) ∧ NetB w' base N n b R ∧ (∀ k, R k → w.heap.size ≤ k) ∧ Below w.heap.size w w'
theorem clone_b {w : World} {base N : Nat} {n : NetP} {b : Nat} {R : Nat → Prop} (h : NetB w base N n b R) (hS : n.fly.length ≤ 1000000) (hbase : base ≤ w.heap.size) :
    Calls Tryd.prog 22 #[.pointer (some ⟨b, 0, none⟩)] w fun e w' => ∃ v, e = .returned v ∧ NewB base N n w v w' := by
  obtain ⟨mb, cb, v, F, G, h, rfl⟩ := h
  refine (clone_any h hS).mono ?_
  rintro e w' ⟨b2, mb2, cb2, v2, rfl, hN, hB⟩
  exact ⟨_, rfl, b2, _, rfl, ⟨mb2, cb2, v2, F, G, hN.less hbase, rfl⟩, fun k hk => (hN.foot hk).1, hB⟩
theorem new_b {w : World} {base : Nat} (hbase : base ≤ w.heap.size) :
    Calls Tryd.prog 10 #[.int .i64 3] w fun e w' => ∃ v, e = .returned (.tuple #[v, .nilIface]) ∧ NewB base 0 (freshP 3) w v w' := by
  refine (netNew_any 3 w).mono ?_
  rintro e w2 ⟨hb2, ⟨j, p, hj, _, _, rfl, hN⟩ | ⟨h0, _⟩⟩
  case inr => omega
  obtain rfl : j = 3 := by omega
  obtain ⟨b, mb, cb, v1, F1, G1, rfl, hN1⟩ := hN
  exact ⟨_, rfl, b, _, rfl, ⟨mb, cb, v1, F1, G1, hN1.less hbase, rfl⟩, fun k hk => (hN1.foot hk).1, hb2⟩
theorem next_b {w : World} {base N : Nat} {n : NetP} {b : Nat} {R : Nat → Prop} (h : NetB w base N n b R) (hbase : base ≤ w.heap.size) :
    Calls Tryd.prog 23 #[.pointer (some ⟨b, 0, none⟩)] w fun e w' => ∃ v, e = .returned v ∧ NewB base 0 (freshP n.k) w v w' := by
  obtain ⟨mb, cb, v, F, G, h, rfl⟩ := h
  refine (next_any h).mono ?_
  rintro e w2 ⟨p, rfl, hN, hb2⟩
  obtain ⟨b, mb, cb, v1, F1, G1, rfl, hN1⟩ := hN
  exact ⟨_, rfl, b, _, rfl, ⟨mb, cb, v1, F1, G1, hN1.less hbase, rfl⟩, fun k hk => (hN1.foot hk).1, hb2⟩
/-- Letters handed over: how many. -/
def LenTo (m : Nat) (w : World) (e : Ending) (w' : World) : Prop := ∃ A c, e = .returned (.slice A m c) ∧ Below w.heap.size w w'
theorem flying_b {w : World} {base N : Nat} {n : NetP} {b : Nat} {R : Nat → Prop} (h : NetB w base N n b R) (hS : n.fly.length ≤ 1000000) {m : Nat} (hm : n.fly.length = m) :
    Calls Tryd.prog 15 #[.pointer (some ⟨b, 0, none⟩)] w (LenTo m w) := by
  subst hm
  refine (flying_any h.at hS).mono ?_
  rintro e w' ⟨v', rfl, ho, hb⟩
  obtain ⟨A, c, rfl⟩ := own_form ho
  exact ⟨A, c, rfl, hb⟩
theorem inbox_b {w : World} {base N : Nat} {n : NetP} {b : Nat} {R : Nat → Prop} (h : NetB w base N n b R) (c : Int) (hk : n.k ≤ 64) (hc : hasB n.k c = true) (hsn : ∀ a, n.sent a c ≤ 1000) {m : Nat} (hm : (inboxL n c n.k).length = m) :
    Calls Tryd.prog 18 #[.pointer (some ⟨b, 0, none⟩), .int .i64 c] w (LenTo m w) := by
  subst hm
  obtain ⟨mb, cb, v, F, G, h, rfl⟩ := h
  refine (inbox_ok h c hk hc hsn).mono ?_
  rintro e w' ⟨u, rfl, hf, hb⟩
  obtain ⟨A, cc, rfl, _⟩ := hf
  exact ⟨A, cc, rfl, hb⟩
theorem missing_b {w : World} {base N : Nat} {n : NetP} {b : Nat} {R : Nat → Prop} (h : NetB w base N n b R) {m : Int} (hm : n.miss = m) :
    Calls Tryd.prog 16 #[.pointer (some ⟨b, 0, none⟩)] w fun e w' => e = .returned (.int .i64 m) ∧ w' = w := by
  subst hm
  exact missing_any h.at
/-- Calls one behind the other. -/
def runN (n : NetP) (L : List Let) : NetP := L.foldl (fun n l => (stepP n l.f l.t l.s l.x).1) n
theorem runN_snoc (n : NetP) (L : List Let) (l : Let) : runN n (L ++ [l]) = (stepP (runN n L) l.f l.t l.s l.x).1 := by
  unfold runN
  rw [List.foldl_append]
  rfl
theorem runN_k : ∀ (L : List Let) (n : NetP), (runN n L).k = n.k
  | [], _ => rfl
  | l :: t, n => by
    show (runN (stepP n l.f l.t l.s l.x).1 t).k = n.k
    rw [runN_k t, stepP_k]
end Go.Proofs.YtbecgfeoacncdaaDoor
