/- net: New of any number; Double and Deliver, by footprints. -/
import Derived.Test.YtbecgfeoacncdaaDoorFullP
namespace Go.Proofs.YtbecgfeoacncdaaDoor
open Go.RowKit

theorem newk_b {w : World} {base : Nat} (hbase : base ≤ w.heap.size) (k : Nat) (h1 : 1 ≤ k) (h2 : k ≤ 64) :
    Calls Tryd.prog 10 #[.int .i64 k] w fun e w' => ∃ v, e = .returned (.tuple #[v, .nilIface]) ∧ NewB base 0 (freshP k) w v w' := by
  refine (netNew_any k w).mono ?_
  rintro e w2 ⟨hb2, ⟨j, p, hj, _, _, rfl, hN⟩ | ⟨h0, _⟩⟩
  case inr => omega
  obtain rfl : j = k := by omega
  obtain ⟨b, mb, cb, v1, F1, G1, rfl, hN1⟩ := hN
  exact ⟨_, rfl, b, _, rfl, ⟨mb, cb, v1, F1, G1, hN1.less hbase, rfl⟩, fun k hk => (hN1.foot hk).1, hb2⟩
/-- What a call of a net leaves. -/
def StepB (base N : Nat) (n : NetP) (code : Int) (b : Nat) (R : Nat → Prop) (w : World) (e : Ending) (w' : World) : Prop :=
  ∃ u, e = .returned u ∧ ErrAs code w' u ∧ ∃ R', NetB w' base N n b R' ∧ Fr w.heap.size R w w' ∧ (∀ k, R' k → R k ∨ w.heap.size ≤ k) ∧ Below base w w'
theorem stepB_of {w w' : World} {base N M : Nat} {n n' : NetP} {code : Int} {b mb cb : Nat} {v : Value} {F G : Value → Option Value} {e : Ending} (h : NetIn w base N n b mb cb v F G) (hbase : base ≤ w.heap.size) (hs : ∃ u, e = .returned u ∧ ErrAs code w' u ∧ Left w base M n' b mb cb v w') :
    StepB base M n' code b (Foot b mb cb v) w e w' := by
  obtain ⟨u, rfl, he, hl⟩ := hs
  have hgo := hl.go h hbase
  obtain ⟨v', F', G', hN', hf, hv⟩ := hl
  refine ⟨u, rfl, he, _, ⟨mb, cb, v', F', G', hN', rfl⟩, hf, ?_, hgo⟩
  rintro k (rfl | rfl | rfl | hk)
  · exact Or.inl (Or.inl rfl)
  · exact Or.inl (Or.inr (Or.inl rfl))
  · exact Or.inl (Or.inr (Or.inr (Or.inl rfl)))
  · rcases hv with e | ⟨j, e, hj⟩
    · exact Or.inl (Or.inr (Or.inr (Or.inr (by rw [← e]; exact hk))))
    · rw [e] at hk
      injection hk with hk
      exact Or.inr (by omega)
theorem double_b {w : World} {base N M : Nat} {n : NetP} {b : Nat} {R : Nat → Prop} (h : NetB w base N n b R) (g : Good n M) (hM : M ≤ 1000) (hbase : base ≤ w.heap.size) (a c : Int) (x : ByteArray) :
    Calls Tryd.prog 20 #[.pointer (some ⟨b, 0, none⟩), .int .i64 a] w (StepB base (N + 1) (stepP n 1 a c x).1 (stepP n 1 a c x).2 b R w) := by
  obtain ⟨mb, cb, v, F, G, h, rfl⟩ := h
  exact (double_step h g hM a c x).mono fun e w' hs => stepB_of h hbase hs
theorem deliver_b {w : World} {base N M : Nat} {n : NetP} {b : Nat} {R : Nat → Prop} (h : NetB w base N n b R) (g : Good n M) (hM : M ≤ 1000) (hN : N ≤ 1000) (hbase : base ≤ w.heap.size) (a c : Int) (x : ByteArray) :
    Calls Tryd.prog 21 #[.pointer (some ⟨b, 0, none⟩), .int .i64 a] w (StepB base (N + 1) (stepP n 2 a c x).1 (stepP n 2 a c x).2 b R w) := by
  obtain ⟨mb, cb, v, F, G, h, rfl⟩ := h
  exact (deliver_step h g hM hN 2 a c x (by decide) (by decide)).mono fun e w' hs => stepB_of h hbase hs
/-- Double and Deliver keep what was sent. -/
theorem Full.double {n : NetP} {T : Int → Int → Int → ByteArray} (h : Full n T) (a c : Int) (x : ByteArray) : Full (stepP n 1 a c x).1 T ∧ (stepP n 1 a c x).1.sent = n.sent := by
  unfold stepP
  rw [if_neg (by decide)]
  split
  · rw [if_pos rfl]
    exact ⟨h.dup (List.getElem_mem _), rfl⟩
  · exact ⟨h, rfl⟩
theorem cameP_sent (n : NetP) (l : Let) : (cameP n l).sent = n.sent := by
  unfold cameP
  split <;> rfl
theorem Full.come {n : NetP} {T : Int → Int → Int → ByteArray} (h : Full n T) (a c : Int) (x : ByteArray) : Full (stepP n 2 a c x).1 T ∧ (stepP n 2 a c x).1.sent = n.sent := by
  unfold stepP
  rw [if_neg (by decide)]
  split
  · rename_i hh
    rw [if_neg (by decide)]
    exact ⟨h.deliver a.toNat (by omega), cameP_sent _ _⟩
  · exact ⟨h, rfl⟩
end Go.Proofs.YtbecgfeoacncdaaDoor
