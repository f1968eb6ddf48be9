/- What of memory a net's calls may turn; what a send makes. -/
import Derived.Test.YtlopoddllfkkfaaDoorNetRd
import Derived.Test.YtlopoddllfkkfaaDoorMapE
import Derived.Test.YtlopoddllfkkfaaDoorReads5
namespace Go.Proofs.YtlopoddllfkkfaaDoor
open Go.RowKit

/-- Of the blocks below n, only those of R have turned. -/
structure Fr (n : Nat) (R : Nat → Prop) (w w' : World) : Prop where
  os : w'.os = w.os
  tape : w'.tape = w.tape
  output : w'.output = w.output
  size : w.heap.size ≤ w'.heap.size
  block : ∀ k, k < n → ¬ R k → w'.heap[k]? = w.heap[k]?
theorem Fr.refl (n : Nat) (R : Nat → Prop) (w : World) : Fr n R w w := ⟨rfl, rfl, rfl, Nat.le_refl _, fun _ _ _ => rfl⟩
theorem Fr.trans {n : Nat} {R : Nat → Prop} {w w1 w2 : World} (h : Fr n R w w1) (k : Fr n R w1 w2) : Fr n R w w2 :=
  ⟨k.os.trans h.os, k.tape.trans h.tape, k.output.trans h.output, Nat.le_trans h.size k.size, fun i hi hr => (k.block i hi hr).trans (h.block i hi hr)⟩
theorem Fr.of_below {n B : Nat} {R : Nat → Prop} {w w' : World} (h : Below B w w') (hB : n ≤ B) : Fr n R w w' := ⟨h.os, h.tape, h.output, h.size, fun k hk _ => h.block k (by omega)⟩
theorem Fr.of_grown {n : Nat} {R : Nat → Prop} {w w' : World} {r : Option Nat} (h : w.grownBy w' r) (hn : n ≤ w.heap.size) (hr : ∀ k, r = some k → k < n → R k) : Fr n R w w' :=
  ⟨h.os, h.tape, h.output, h.size, fun k hk hk2 => h.block k (by omega) (fun e => hk2 (hr k e.symm hk))⟩
theorem Fr.below {n base : Nat} {R : Nat → Prop} {w w' : World} (h : Fr n R w w') (hb : base ≤ n) (hR : ∀ k, R k → base ≤ k) : Below base w w' :=
  ⟨h.os, h.tape, h.output, h.size, fun k hk => h.block k (by omega) (fun hr => by have := hR k hr; omega)⟩
theorem Fr.mono {n : Nat} {R R' : Nat → Prop} {w w' : World} (h : Fr n R w w') (hR : ∀ k, k < n → R k → R' k) : Fr n R' w w' :=
  ⟨h.os, h.tape, h.output, h.size, fun k hk hr => h.block k hk (fun x => hr (hR k hk x))⟩
theorem grown_cell (w : World) (g o : Nat) (u : Value) : w.grownBy (w.setCell ⟨g, o, none⟩ u) (some g) := grown_setCells w g o [u]
/-- The blocks of a net. -/
def Foot (b mb cb : Nat) (v : Value) (k : Nat) : Prop := k = b ∨ k = mb ∨ k = cb ∨ v.ownBlock = some k
theorem NetIn.foot {w : World} {base N : Nat} {n : NetP} {b mb cb : Nat} {v : Value} {F G : Value → Option Value} (h : NetIn w base N n b mb cb v F G) {k : Nat} (hk : Foot b mb cb v k) : base ≤ k ∧ k < w.heap.size := by
  rcases hk with rfl | rfl | rfl | hk
  · exact ⟨h.bb, h.whole.lt⟩
  · exact ⟨h.bm, h.sent.lt⟩
  · exact ⟨h.bc, h.came.lt⟩
  · exact h.fly.own hk
/-- A net whose blocks have not turned. -/
theorem NetIn.apart {w w' : World} {base N m : Nat} {n : NetP} {b mb cb : Nat} {v : Value} {F G : Value → Option Value} {R : Nat → Prop} (h : NetIn w base N n b mb cb v F G) (hf : Fr m R w w') (hm : w.heap.size ≤ m) (hR : ∀ k, Foot b mb cb v k → ¬ R k) : NetIn w' base N n b mb cb v F G := by
  have hb : ∀ k, Foot b mb cb v k → w'.heap[k]? = w.heap[k]? := fun k hk => hf.block k (by have := (h.foot hk).2; omega) (hR k hk)
  refine { h with whole := (hb b (Or.inl rfl)).trans h.whole, fly := ?_, sent := h.sent.of_block (hb mb (Or.inr (Or.inl rfl))), came := h.came.of_block (hb cb (Or.inr (Or.inr (Or.inl rfl)))) }
  obtain ⟨A, c, e, hc, hfl⟩ := h.fly
  refine ⟨A, c, e, hc, ?_⟩
  rcases hfl with hfl | ⟨g, off, rfl, h1, h2, h3, h4⟩
  · exact Or.inl hfl
  · have hg := hb g (Or.inr (Or.inr (Or.inr (by rw [e]; rfl))))
    refine Or.inr ⟨g, off, rfl, h1, Nat.lt_of_lt_of_le h2 hf.size, fun j hj => ?_, fun j hj => ?_⟩
    · rw [World.cell?_of_block (a := ⟨g, off + j, none⟩) hg, World.frozen?_of_block (a := ⟨g, off + j, none⟩) hg]
      exact h3 j hj
    · rw [World.cell?_of_block (a := ⟨g, off + j, none⟩) hg]
      exact h4 j hj
/-- A letter sent. -/
def sendP (n : NetP) (a c : Int) (x : ByteArray) : NetP :=
  { n with fly := n.fly ++ [⟨a, c, n.sent a c, x⟩], sent := fun p q => if p = a ∧ q = c then n.sent a c + 1 else n.sent p q, miss := n.miss + 1 }
theorem hasB_in {k : Nat} {x : Int} (hk : k ≤ 64) (h : hasB k x = true) : In64 x ∧ 0 ≤ x ∧ x < 64 := by
  unfold hasB at h
  rw [Bool.and_eq_true, decide_eq_true_eq, decide_eq_true_eq] at h
  unfold In64
  omega
section
variable {P : Program}
theorem wp_of_append {o : Oper} {a : Act} {w : World} {K : Act → World → Prop} {Q : Exit → Act → World → Prop} (s x : Operand) (t : TypeId)
    (ho : o.op = .call { callee := .builtin .append, args := #[s, x], argTypes := #[t, t] }) (v u : Value) (hs : a.eval s = v) (hx : a.eval x = u) (v' : Value) (w' : World)
    (hr : (Builtin.append_ #[t, t] o.type #[v, u]).run P w = .ok v' w') (h : K (a.put o.dst v') w') : Oper.wp P o a w K Q := by
  unfold Oper.wp execOp
  simp only [ho, resolve, invoke, builtin, Sem.run_bind, Sem.run_pure, Result.andThen_ok, List.map_toArray, List.map_cons, List.map_nil, hs, hx, hr]
  exact h
end
end Go.Proofs.YtlopoddllfkkfaaDoor
