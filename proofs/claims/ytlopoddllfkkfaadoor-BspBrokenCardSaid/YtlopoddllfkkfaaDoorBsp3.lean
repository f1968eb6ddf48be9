/- A machine in memory. -/
import Derived.Test.YtlopoddllfkkfaaDoorBsp2
import Derived.Test.YtlopoddllfkkfaaDoorJB
import Derived.Test.YtlopoddllfkkfaaDoorJ8
namespace Go.Proofs.YtlopoddllfkkfaaDoor
open Go.RowKit

/-- A machine. -/
structure MP where
  k : Nat
  rd : Nat
  st : List ByteArray
  bx : List (List ByteArray)
  nx : List ByteArray
  wk : List Bool
  nt : NetP
def boolC (X : List Bool) : List Value := X.map .bool
theorem boolC_len (X : List Bool) : (boolC X).length = X.length := by simp [boolC]
theorem boolC_at {X : List Bool} {i : Nat} (h : i < X.length) : (boolC X)[i]? = some (.bool (X.getD i false)) := by
  simp [boolC, List.getD, h]
/-- Blocks that are read alone. -/
def Stat (sv : Value) (us : List Value) (g : Nat) : Prop := sv.ownBlock = some g ∨ ∃ (i : Nat) (u : Value), us[i]? = some u ∧ u.ownBlock = some g
/-- A machine in memory, its blocks named. -/
structure MachIn (w : World) (base N : Nat) (p : MP) (job : Value) (m nb wb ib b : Nat) (sv : Value) (us : List Value) (Rn : Nat → Prop) : Prop where
  bm : base ≤ m
  bn : base ≤ nb
  bw : base ≤ wb
  bi : base ≤ ib
  n1 : m ≠ nb
  n2 : m ≠ wb
  n3 : m ≠ ib
  n4 : nb ≠ wb
  n5 : nb ≠ ib
  n6 : wb ≠ ib
  rn : ∀ g, Rn g → g ≠ m ∧ g ≠ nb ∧ g ≠ wb ∧ g ≠ ib
  ss : ∀ g, Stat sv us g → base ≤ g ∧ g < w.heap.size ∧ g ≠ m ∧ g ≠ nb ∧ g ≠ wb ∧ g ≠ ib ∧ ¬ Rn g
  whole : Whole w m 68 #[job, .int .i64 p.rd, sv, .slice (some ⟨ib, 0, none⟩) p.k p.k, .slice (some ⟨nb, 0, none⟩) p.k p.k, .slice (some ⟨wb, 0, none⟩) p.k p.k, .pointer (some ⟨b, 0, none⟩)]
  next : Whole w nb 9 (txtC p.nx).toArray
  work : Whole w wb 4 (boolC p.wk).toArray
  rows : Whole w ib 22 us.toArray
  net : NetB w base N p.nt b Rn
  st : ValsV w sv (txtC p.st)
  bx : ∀ (i : Nat) (u : Value) (X : List ByteArray), us[i]? = some u → p.bx[i]? = some X → ValsV w u (txtC X)
  l1 : p.st.length = p.k
  l2 : p.bx.length = p.k
  l3 : us.length = p.k
  l4 : p.nx.length = p.k
  l5 : p.wk.length = p.k
  k1 : 1 ≤ p.k
  k2 : p.k ≤ 64
  nk : p.nt.k = p.k
def MFoot (m nb wb ib : Nat) (sv : Value) (us : List Value) (Rn : Nat → Prop) (g : Nat) : Prop := g = m ∨ g = nb ∨ g = wb ∨ g = ib ∨ Rn g ∨ Stat sv us g
theorem ValsV.stay {w w' : World} {v : Value} {us : List Value} (h : ValsV w v us) (hb : ∀ g, v.ownBlock = some g → w'.heap[g]? = w.heap[g]?) : ValsV w' v us := by
  rcases h with h | ⟨h0, b, off, cap, rfl, hc⟩
  · exact Or.inl h
  · refine Or.inr ⟨h0, b, off, cap, rfl, fun i hi => ?_⟩
    rw [← hc i hi]
    exact World.cell?_of_block (hb b rfl)
theorem Whole.stay {w w' : World} {g : Nat} {t : TypeId} {cs : Array Value} (h : Whole w g t cs) (hb : w'.heap[g]? = w.heap[g]?) : Whole w' g t cs := hb.trans h
theorem MachIn.foot {w : World} {base N : Nat} {p : MP} {job : Value} {m nb wb ib b : Nat} {sv : Value} {us : List Value} {Rn : Nat → Prop} (h : MachIn w base N p job m nb wb ib b sv us Rn) {g : Nat} (hg : MFoot m nb wb ib sv us Rn g) : base ≤ g ∧ g < w.heap.size := by
  rcases hg with rfl | rfl | rfl | rfl | hg | hg
  · exact ⟨h.bm, h.whole.lt⟩
  · exact ⟨h.bn, h.next.lt⟩
  · exact ⟨h.bw, h.work.lt⟩
  · exact ⟨h.bi, h.rows.lt⟩
  · exact h.net.foot hg
  · exact ⟨(h.ss g hg).1, (h.ss g hg).2.1⟩
/-- A machine whose blocks have not turned. -/
theorem MachIn.apart {w w' : World} {base N n : Nat} {p : MP} {job : Value} {m nb wb ib b : Nat} {sv : Value} {us : List Value} {Rn R : Nat → Prop} (h : MachIn w base N p job m nb wb ib b sv us Rn) (hf : Fr n R w w') (hn : w.heap.size ≤ n) (hR : ∀ g, MFoot m nb wb ib sv us Rn g → ¬ R g) : MachIn w' base N p job m nb wb ib b sv us Rn := by
  have hb : ∀ g, MFoot m nb wb ib sv us Rn g → w'.heap[g]? = w.heap[g]? := fun g hg => hf.block g (by have := (h.foot hg).2; omega) (hR g hg)
  refine { h with
    ss := fun g hg => ⟨(h.ss g hg).1, Nat.lt_of_lt_of_le (h.ss g hg).2.1 hf.size, (h.ss g hg).2.2⟩
    whole := h.whole.stay (hb m (Or.inl rfl))
    next := h.next.stay (hb nb (Or.inr (Or.inl rfl)))
    work := h.work.stay (hb wb (Or.inr (Or.inr (Or.inl rfl))))
    rows := h.rows.stay (hb ib (Or.inr (Or.inr (Or.inr (Or.inl rfl)))))
    net := h.net.stay (hf.less hn) (fun g hg => hR g (Or.inr (Or.inr (Or.inr (Or.inr (Or.inl hg))))))
    st := h.st.stay (fun g hg => hb g (Or.inr (Or.inr (Or.inr (Or.inr (Or.inr (Or.inl hg)))))))
    bx := fun i u X hu hX => (h.bx i u X hu hX).stay (fun g hg => hb g (Or.inr (Or.inr (Or.inr (Or.inr (Or.inr (Or.inr ⟨i, u, hu, hg⟩))))))) }
theorem MachIn.below {w w' : World} {base N : Nat} {p : MP} {job : Value} {m nb wb ib b : Nat} {sv : Value} {us : List Value} {Rn : Nat → Prop} (h : MachIn w base N p job m nb wb ib b sv us Rn) {B : Nat} (hb : Below B w w') (hB : w.heap.size ≤ B) : MachIn w' base N p job m nb wb ib b sv us Rn :=
  h.apart (Fr.of_below (R := fun _ => False) hb hB) (Nat.le_refl _) (fun _ _ h => h)
/-- The net turned. -/
theorem MachIn.setNet {w w' : World} {base N N' : Nat} {p : MP} {job : Value} {m nb wb ib b : Nat} {sv : Value} {us : List Value} {Rn Rn' : Nat → Prop} {n : NetP} (h : MachIn w base N p job m nb wb ib b sv us Rn) (hn : NetB w' base N' n b Rn') (hf : Fr w.heap.size Rn w w') (hs : ∀ k, Rn' k → Rn k ∨ w.heap.size ≤ k) (hk : n.k = p.k) : MachIn w' base N' { p with nt := n } job m nb wb ib b sv us Rn' := by
  have hb : ∀ g, g < w.heap.size → ¬ Rn g → w'.heap[g]? = w.heap[g]? := fun g h1 h2 => hf.block g h1 h2
  have r1 := fun g (hg : Rn g) => h.rn g hg
  have m1 := h.whole.lt
  have m2 := h.next.lt
  have m3 := h.work.lt
  have m4 := h.rows.lt
  exact { h with
    rn := fun g hg => by
      rcases hs g hg with h1 | h1
      · exact h.rn g h1
      · exact ⟨by omega, by omega, by omega, by omega⟩
    ss := fun g hg => by
      obtain ⟨a1, a2, a3, a4, a5, a6, a7⟩ := h.ss g hg
      refine ⟨a1, Nat.lt_of_lt_of_le a2 hf.size, a3, a4, a5, a6, fun hr => ?_⟩
      rcases hs g hr with h1 | h1
      · exact a7 h1
      · omega
    whole := h.whole.stay (hb m m1 (fun hr => (r1 m hr).1 rfl))
    next := h.next.stay (hb nb m2 (fun hr => (r1 nb hr).2.1 rfl))
    work := h.work.stay (hb wb m3 (fun hr => (r1 wb hr).2.2.1 rfl))
    rows := h.rows.stay (hb ib m4 (fun hr => (r1 ib hr).2.2.2 rfl))
    net := hn
    st := h.st.stay (fun g hg => hb g (h.ss g (Or.inl hg)).2.1 (h.ss g (Or.inl hg)).2.2.2.2.2.2)
    bx := fun i u X hu hX => (h.bx i u X hu hX).stay (fun g hg => hb g (h.ss g (Or.inr ⟨i, u, hu, hg⟩)).2.1 (h.ss g (Or.inr ⟨i, u, hu, hg⟩)).2.2.2.2.2.2)
    nk := hk }
theorem heap_setCell_ne (w : World) (g o : Nat) (u : Value) {k : Nat} (h0 : k < w.heap.size) (hk : k ≠ g) : (w.setCell ⟨g, o, none⟩ u).heap[k]? = w.heap[k]? := (grown_cell w g o u).block k h0 (fun h => hk (Option.some.inj h))
theorem txt_set (X : List ByteArray) (a : Nat) (s : ByteArray) : (txtC X).toArray.setIfInBounds a (.string s) = (txtC (X.set a s)).toArray := by
  simp [txtC, List.map_set]
theorem bool_set (X : List Bool) (a : Nat) (s : Bool) : (boolC X).toArray.setIfInBounds a (.bool s) = (boolC (X.set a s)).toArray := by
  simp [boolC, List.map_set]
end Go.Proofs.YtlopoddllfkkfaaDoor
