/- net: blocks beside a net stay. -/
import Derived.Test.YtbecgfeoacncdaaDoorDo19
namespace Go.Proofs.YtbecgfeoacncdaaDoor
open Go.RowKit

/-- A block that is none of a net's. -/
def Beside (w : World) (b mb cb : Nat) (v : Value) (g : Nat) : Prop := g < w.heap.size ∧ ∀ k, Foot b mb cb v k → k ≠ g
theorem Left.beside {w w' : World} {base N : Nat} {n : NetP} {b mb cb : Nat} {v : Value} {g : Nat} (hl : Left w base N n b mb cb v w') (hg : Beside w b mb cb v g) :
    ∃ v' F' G', NetIn w' base N n b mb cb v' F' G' ∧ w'.heap[g]? = w.heap[g]? ∧ Beside w' b mb cb v' g := by
  obtain ⟨v', F', G', hN, hf, hv⟩ := hl
  refine ⟨v', F', G', hN, hf.block g hg.1 (fun h => hg.2 g h rfl), Nat.lt_of_lt_of_le hg.1 hf.size, fun k hk => ?_⟩
  rcases hk with rfl | rfl | rfl | hk
  · exact hg.2 _ (Or.inl rfl)
  · exact hg.2 _ (Or.inr (Or.inl rfl))
  · exact hg.2 _ (Or.inr (Or.inr (Or.inl rfl)))
  · rcases hv with e | ⟨j, e, hj⟩
    · exact hg.2 _ (Or.inr (Or.inr (Or.inr (by rw [← e]; exact hk))))
    · rw [e] at hk
      injection hk with hk
      have := hg.1
      omega
theorem Beside.below {w w' : World} {b mb cb : Nat} {v : Value} {g : Nat} (h : Beside w b mb cb v g) (hb : Below w.heap.size w w') : Beside w' b mb cb v g := ⟨Nat.lt_of_lt_of_le h.1 hb.size, h.2⟩
theorem LetsAt.stay {w w' : World} {v : Value} {S : List Let} (h : LetsAt w v S) (hb : ∀ g, v.ownBlock = some g → w'.heap[g]? = w.heap[g]?) : LetsAt w' v S := by
  obtain ⟨A, c, rfl, hc, h⟩ := h
  refine ⟨A, c, rfl, hc, ?_⟩
  rcases h with h | ⟨b, off, rfl, hx⟩
  · exact Or.inl h
  · refine Or.inr ⟨b, off, rfl, fun j hj => ?_⟩
    rw [← hx j hj]
    exact World.cell?_of_block (hb b rfl)
end Go.Proofs.YtbecgfeoacncdaaDoor
