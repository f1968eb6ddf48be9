/- A guarded operation that is wanted is carried out as one without a guard. -/
import Derived.Test.YtocpjmjlmccolaaProg
import Derived.WalkKit
namespace Go.Proofs.Ytocpjmjlmccolaa
theorem wpList_unguard {P : Program} {ops : Array Oper} {Q : Exit → Act → World → Prop} {a : Act} {w : World} {rest : List Oper} {d : Option Tmp} {op : Op} {ty : TypeId} {pos : String} {af : Array Edge} {gd : Nat × Bool}
    (hw : Region.wanted ⟨d, op, ty, pos, af, some gd⟩ (yielded ops a.tmps) = true) (h : wpList P ops Q (⟨d, op, ty, pos, af, none⟩ :: rest) a w) : wpList P ops Q (⟨d, op, ty, pos, af, some gd⟩ :: rest) a w := by
  have h2 : Region.wanted ⟨d, op, ty, pos, af, none⟩ (yielded ops a.tmps) = true := rfl
  simp only [wpList, hw, if_true]
  simp only [wpList, h2, if_true] at h
  exact h
end Go.Proofs.Ytocpjmjlmccolaa
