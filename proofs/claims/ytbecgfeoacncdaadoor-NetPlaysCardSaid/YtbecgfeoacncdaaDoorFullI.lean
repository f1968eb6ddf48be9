/- net: Full, with the count of what is missing. -/
import Derived.Test.YtbecgfeoacncdaaDoorNetC19
import Derived.Test.YtbecgfeoacncdaaDoorNbP
import Derived.Test.YtbecgfeoacncdaaDoorNumbP
namespace Go.Proofs.YtbecgfeoacncdaaDoor

/-- All that was sent flies or came, and what is missing is counted. -/
def FullI (n : NetP) (T : Int → Int → Int → ByteArray) : Prop := Full n T ∧ ∃ Ti Li, Inv n Ti Li
theorem FullI.fresh (k : Nat) : FullI (freshP k) (fun _ _ _ => ⟨#[]⟩) := ⟨Full.fresh k, _, _, Inv.fresh k⟩
theorem FullI.sends {n : NetP} {T : Int → Int → Int → ByteArray} (h : FullI n T) (a c : Int) (x : ByteArray) : ∃ T', FullI (stepP n 0 a c x).1 T' := by
  obtain ⟨hF, Ti, Li, hI⟩ := h
  obtain ⟨T2, L2, hI2, _⟩ := hI.step 0 a c x
  unfold stepP at hI2 ⊢
  rw [if_pos rfl] at hI2 ⊢
  split
  · rename_i hh
    rw [if_pos hh] at hI2
    exact ⟨_, hF.send a c x, _, _, hI2⟩
  · exact ⟨T, hF, Ti, Li, hI⟩
theorem FullI.double {n : NetP} {T : Int → Int → Int → ByteArray} (h : FullI n T) (a c : Int) (x : ByteArray) : FullI (stepP n 1 a c x).1 T ∧ (stepP n 1 a c x).1.sent = n.sent := by
  obtain ⟨hF, Ti, Li, hI⟩ := h
  obtain ⟨T2, L2, hI2, _⟩ := hI.step 1 a c x
  exact ⟨⟨(hF.double a c x).1, _, _, hI2⟩, (hF.double a c x).2⟩
theorem FullI.come {n : NetP} {T : Int → Int → Int → ByteArray} (h : FullI n T) (a c : Int) (x : ByteArray) : FullI (stepP n 2 a c x).1 T ∧ (stepP n 2 a c x).1.sent = n.sent := by
  obtain ⟨hF, Ti, Li, hI⟩ := h
  obtain ⟨T2, L2, hI2, _⟩ := hI.step 2 a c x
  exact ⟨⟨(hF.come a c x).1, _, _, hI2⟩, (hF.come a c x).2⟩
theorem FullI.quiet {n : NetP} {T : Int → Int → Int → ByteArray} (h : FullI n T) (h0 : n.fly = []) : n.miss = 0 := by
  obtain ⟨_, Ti, Li, hI⟩ := h
  exact hI.quiet (by rw [h0]; rfl)
end Go.Proofs.YtbecgfeoacncdaaDoor
