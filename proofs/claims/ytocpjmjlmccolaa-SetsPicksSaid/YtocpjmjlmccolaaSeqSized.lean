/- A slice of numbers that came in, as a list, with its size. -/
import Derived.Test.YtocpjmjlmccolaaSeqArg
import Derived.SizedLaws
import GoSem.ClaimJoined
namespace Go.Proofs.Ytocpjmjlmccolaa
open Go.ChangeShapes Go.WideShapes Go.RowKit

theorem seq_arg_sized {H : Type} {enc : TypeId × Value → H} {W : World} {base b0 : Nat} {r : Reach} {v : Value} {d : DataW H} {ps : List MemPlace} {ts : List TypeId} {ds : List (DataW H)} (hsz : (DataW.weightsEach Try.prog ts ds).all (· ≤ reachBytes) = true) {j : Nat} (ht : ts[j]? = some 22) (hd : ds[j]? = some d)
    (hv : Value.okWide Try.prog W r b0 22 v) (h : DataW.Trod enc Try.prog W base (fun _ => true) true 22 v d ps) : ∃ L, SeqV W v L ∧ L.length * 8 ≤ 140737488351232 := by
  obtain ⟨L, hL⟩ := seq_arg hv h
  refine ⟨L, hL, ?_⟩
  obtain ⟨A, c, rfl⟩ := IntsV.form hL
  obtain ⟨fuel, hf⟩ := h
  rcases open_ints Try.underlying22 Try.underlying3 (by kernel_rfl) hf with ⟨hcs, _⟩ | ⟨a, len', cap', zs, hcs, _, hl, _, hz, hx, _, _⟩
  · simp only [Value.cells, List.cons.injEq, Value.slice.injEq, and_true] at hcs
    rw [hcs.2.1]
    omega
  · simp [Value.cells] at hcs
    obtain ⟨rfl, rfl, rfl⟩ := hcs
    injection hx with hx _
    have hb : Try.prog.bytesOf 3 = 8 := by kernel_rfl
    have hs := sized_slice hsz ht (hd.trans (by rw [hx])) Try.underlying22
    rw [hb] at hs
    have hzl : L.length ≤ zs.length := by
      rw [hz]; split
      · exact hl
      · exact Nat.le_refl _
    simp [lits] at hs
    unfold reachBytes at hs
    omega
end Go.Proofs.Ytocpjmjlmccolaa
