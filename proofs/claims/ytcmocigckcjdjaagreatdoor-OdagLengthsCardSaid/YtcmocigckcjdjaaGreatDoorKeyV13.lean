/- What reads as a key that is a link. -/
import Derived.Test.YtcmocigckcjdjaaGreatDoorKeyL13
namespace Go.Proofs.YtcmocigckcjdjaaGreatDoor
open Go.RowKit

theorem in64_wf {x : Int} (h : (Lit.int .i64 x).wf = true) : In64 x := by simpa [In64, Lit.wf, IntKind.min, IntKind.max, IntKind.signed, IntKind.bits] using h
set_option maxRecDepth 100000 in
theorem key_inv {v : Value} {kl : Lit} (h : keyOf Tryz.prog 94 v = some kl) : ∃ e : Int × Int, In64 e.1 ∧ In64 e.2 ∧ v = edgeV e := by
  refine typesN13.elim fun m hm => ?_
  unfold keyOf at h
  rw [Tryz.underlying94, keyTypeL, hm] at h
  simp only [Bool.true_and] at h
  split at h
  · rename_i hf
    cases v with
    | agg cs =>
      have hs : cs.size = 2 := by
        simp only [Value.formed, Tryz.underlying94, cellsL, beq_iff_eq] at hf
        exact hf
      obtain ⟨l, rfl⟩ : ∃ l : List Value, cs = l.toArray := ⟨cs.toList, by simp⟩
      match l, hs with
      | [x, y], _ =>
        cases x <;> cases y <;> simp [Program.keyLits, Tryz.underlying94, Tryz.underlying3, Value.cells, cellsL, cellsI13] at h
        rename_i k1 a k2 c _
        rcases Decidable.em (k1 = IntKind.i64 ∧ (Lit.int .i64 a).wf = true) with h1 | h1
        · rcases Decidable.em (k2 = IntKind.i64 ∧ (Lit.int .i64 c).wf = true) with h2 | h2
          · exact ⟨(a, c), in64_wf h1.2, in64_wf h2.2, by rw [h1.1, h2.1]; rfl⟩
          · rw [if_pos h1, if_neg h2] at h; simp at h
        · rw [if_neg h1] at h; simp at h
    | _ => simp [Value.formed, Tryz.underlying94] at hf
  · cases h
end Go.Proofs.YtcmocigckcjdjaaGreatDoor
