/- s[1:] of a slice of numbers. -/
import Derived.Test.YtocpjmjlmccolaaRef06b
import Derived.Laws.Slices
namespace Go.Proofs.Ytocpjmjlmccolaa
open Go.RowKit

theorem slice_from1 (b o m c : Nat) (h : ¬ c = 1) (W : World) : (Instr.slice 22 (.slice (some ⟨b, o, none⟩) (m + 1) c) (some (.int .i64 1)) none none).run Try.prog W = .ok (.slice (some ⟨b, o + 1, none⟩) m (c - 1)) W := by
  have h1 : (1 : Int) ≤ ((m + 1 : Nat) : Int) := by omega
  rw [run_slice_l (P := Try.prog) W 22 (some ⟨b, o, none⟩) (m + 1) c (by kernel_rfl) .i64 1 (by decide) (by simpa using h1)]
  have e : Try.prog.elem 22 = 3 := by kernel_rfl
  rw [e]
  simp [go_sem, sliced, h, Addr.add]
theorem slice_from1c (b o m : Nat) (W : World) : (Instr.slice 22 (.slice (some ⟨b, o, none⟩) (m + 1) 1) (some (.int .i64 1)) none none).run Try.prog W = .ok (.slice (some ⟨b, o, none⟩) m 0) W := by
  have h1 : (1 : Int) ≤ ((m + 1 : Nat) : Int) := by omega
  rw [run_slice_l (P := Try.prog) W 22 (some ⟨b, o, none⟩) (m + 1) 1 (by kernel_rfl) .i64 1 (by decide) (by simpa using h1)]
  have e : Try.prog.elem 22 = 3 := by kernel_rfl
  rw [e]
  simp [go_sem, sliced]
end Go.Proofs.Ytocpjmjlmccolaa
