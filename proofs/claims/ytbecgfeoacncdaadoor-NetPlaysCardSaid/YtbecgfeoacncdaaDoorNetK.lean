/- Keys of layer 19; letters compared. -/
import Derived.Test.YtbecgfeoacncdaaDoorMapF
import Derived.Test.YtbecgfeoacncdaaDoorLet
namespace Go.Proofs.YtbecgfeoacncdaaDoor
open Go.RowKit

def In64 (x : Int) : Prop := -9223372036854775808 ≤ x ∧ x ≤ 9223372036854775807
theorem wf_in64 {x : Int} (h : In64 x) : (Lit.int .i64 x).wf = true := Go.WalkArith.wf_i64 h
def routeV (a b : Int) : Value := .agg #[.int .i64 a, .int .i64 b]
def nameV (a b s : Int) : Value := .agg #[.int .i64 a, .int .i64 b, .int .i64 s]
theorem Tryd.laidOutN : laidOutB Tryd.prog = true := by kernel_rfl
theorem route_keyed : Go.Maps.Keyed Tryd.prog 70 := Go.Maps.Keyed.of_law (deep_law_laid Tryd.laidOutN (m := 10) (by omega) (of_decide_eq_true (by kernel_rfl)) (by kernel_rfl) (by kernel_rfl))
theorem name_keyed : Go.Maps.Keyed Tryd.prog 73 := Go.Maps.Keyed.of_law (deep_law_laid Tryd.laidOutN (m := 10) (by omega) (of_decide_eq_true (by kernel_rfl)) (by kernel_rfl) (by kernel_rfl))
theorem Tryd.typesN : ∃ m, Tryd.prog.types.size = m + 2 := ⟨Tryd.prog.types.size - 2, by have : (2 : Nat) ≤ Tryd.prog.types.size := of_decide_eq_true (by kernel_rfl); omega⟩
theorem Tryd.keyTypeR : Tryd.prog.keyType 70 = true := by kernel_rfl
theorem Tryd.keyTypeN : Tryd.prog.keyType 73 = true := by kernel_rfl
theorem Tryd.cellsR : Tryd.prog.cellsOf 70 = 2 := by kernel_rfl
theorem Tryd.cellsN : Tryd.prog.cellsOf 73 = 3 := by kernel_rfl
theorem Tryd.cellsI : Tryd.prog.cellsOf 3 = 1 := by kernel_rfl
theorem key_route {a b : Int} (h1 : In64 a) (h2 : In64 b) : ∃ kl, keyOf Tryd.prog 70 (routeV a b) = some kl := by
  obtain ⟨m, hm⟩ := Tryd.typesN
  have w1 := wf_in64 h1
  have w2 := wf_in64 h2
  have hf : (routeV a b).formed Tryd.prog 70 = true := by simp [routeV, Value.formed, Tryd.underlying70, Tryd.cellsR]
  unfold keyOf
  rw [Tryd.underlying70, Tryd.keyTypeR, hf, hm]
  simp [Program.keyLits, Tryd.underlying70, Tryd.underlying3, routeV, Value.cells, Tryd.cellsR, Tryd.cellsI, w1, w2]
theorem key_name {a b s : Int} (h1 : In64 a) (h2 : In64 b) (h3 : In64 s) : ∃ kl, keyOf Tryd.prog 73 (nameV a b s) = some kl := by
  obtain ⟨m, hm⟩ := Tryd.typesN
  have w1 := wf_in64 h1
  have w2 := wf_in64 h2
  have w3 := wf_in64 h3
  have hf : (nameV a b s).formed Tryd.prog 73 = true := by simp [nameV, Value.formed, Tryd.underlying73, Tryd.cellsN]
  unfold keyOf
  rw [Tryd.underlying73, Tryd.keyTypeN, hf, hm]
  simp [Program.keyLits, Tryd.underlying73, Tryd.underlying70, Tryd.underlying3, nameV, Value.cells, Tryd.cellsR, Tryd.cellsN, Tryd.cellsI, w1, w2, w3]
  split
  · exact ⟨_, rfl⟩
  · rename_i h
    refine absurd ?_ h
    intro i hi
    match i, hi with
    | 0, _ => simp
    | 1, _ => simp
theorem routeV_inj {a b c d : Int} (h : routeV a b = routeV c d) : a = c ∧ b = d := by
  simp [routeV] at h
  exact h
theorem nameV_inj {a b s c d r : Int} (h : nameV a b s = nameV c d r) : a = c ∧ b = d ∧ s = r := by
  simp [nameV] at h
  exact h
theorem zero_int (w : World) : (zeroValue 3).run Tryd.prog w = .ok (.int .i64 0) w := by kernel_rfl
def letZ : Let := ⟨0, 0, 0, ⟨#[]⟩⟩
theorem zero_let (w : World) : (zeroValue 50).run Tryd.prog w = .ok (letV letZ) w := by kernel_rfl
theorem Tryd.infoNL : (Tryd.prog.info? 50).map (fun i => (i.zero, i.size, i.bytes)) = some (some (letV letZ), 4, 40) := by kernel_rfl
theorem Tryd.infoRL : (Tryd.prog.info? 62).map (fun i => (i.zero, i.size, i.bytes)) = some (some (letV letZ), 4, 40) := by kernel_rfl
end Go.Proofs.YtbecgfeoacncdaaDoor
