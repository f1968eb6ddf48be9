/- Edges compared. -/
import Derived.Test.YtgolcogigpnbeaaGreatDoorPairsV
import Derived.Laws.StructEq
namespace Go.Proofs.YtgolcogigpnbeaaGreatDoor
open Go.RowKit

theorem part_int (xs : Array Value) (i : Nat) (v : Value) (w : World) (h : xs[i]? = some v) : (part 3 xs i).run Tryz.prog w = .ok v w := by
  simp [part, h]
theorem fields_eq (a b c d : Int) (n1 n2 : String) (h1 : n1 ≠ "_") (h2 : n2 ≠ "_") (t1 t2 p1 p2 : String) (b1 b2 : Nat) (w : World) :
    (Op.eqFields 9999 #[.int .i64 a, .int .i64 b] #[.int .i64 c, .int .i64 d] [⟨n1, 3, 0, false, t1, p1, b1⟩, ⟨n2, 3, 1, false, t2, p2, b2⟩]).run Tryz.prog w = .ok (decide ((a, b) = (c, d))) w := by
  have e1 := run_equalIn_int (P := Tryz.prog) w 9998 3 .i64 .i64 a c Tryz.underlying3
  have e2 := run_equalIn_int (P := Tryz.prog) w 9998 3 .i64 .i64 b d Tryz.underlying3
  have g1 := part_int #[.int .i64 a, .int .i64 b] 0 (.int .i64 a) w rfl
  have g2 := part_int #[.int .i64 a, .int .i64 b] 1 (.int .i64 b) w rfl
  have g3 := part_int #[.int .i64 c, .int .i64 d] 0 (.int .i64 c) w rfl
  have g4 := part_int #[.int .i64 c, .int .i64 d] 1 (.int .i64 d) w rfl
  simp only [Nat.reduceAdd] at e1 e2
  unfold Op.eqFields
  rw [if_pos h1]
  simp only [Sem.run_bind, g1, g3, Result.andThen_ok, e1]
  by_cases k1 : a = c
  · subst k1
    simp only [beq_self_eq_true, Bool.not_true, Bool.false_eq_true, if_false]
    unfold Op.eqFields
    rw [if_pos h2]
    simp only [Sem.run_bind, g2, g4, Result.andThen_ok, e2]
    by_cases k2 : b = d
    · subst k2
      simp [Op.eqFields]
    · simp [k2]
  · simp [k1]
theorem eql_edge (a b c d : Int) (w : World) : (binOp .eql 62 (.agg #[.int .i64 a, .int .i64 b]) (.agg #[.int .i64 c, .int .i64 d])).run Tryz.prog w = .ok (.bool (decide ((a, b) = (c, d)))) w := by
  rw [run_eql_struct, run_equalIn_struct _ 9999 _ _ _ (by kernel_rfl) (by kernel_rfl)]
  simp only [Program.fieldsOf, Tryz.underlying62]
  rw [fields_eq a b c d "A" "B" (by decide) (by decide), Result.andThen_ok]
theorem neq_edge (a b c d : Int) (w : World) : (binOp .neq 62 (.agg #[.int .i64 a, .int .i64 b]) (.agg #[.int .i64 c, .int .i64 d])).run Tryz.prog w = .ok (.bool (!decide ((a, b) = (c, d)))) w := by
  rw [run_neq_struct, run_equalIn_struct _ 9999 _ _ _ (by kernel_rfl) (by kernel_rfl)]
  simp only [Program.fieldsOf, Tryz.underlying62]
  rw [fields_eq a b c d "A" "B" (by decide) (by decide), Result.andThen_ok]
theorem eql_refEdge (a b c d : Int) (w : World) : (binOp .eql 66 (.agg #[.int .i64 a, .int .i64 b]) (.agg #[.int .i64 c, .int .i64 d])).run Tryz.prog w = .ok (.bool (decide ((a, b) = (c, d)))) w := by
  rw [run_eql_struct, run_equalIn_struct _ 9999 _ _ _ (by kernel_rfl) (by kernel_rfl)]
  simp only [Program.fieldsOf, Tryz.underlying66]
  rw [fields_eq a b c d "A" "B" (by decide) (by decide), Result.andThen_ok]
theorem neq_refEdge (a b c d : Int) (w : World) : (binOp .neq 66 (.agg #[.int .i64 a, .int .i64 b]) (.agg #[.int .i64 c, .int .i64 d])).run Tryz.prog w = .ok (.bool (!decide ((a, b) = (c, d)))) w := by
  rw [run_neq_struct, run_equalIn_struct _ 9999 _ _ _ (by kernel_rfl) (by kernel_rfl)]
  simp only [Program.fieldsOf, Tryz.underlying66]
  rw [fields_eq a b c d "A" "B" (by decide) (by decide), Result.andThen_ok]
theorem guard_edge (op : BinOp) (x y : Operand) (xs ys : Array Value) (w : World) : (eqGuard op 62 x y (.agg xs) (.agg ys)).run Tryz.prog w = .ok () w := run_eqGuard_agg w op _ x y xs ys (by kernel_rfl)
theorem guard_refEdge (op : BinOp) (x y : Operand) (xs ys : Array Value) (w : World) : (eqGuard op 66 x y (.agg xs) (.agg ys)).run Tryz.prog w = .ok () w := run_eqGuard_agg w op _ x y xs ys (by kernel_rfl)
theorem drew_more (w : World) (a b : Nat) : ∃ q, (w.drewN a).drewN b = w.drewN q := ⟨a + b, by simp [World.drewN, Nat.add_assoc]⟩
end Go.Proofs.YtgolcogigpnbeaaGreatDoor
