/- Letters compared. -/
import Derived.Test.YtbecgfeoacncdaaDoorLet
import Derived.Laws.StructEq
namespace Go.Proofs.YtbecgfeoacncdaaDoor
open Go.RowKit

/-- Are letters the same? -/
def eqLB (l q : Let) : Bool := l.f == q.f && (l.t == q.t && (l.s == q.s && l.x.toList == q.x.toList))
theorem eqLB_iff (l q : Let) : eqLB l q = true ↔ l = q := by
  unfold eqLB
  constructor
  · intro h
    simp only [Bool.and_eq_true, beq_iff_eq] at h
    refine Let.ext' h.1 h.2.1 h.2.2.1 ?_
    have h4 : l.x.toList = q.x.toList := h.2.2.2
    rw [ByteArray.toList_eq, ByteArray.toList_eq] at h4
    exact ByteArray.ext (Array.toList_inj.1 h4)
  · rintro rfl
    simp
theorem part_i (xs : Array Value) (i : Nat) (v : Value) (w : World) (h : xs[i]? = some v) : (part 3 xs i).run Tryd.prog w = .ok v w := by
  simp [part, h]
theorem part_s (xs : Array Value) (i : Nat) (v : Value) (w : World) (h : xs[i]? = some v) : (part 9 xs i).run Tryd.prog w = .ok v w := by
  simp [part, h]
theorem fields_let (l q : Let) (n1 n2 n3 n4 : String) (h1 : n1 ≠ "_") (h2 : n2 ≠ "_") (h3 : n3 ≠ "_") (h4 : n4 ≠ "_") (t1 t2 t3 t4 p1 p2 p3 p4 : String) (b1 b2 b3 b4 : Nat) (w : World) :
    (Op.eqFields 9999 #[.int .i64 l.f, .int .i64 l.t, .int .i64 l.s, .string l.x] #[.int .i64 q.f, .int .i64 q.t, .int .i64 q.s, .string q.x] [⟨n1, 3, 0, false, t1, p1, b1⟩, ⟨n2, 3, 1, false, t2, p2, b2⟩, ⟨n3, 3, 2, false, t3, p3, b3⟩, ⟨n4, 9, 3, false, t4, p4, b4⟩]).run Tryd.prog w = .ok (eqLB l q) w := by
  have e1 := run_equalIn_int (P := Tryd.prog) w 9998 3 .i64 .i64 l.f q.f Tryd.underlying3
  have e2 := run_equalIn_int (P := Tryd.prog) w 9998 3 .i64 .i64 l.t q.t Tryd.underlying3
  have e3 := run_equalIn_int (P := Tryd.prog) w 9998 3 .i64 .i64 l.s q.s Tryd.underlying3
  have e4 := run_equalIn_string (P := Tryd.prog) w 9998 9 l.x q.x Tryd.underlying9
  have a1 := part_i #[.int .i64 l.f, .int .i64 l.t, .int .i64 l.s, .string l.x] 0 (.int .i64 l.f) w rfl
  have a2 := part_i #[.int .i64 l.f, .int .i64 l.t, .int .i64 l.s, .string l.x] 1 (.int .i64 l.t) w rfl
  have a3 := part_i #[.int .i64 l.f, .int .i64 l.t, .int .i64 l.s, .string l.x] 2 (.int .i64 l.s) w rfl
  have a4 := part_s #[.int .i64 l.f, .int .i64 l.t, .int .i64 l.s, .string l.x] 3 (.string l.x) w rfl
  have c1 := part_i #[.int .i64 q.f, .int .i64 q.t, .int .i64 q.s, .string q.x] 0 (.int .i64 q.f) w rfl
  have c2 := part_i #[.int .i64 q.f, .int .i64 q.t, .int .i64 q.s, .string q.x] 1 (.int .i64 q.t) w rfl
  have c3 := part_i #[.int .i64 q.f, .int .i64 q.t, .int .i64 q.s, .string q.x] 2 (.int .i64 q.s) w rfl
  have c4 := part_s #[.int .i64 q.f, .int .i64 q.t, .int .i64 q.s, .string q.x] 3 (.string q.x) w rfl
  simp only [Nat.reduceAdd] at e1 e2 e3 e4
  unfold eqLB
  unfold Op.eqFields
  rw [if_pos h1]
  simp only [Sem.run_bind, a1, c1, Result.andThen_ok, e1]
  cases k1 : l.f == q.f
  · simp
  simp only [Bool.not_true, Bool.false_eq_true, if_false, Bool.true_and]
  unfold Op.eqFields
  rw [if_pos h2]
  simp only [Sem.run_bind, a2, c2, Result.andThen_ok, e2]
  cases k2 : l.t == q.t
  · simp
  simp only [Bool.not_true, Bool.false_eq_true, if_false, Bool.true_and]
  unfold Op.eqFields
  rw [if_pos h3]
  simp only [Sem.run_bind, a3, c3, Result.andThen_ok, e3]
  cases k3 : l.s == q.s
  · simp
  simp only [Bool.not_true, Bool.false_eq_true, if_false, Bool.true_and]
  unfold Op.eqFields
  rw [if_pos h4]
  simp only [Sem.run_bind, a4, c4, Result.andThen_ok, e4]
  cases k4 : l.x.toList == q.x.toList
  · simp
  simp [Op.eqFields]
theorem eql_let (l q : Let) (w : World) : (binOp .eql 50 (letV l) (letV q)).run Tryd.prog w = .ok (.bool (eqLB l q)) w := by
  unfold letV
  rw [run_eql_struct, run_equalIn_struct _ 9999 _ _ _ (by kernel_rfl) (by kernel_rfl)]
  simp only [Program.fieldsOf, Tryd.underlying50]
  rw [fields_let l q "From" "To" "Seq" "Text" (by decide) (by decide) (by decide) (by decide), Result.andThen_ok]
theorem neq_let (l q : Let) (w : World) : (binOp .neq 50 (letV l) (letV q)).run Tryd.prog w = .ok (.bool (!eqLB l q)) w := by
  unfold letV
  rw [run_neq_struct, run_equalIn_struct _ 9999 _ _ _ (by kernel_rfl) (by kernel_rfl)]
  simp only [Program.fieldsOf, Tryd.underlying50]
  rw [fields_let l q "From" "To" "Seq" "Text" (by decide) (by decide) (by decide) (by decide), Result.andThen_ok]
theorem eql_refLet (l q : Let) (w : World) : (binOp .eql 62 (letV l) (letV q)).run Tryd.prog w = .ok (.bool (eqLB l q)) w := by
  unfold letV
  rw [run_eql_struct, run_equalIn_struct _ 9999 _ _ _ (by kernel_rfl) (by kernel_rfl)]
  simp only [Program.fieldsOf, Tryd.underlying62]
  rw [fields_let l q "From" "To" "Seq" "Text" (by decide) (by decide) (by decide) (by decide), Result.andThen_ok]
theorem neq_refLet (l q : Let) (w : World) : (binOp .neq 62 (letV l) (letV q)).run Tryd.prog w = .ok (.bool (!eqLB l q)) w := by
  unfold letV
  rw [run_neq_struct, run_equalIn_struct _ 9999 _ _ _ (by kernel_rfl) (by kernel_rfl)]
  simp only [Program.fieldsOf, Tryd.underlying62]
  rw [fields_let l q "From" "To" "Seq" "Text" (by decide) (by decide) (by decide) (by decide), Result.andThen_ok]
theorem guard_let (op : BinOp) (x y : Operand) (xs ys : Array Value) (w : World) : (eqGuard op 50 x y (.agg xs) (.agg ys)).run Tryd.prog w = .ok () w := run_eqGuard_agg w op _ x y xs ys (by kernel_rfl)
theorem guard_refLet (op : BinOp) (x y : Operand) (xs ys : Array Value) (w : World) : (eqGuard op 62 x y (.agg xs) (.agg ys)).run Tryd.prog w = .ok () w := run_eqGuard_agg w op _ x y xs ys (by kernel_rfl)
end Go.Proofs.YtbecgfeoacncdaaDoor
