/- Numbers appended at a step of a region that draws. -/
import Derived.Test.YtploaffmhemjkaaRows4
import Derived.RegionTactic
import Derived.Deep.AppendLies
namespace Go.Proofs.Ytploaffmhemjkaa
open Go.RowKit

section
variable {P : Program}
/-- Numbers behind a row of the call's own: the run. -/
theorem run_appInts (w : World) (t ty : TypeId) (base : Nat) (i : TypeInfo) (ht : P.underlying t = some (.slice 3)) (hi : P.info? 3 = some i) (hz : i.zero = some (.int .i64 0))
    (hsize : i.size = 1) (hby : i.bytes = 8) (v : Value) (n : Nat) (xs : List Value) (hown : w.ownsRow base 3 1 v n xs)
    (u : Value) (l : List Int) (hu : SeqV w u l) (hn : n + l.length ≤ 1000000000) (hbase : base ≤ w.heap.size) :
    ∃ A' c' w', (Builtin.append_ #[t, t] ty #[v, u]).run P w = .ok (.slice A' (n + l.length) c') w' ∧ w'.ownsRow base 3 1 (.slice A' (n + l.length) c') (n + l.length) (xs ++ intCells l) ∧ w.grownBy w' v.ownBlock := by
  obtain ⟨A, c, rfl⟩ := IntsV.form hu
  have key : ∀ ad : Addr, A = some ad → ∃ A' c' w', (Builtin.append_ #[t, t] ty #[v, .slice A l.length c]).run P w = .ok (.slice A' (n + l.length) c') w' ∧ w'.ownsRow base 3 1 (.slice A' (n + l.length) c') (n + l.length) (xs ++ intCells l) ∧ w.grownBy w' v.ownBlock := by
    intro ad hA
    subst hA
    obtain ⟨v', w', hr, h2, h3, _⟩ := run_append_own_at (P := P) w base t ty 3 i (.int .i64 0) 1 8 ht hi hz hsize hby rfl (by decide) v n xs hown ad l.length c (intCells l) (by simp [intCells])
      (by
        rcases hu with ⟨h0, _⟩ | ⟨_, b, off, c', e, hc⟩
        · intro j u hj
          rw [List.eq_nil_of_length_eq_zero h0] at hj
          simp [intCells] at hj
        · injection e with e1 e2 e3
          injection e1 with e1
          subst e1
          exact seq_cells (c := l.length) hc rfl (Nat.le_refl _)) (fun u hu => by simp [intCells] at hu; obtain ⟨z, _, rfl⟩ := hu; rfl) (by unfold maxLen; omega) (by omega) hbase
    obtain ⟨A', c', rfl⟩ := own_form h2
    exact ⟨A', c', w', hr, h2, h3⟩
  rcases A with _ | ad
  · have hl0 : l = [] := by
      rcases hu with ⟨h0, _⟩ | ⟨_, b, off, c', e, _⟩
      · exact List.eq_nil_of_length_eq_zero h0
      · cases e
    subst hl0
    obtain ⟨A', c', rfl⟩ := own_form hown
    have hr : (Builtin.append_ #[t, t] ty #[.slice A' n c', .slice none 0 c]).run P w = .ok (.slice A' n c') w := by
      rcases hown.2 with ⟨h1, h2⟩ | ⟨g, cap, cur, h1, _, _, hnc, _⟩
      · injection h1 with e1 e2 e3
        subst e1 e2 e3
        simp [Builtin.append_, run_underlying ht, sizeOf, typeInfo, hi, Builtin.lenOf, Builtin.firstCells]
      · injection h1 with e1 e2 e3
        subst e1 e3
        simp [Builtin.append_, run_underlying ht, sizeOf, typeInfo, hi, Builtin.lenOf, Builtin.firstCells, hnc, storeCells]
    exact ⟨A', c', w, hr, by simpa [intCells] using hown, (Grew.refl w (.slice A' n c')).1⟩
  · exact key ad rfl
/-- At a step of a region that draws. -/
theorem step_appInts {ops : Array Oper} {o : Oper} {a : Act} {w : World} {K : Act → World → Prop} {Q : Exit → Act → World → Prop} {E : Prop} (hw : Region.wanted o (yielded ops a.tmps) = true) (s x : Operand) (t : TypeId)
    (ho : o.op = .call { callee := .builtin .append, args := #[s, x], argTypes := #[t, t] })
    (base : Nat) (i : TypeInfo) (ht : P.underlying t = some (.slice 3)) (hi : P.info? 3 = some i) (hz : i.zero = some (.int .i64 0))
    (hsize : i.size = 1) (hby : i.bytes = 8) (v : Value) (n : Nat) (xs : List Value) (hs : a.eval s = v) (hown : w.ownsRow base 3 1 v n xs)
    (u : Value) (l : List Int) (hx : a.eval x = u) (hu : SeqV w u l) (hn : n + l.length ≤ 1000000000) (hbase : base ≤ w.heap.size)
    (h : ∀ A' c' w', w'.ownsRow base 3 1 (.slice A' (n + l.length) c') (n + l.length) (xs ++ intCells l) → w.grownBy w' v.ownBlock → K (a.put o.dst (.slice A' (n + l.length) c')) w') :
    if Region.wanted o (yielded ops a.tmps) = true then Oper.wp P o a w K Q else E := by
  rw [if_pos hw]
  obtain ⟨A', c', w', hr, h2, h3⟩ := run_appInts (P := P) w t o.type base i ht hi hz hsize hby v n xs hown u l hu hn hbase
  unfold Oper.wp execOp
  simp only [ho, resolve, invoke, builtin, Sem.run_bind, Sem.run_pure, Result.andThen_ok, List.map_toArray, List.map_cons, List.map_nil, hs, hx, hr]
  exact h A' c' w' h2 h3
end
/-- One number in a block of its own. -/
theorem seq_cell1 {w : World} {b : Nat} {x : Int} (h : w.cell? ⟨b, 0, none⟩ = some (.int .i64 x)) : SeqV w (.slice (some ⟨b, 0, none⟩) 1 1) [x] := by
  refine Or.inr ⟨Nat.zero_lt_one, b, 0, 1, rfl, fun i hi => ?_⟩
  obtain rfl : i = 0 := by simpa using hi
  exact h
theorem own_empty (W : World) (base : Nat) (hb : base ≤ W.heap.size) : (W.alloc (.cells #[] 3)).ownsRow base 3 1 (.slice (some ⟨W.heap.size, 0, none⟩) 0 0) 0 [] :=
  World.ownsRow_lit (size := 1) W #[] 0 hb (by decide) rfl
theorem cell_new1 (W : World) (x : Int) : (W.alloc (.cells #[.int .i64 x] 3)).cell? ⟨W.heap.size, 0, none⟩ = some (.int .i64 x) := (Whole.new W 3 #[.int .i64 x]).cell 0
end Go.Proofs.Ytploaffmhemjkaa
