/- Edges compared. pat: slices.Index and slices.Contains at edges. -/
import Derived.Test.YtbbdammdiplagaaGreatDoorPairsV
import Derived.Laws.StructEq
import Derived.Test.YtbbdammdiplagaaGreatDoorPatZ
namespace Go.Proofs.YtbbdammdiplagaaGreatDoor
section
open Go.RowKit

theorem part_int (xs : Array Value) (i : Nat) (v : Value) (w : World) (h : xs[i]? = some v) : (part 3 xs i).run Tryz.prog w = .ok v w := by
  simp [part, h]
theorem fields_eq (a b c d : Int) (n1 n2 : String) (h1 : n1 ≠ "_") (h2 : n2 ≠ "_") (t1 t2 p1 p2 : String) (b1 b2 : Nat) (w : World) :
    (Op.eqFields 9999 #[.int .i64 a, .int .i64 b] #[.int .i64 c, .int .i64 d] [⟨n1, 3, 0, false, t1, p1, b1⟩, ⟨n2, 3, 1, false, t2, p2, b2⟩]).run Tryz.prog w = .ok (decide ((a, b) = (c, d))) w := by
  have e1 := run_equalIn_int (P := Tryz.prog) w 9998 3 .i64 .i64 a c Tryz.underlying3
  have e2 := run_equalIn_int (P := Tryz.prog) w 9998 3 .i64 .i64 b d Tryz.underlying3
  have g1 := part_int #[.int .i64 a, .int .i64 b] 0 (.int .i64 a) w rfl
  have g2 := part_int #[.int .i64 a, .int .i64 b] 1 (.int .i64 b) w rfl
  have g3 := part_int #[.int .i64 c, .int .i64 d] 0 (.int .i64 c) w rfl
  have g4 := part_int #[.int .i64 c, .int .i64 d] 1 (.int .i64 d) w rfl
  simp only [Nat.reduceAdd] at e1 e2
  unfold Op.eqFields
  rw [if_pos h1]
  simp only [Sem.run_bind, g1, g3, Result.andThen_ok, e1]
  by_cases k1 : a = c
  · subst k1
    simp only [beq_self_eq_true, Bool.not_true, Bool.false_eq_true, if_false]
    unfold Op.eqFields
    rw [if_pos h2]
    simp only [Sem.run_bind, g2, g4, Result.andThen_ok, e2]
    by_cases k2 : b = d
    · subst k2
      simp [Op.eqFields]
    · simp [k2]
  · simp [k1]
theorem eql_edge (a b c d : Int) (w : World) : (binOp .eql 54 (.agg #[.int .i64 a, .int .i64 b]) (.agg #[.int .i64 c, .int .i64 d])).run Tryz.prog w = .ok (.bool (decide ((a, b) = (c, d)))) w := by
  rw [run_eql_struct, run_equalIn_struct _ 9999 _ _ _ (by kernel_rfl) (by kernel_rfl)]
  simp only [Program.fieldsOf, Tryz.underlying54]
  rw [fields_eq a b c d "A" "B" (by decide) (by decide), Result.andThen_ok]
theorem neq_edge (a b c d : Int) (w : World) : (binOp .neq 54 (.agg #[.int .i64 a, .int .i64 b]) (.agg #[.int .i64 c, .int .i64 d])).run Tryz.prog w = .ok (.bool (!decide ((a, b) = (c, d)))) w := by
  rw [run_neq_struct, run_equalIn_struct _ 9999 _ _ _ (by kernel_rfl) (by kernel_rfl)]
  simp only [Program.fieldsOf, Tryz.underlying54]
  rw [fields_eq a b c d "A" "B" (by decide) (by decide), Result.andThen_ok]
theorem guard_edge (op : BinOp) (x y : Operand) (xs ys : Array Value) (w : World) : (eqGuard op 54 x y (.agg xs) (.agg ys)).run Tryz.prog w = .ok () w := run_eqGuard_agg w op _ x y xs ys (by kernel_rfl)
theorem drew_more (w : World) (a b : Nat) : ∃ q, (w.drewN a).drewN b = w.drewN q := ⟨a + b, by simp [World.drewN, Nat.add_assoc]⟩
end

section
open Go.RowKit

/-- The place of an edge among others, or -1. -/
def idxE (T : List (Int × Int)) (x : Int × Int) : Int := if x ∈ T then (T.idxOf x : Nat) else -1
theorem idxE_hit {T : List (Int × Int)} {x : Int × Int} {k : Nat} (hk : k < T.length) (h : ∀ i, i < k → T.getD i (0, 0) ≠ x) (he : T.getD k (0, 0) = x) : idxE T x = k := by
  have hx : T[k] = x := by rw [← getD_at hk]; exact he
  unfold idxE
  rw [if_pos (by rw [← hx]; exact List.getElem_mem hk)]
  have h1 : T.idxOf x ≤ k := by
    rcases Nat.lt_or_ge k (T.idxOf x) with h2 | h2
    · exact absurd hx (List.not_of_lt_findIdx h2 |> fun h3 => by simpa using h3)
    · exact h2
  rcases Nat.lt_or_ge (T.idxOf x) k with h2 | h2
  · have h3 := h _ h2
    rw [getD_at (by omega)] at h3
    exact absurd (List.getElem_idxOf (by omega)) h3
  · omega
theorem idxE_no {T : List (Int × Int)} {x : Int × Int} (h : ∀ i, i < T.length → T.getD i (0, 0) ≠ x) : idxE T x = -1 := by
  unfold idxE
  rw [if_neg]
  intro hx
  obtain ⟨i, hi, he⟩ := List.getElem_of_mem hx
  exact h i hi (by rw [getD_at hi]; exact he)
theorem idxE_ge (T : List (Int × Int)) (x : Int × Int) : decide (0 ≤ idxE T x) = decide (x ∈ T) := by
  unfold idxE
  by_cases h : x ∈ T
  · rw [if_pos h]; simp [h]
  · rw [if_neg h]; simp [h]

set_option maxRecDepth 100000 in
set_option maxHeartbeats 2000000 in
theorem index_any (T : List (Int × Int)) (v : Value) (x y : Int) (w : World) (h : EdgesV w v T) (hl : T.length ≤ 1000000000) :
    Calls Tryz.prog 151 #[v, .agg #[.int .i64 x, .int .i64 y]] w fun e w' => e = .returned (.int .i64 (idxE T (x, y))) ∧ Below w.heap.size w w' := by
  obtain ⟨A, c, rfl⟩ := h.form
  obtain ⟨n, hn⟩ : ∃ n, T.length = n := ⟨_, rfl⟩
  rw [hn] at h hl ⊢
  have hb1 : Below w.heap.size w (w.alloc (.cells #[.int .i64 x, .int .i64 y] 54)) := (Below.refl _ _).alloc (Nat.le_refl _) _
  have hx := Whole.new w 54 #[.int .i64 x, .int .i64 y]
  obtain ⟨w1, hw1⟩ : ∃ W, w.alloc (.cells #[.int .i64 x, .int .i64 y] 54) = W := ⟨_, rfl⟩
  obtain ⟨xb, hxb⟩ : ∃ g, w.heap.size = g := ⟨_, rfl⟩
  have hh := h.below hb1 (Nat.le_refl _)
  rw [hw1] at hb1 hx hh
  rw [hxb] at hx
  have HB1 := Lib.hid hb1; have HH := Lib.hid hh; have HN := Lib.hid hn; have HW1 := Lib.hid hw1; have HXB := Lib.hid hxb
  have x0 : w1.cell? ⟨xb, 0, none⟩ = some (.int .i64 x) := hx.cell 0
  have x1 : w1.cell? ⟨xb, 1, none⟩ = some (.int .i64 y) := hx.cell 1
  clear h hb1 hw1 hxb hx hh hn
  go_enter Tryz.func151, Tryz.ntmps151
  go_upto_region 1 with fail
  rw [HW1.out, HXB.out]
  go_wp2_with fail
  go_loopg [8] n (fun g y' wr => ∃ k, k ≤ n ∧ g = n - k ∧ y' = .int .i64 (k : Nat) ∧ (∀ i, i < k → T.getD i (0, 0) ≠ (x, y)) ∧ ∃ d, wr = w1.drewN d)
  case atStart => exact ⟨0, Nat.zero_le _, rfl, rfl, fun i hi => absurd hi (Nat.not_lt_zero i), 0, rfl⟩
  case round =>
    obtain ⟨k, hk, rfl, rfl, hall, d, rfl⟩ := hrel
    have HALL := Lib.hid hall
    clear hall
    by_cases hlt : k < n
    · obtain ⟨b, off, rfl, d0, d1⟩ := HH.out.pos (i := k) (by rw [HN.out]; exact hlt)
      obtain ⟨z, hz⟩ : ∃ z, T.getD k (0, 0) = z := ⟨_, rfl⟩
      rw [hz] at d0 d1
      obtain ⟨p, q⟩ := z
      simp only at d0 d1
      have t3 : decide (k < n) = true := decide_eq_true hlt
      have j1 : (k : Int) < n := by omega
      have j2 : (0 : Int) ≤ k := by omega
      have HLT := Lib.hid hlt; have HZ := Lib.hid hz
      have e1 := eql_edge x y p q
      have e2 := guard_edge
      clear hlt hz
      by_cases hxy : (x, y) = (p, q)
      · have HX := Lib.hid hxy
        rw [decide_eq_true hxy] at e1
        have HF : Hid (idxE T (x, y) = (k : Int)) := Lib.hid (idxE_hit (by rw [HN.out]; exact HLT.out) HALL.out (by rw [HZ.out]; exact hxy.symm))
        clear hxy
        go_wp2_with fail
        go_quiet (fail)
        go_wp2_with fail
        go_ret
        exact ⟨by rw [HF.out]; rfl, below_drewN' (below_drewN' HB1.out _) _⟩
      · have HX := Lib.hid hxy
        rw [decide_eq_false hxy] at e1
        clear hxy
        go_wp2_with fail
        go_quiet (fail)
        go_wp2_with fail
        go_roundg (n - (k + 1))
        case rel =>
          refine ⟨k + 1, HLT.out, rfl, by go_num, fun i hi => ?_, _, rfl⟩
          rcases Nat.lt_or_ge i k with h | h
          · exact HALL.out i h
          · obtain rfl : i = k := by omega
            rw [HZ.out]
            exact fun e => HX.out e.symm
        case measure => have := HLT.out; omega
    · obtain rfl : k = n := by omega
      have t3 : decide (k < k) = false := by simp
      have HF : Hid (idxE T (x, y) = -1) := Lib.hid (idxE_no (by rw [HN.out]; exact HALL.out))
      clear hlt
      go_wp2_with fail
      go_ret
      exact ⟨by rw [HF.out]; rfl, below_drewN' HB1.out _⟩
set_option maxRecDepth 100000 in
set_option maxHeartbeats 2000000 in
theorem contains_any (T : List (Int × Int)) (v : Value) (x y : Int) (w : World) (h : EdgesV w v T) (hl : T.length ≤ 1000000000) :
    Calls Tryz.prog 136 #[v, .agg #[.int .i64 x, .int .i64 y]] w fun e w' => e = .returned (.bool (decide ((x, y) ∈ T))) ∧ Below w.heap.size w w' := by
  have hb1 : Below w.heap.size w (w.alloc (.cells #[.int .i64 x, .int .i64 y] 54)) := (Below.refl _ _).alloc (Nat.le_refl _) _
  have HI := index_any T v x y _ (h.below hb1 (Nat.le_refl _)) hl
  have HQ : Hid (decide (0 ≤ idxE T (x, y)) = decide ((x, y) ∈ T)) := Lib.hid (idxE_ge T (x, y))
  obtain ⟨A, c, rfl⟩ := h.form
  generalize T.length = n at *
  generalize idxE T (x, y) = r at HI HQ
  generalize decide ((x, y) ∈ T) = z at HQ ⊢
  have HI := Lib.hid HI; have HB1 := Lib.hid hb1
  clear h hb1
  go_enter Tryz.func136, Tryz.ntmps136
  go_wp2_with fail
  refine HI.out.mono ?_; rintro e w1 ⟨rfl, hb⟩
  have HB2 := Lib.hid (HB1.out.trans (hb.mono HB1.out.size))
  clear hb
  obtain ⟨z', hz'⟩ : ∃ z', decide (0 ≤ r) = z' := ⟨_, rfl⟩
  rw [hz'] at HQ
  have HZ := Lib.hid hz'
  go_wp2_with fail
  go_ret
  exact ⟨by rw [← HQ.out]; rfl, HB2.out⟩
end
end Go.Proofs.YtbbdammdiplagaaGreatDoor
