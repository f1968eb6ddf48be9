/- Acts compared; fault.At at a fault; the chapter's example. -/
import Derived.Test.YtilhjhmlkbeokaaDoorBad25
import Derived.Laws.StructEq
namespace Go.Proofs.YtilhjhmlkbeokaaDoor
open Go.RowKit

theorem part_int (xs : Array Value) (i : Nat) (v : Value) (w : World) (h : xs[i]? = some v) : (part 3 xs i).run Tryd.prog w = .ok v w := by
  simp [part, h]
theorem fields_eq (a b c d : Int) (n1 n2 : String) (h1 : n1 ≠ "_") (h2 : n2 ≠ "_") (t1 t2 p1 p2 : String) (b1 b2 : Nat) (w : World) :
    (Op.eqFields 9999 #[.int .i64 a, .int .i64 b] #[.int .i64 c, .int .i64 d] [⟨n1, 3, 0, false, t1, p1, b1⟩, ⟨n2, 3, 1, false, t2, p2, b2⟩]).run Tryd.prog w = .ok (decide ((a, b) = (c, d))) w := by
  have e1 := run_equalIn_int (P := Tryd.prog) w 9998 3 .i64 .i64 a c Tryd.underlying3
  have e2 := run_equalIn_int (P := Tryd.prog) w 9998 3 .i64 .i64 b d Tryd.underlying3
  have g1 := part_int #[.int .i64 a, .int .i64 b] 0 (.int .i64 a) w rfl
  have g2 := part_int #[.int .i64 a, .int .i64 b] 1 (.int .i64 b) w rfl
  have g3 := part_int #[.int .i64 c, .int .i64 d] 0 (.int .i64 c) w rfl
  have g4 := part_int #[.int .i64 c, .int .i64 d] 1 (.int .i64 d) w rfl
  simp only [Nat.reduceAdd] at e1 e2
  unfold Op.eqFields
  rw [if_pos h1]
  simp only [Sem.run_bind, g1, g3, Result.andThen_ok, e1]
  by_cases k1 : a = c
  · subst k1
    simp only [beq_self_eq_true, Bool.not_true, Bool.false_eq_true, if_false]
    unfold Op.eqFields
    rw [if_pos h2]
    simp only [Sem.run_bind, g2, g4, Result.andThen_ok, e2]
    by_cases k2 : b = d
    · subst k2
      simp [Op.eqFields]
    · simp [k2]
  · simp [k1]
theorem eql_act (a b c d : Int) (w : World) : (binOp .eql 36 (.agg #[.int .i64 a, .int .i64 b]) (.agg #[.int .i64 c, .int .i64 d])).run Tryd.prog w = .ok (.bool (decide ((a, b) = (c, d)))) w := by
  rw [run_eql_struct, run_equalIn_struct _ 9999 _ _ _ (by kernel_rfl) (by kernel_rfl)]
  simp only [Program.fieldsOf, Tryd.underlying36]
  rw [fields_eq a b c d "Kind" "N" (by decide) (by decide), Result.andThen_ok]
theorem neq_act (a b c d : Int) (w : World) : (binOp .neq 36 (.agg #[.int .i64 a, .int .i64 b]) (.agg #[.int .i64 c, .int .i64 d])).run Tryd.prog w = .ok (.bool (!decide ((a, b) = (c, d)))) w := by
  rw [run_neq_struct, run_equalIn_struct _ 9999 _ _ _ (by kernel_rfl) (by kernel_rfl)]
  simp only [Program.fieldsOf, Tryd.underlying36]
  rw [fields_eq a b c d "Kind" "N" (by decide) (by decide), Result.andThen_ok]
theorem guard_act (op : BinOp) (x y : Operand) (xs ys : Array Value) (w : World) : (eqGuard op 36 x y (.agg xs) (.agg ys)).run Tryd.prog w = .ok () w := run_eqGuard_agg w op _ x y xs ys (by kernel_rfl)
theorem eql_refAct (a b c d : Int) (w : World) : (binOp .eql 35 (.agg #[.int .i64 a, .int .i64 b]) (.agg #[.int .i64 c, .int .i64 d])).run Tryd.prog w = .ok (.bool (decide ((a, b) = (c, d)))) w := by
  rw [run_eql_struct, run_equalIn_struct _ 9999 _ _ _ (by kernel_rfl) (by kernel_rfl)]
  simp only [Program.fieldsOf, Tryd.underlying35]
  rw [fields_eq a b c d "Kind" "N" (by decide) (by decide), Result.andThen_ok]
theorem neq_refAct (a b c d : Int) (w : World) : (binOp .neq 35 (.agg #[.int .i64 a, .int .i64 b]) (.agg #[.int .i64 c, .int .i64 d])).run Tryd.prog w = .ok (.bool (!decide ((a, b) = (c, d)))) w := by
  rw [run_neq_struct, run_equalIn_struct _ 9999 _ _ _ (by kernel_rfl) (by kernel_rfl)]
  simp only [Program.fieldsOf, Tryd.underlying35]
  rw [fields_eq a b c d "Kind" "N" (by decide) (by decide), Result.andThen_ok]
theorem guard_refAct (op : BinOp) (x y : Operand) (xs ys : Array Value) (w : World) : (eqGuard op 35 x y (.agg xs) (.agg ys)).run Tryd.prog w = .ok () w := run_eqGuard_agg w op _ x y xs ys (by kernel_rfl)

theorem at_hit (b : Nat) (c : Int) (w : World) (hg : ErrT w) (hc : w.cell? ⟨b, 1, none⟩ = some (.int .i64 c)) :
    Calls Tryd.prog 11 #[.iface 53 (.pointer (some ⟨b, 0, none⟩))] w fun e w' => e = .returned (.int .i64 c) ∧ Below w.heap.size w w' := by
  have hb : b < w.heap.size := World.block_lt_of_cell? _ _ hc
  go_enter Tryd.func11, Tryd.ntmps11
  go_wp2_with (go_at_call 23; refine (find_hit _ _ hg).mono ?_; rintro ev w' ⟨rfl, hw⟩; have hc' := (hw.cell (p := ⟨b, 1, none⟩) hb).trans hc; clear hc)
  go_ret
  exact ⟨rfl, by assumption⟩
theorem at_f {c p : Int} {w : World} {v : Value} (h : FaultAt c p w v) (hg : ErrT w) : Calls Tryd.prog 11 #[v] w fun e w' => e = .returned (.int .i64 p) ∧ Below w.heap.size w w' := by
  obtain ⟨b, s, rfl, hw⟩ := h
  exact at_hit b p w hg (by rw [hw.cell 1]; rfl)
/-- A text of acts that are right is told to be these. -/
def ActsTo (A : List (Int × Int)) (w : World) (e : Ending) (w' : World) : Prop :=
  Below w.heap.size w w' ∧ ∃ v, e = .returned (.tuple #[v, .nilIface]) ∧ w'.ownsRow w.heap.size 36 2 v A.length (eL A)
theorem parse_text (A : List (Int × Int)) (hA : ∀ a ∈ A, goodA a = true) (l : List UInt8) (hl : l = textB A) (hn : l.length ≤ 200000) (w : World) (hg : GT w) :
    Calls Tryd.prog 8 #[.string (str l)] w (ActsTo A w) := by
  refine (textParse_any l hn w hg).mono ?_
  rintro e w' ⟨hb, B, r, hp, hc⟩
  subst hl
  obtain ⟨rfl, rfl⟩ := Parses.unique (parses_text hA) hp
  rcases hc with ⟨_, v, rfl, ho⟩ | ⟨h, _⟩
  · exact ⟨hb, v, rfl, ho⟩
  · exact absurd rfl h
/-- A text whose rest no line begins is told with the number of its lines. -/
def FailTo (k : Nat) (w : World) (e : Ending) (w' : World) : Prop :=
  Below w.heap.size w w' ∧ ∃ u, e = .returned (.tuple #[.slice none 0 0, u]) ∧ FaultAt 14 k w' u
theorem parse_fail (A : List (Int × Int)) (r l : List UInt8) (hp : Parses l A r) (hr : r ≠ []) (hn : l.length ≤ 200000) (w : World) (hg : GT w) :
    Calls Tryd.prog 8 #[.string (str l)] w (FailTo A.length w) := by
  refine (textParse_any l hn w hg).mono ?_
  rintro e w' ⟨hb, B, r', hp', hc⟩
  obtain ⟨rfl, rfl⟩ := Parses.unique hp hp'
  rcases hc with ⟨h, _⟩ | ⟨_, u, rfl, hf⟩
  · exact absurd h hr
  · exact ⟨hb, u, rfl, hf⟩
theorem noLine_word {k : Int} (h0 : 0 ≤ k) (h3 : k ≤ 3) (q : List UInt8) : NoLine (wordB k ++ 10 :: q) := by
  refine noLine_cut (word_no h0 (by omega)).2 (fun a ha e => ?_)
  obtain ⟨a0, a5, _⟩ := good_iff.1 ha
  unfold lineB at e
  by_cases h : a.1 ≤ 3
  · rw [if_pos h] at e
    exact (word_no h0 (by omega)).1 (by rw [← e]; simp)
  · rw [if_neg h, List.append_nil] at e
    have := word_inj a0 a5 h0 (by omega) e
    omega
set_option maxRecDepth 100000 in
set_option maxHeartbeats 4000000 in
theorem alive_ok (w : World) (hg : GT w) : Calls Tryd.prog 7 #[] w fun e w' => e = .returned (.bool true) ∧ Below w.heap.size w w' := by
  have P1 := parse_text [(0, 1), (4, 0)] (by decide) [119, 111, 114, 107, 32, 49, 10, 112, 97, 115, 115, 10] (by simp [textB, lineB, wordB, Lib.decDigits_one]) (by decide) w hg
  have P1 := Lib.hid P1; have HG := Lib.hid hg
  have P2 := Lib.hid (fun (W : World) (h : GT W) => parse_fail [] (wordB 0 ++ [10]) (wordB 0 ++ [10]) ⟨rfl, (fun a h => by cases h), noLine_word (by decide) (by decide) []⟩ (by decide) (by decide) W h)
  have e1 := eql_act 0 1 0 1
  have e2 := guard_act
  clear hg
  go_enter Tryd.func7, Tryd.ntmps7
  go_wp2_with fail
  refine P1.out.mono ?_
  rintro e w1 ⟨hb1, v, rfl, ho⟩
  obtain ⟨A1, c1, rfl⟩ := own_form ho
  have HO := Lib.hid ho; have HB1 := Lib.hid hb1
  have HP2 := Lib.hid (P2.out w1 (HG.out.below hb1 (Nat.le_refl _)))
  clear ho hb1
  go_wp2_with fail
  refine HP2.out.mono ?_
  rintro e w2 ⟨hb2, u, rfl, hf⟩
  obtain ⟨g, off, rfl, a0, a1⟩ := (own_edges (own_below HO.out hb2 (Nat.le_refl _))).pos (i := 0) (by decide)
  obtain ⟨g', off', hA, b0, b1⟩ := (own_edges (own_below HO.out hb2 (Nat.le_refl _))).pos (i := 1) (by decide)
  injection hA with hA
  injection hA with z1 z2
  subst z1 z2
  have hb := HB1.out.trans (hb2.mono HB1.out.size)
  have HCD := Lib.hid (code_f7 hf (HG.out.below hb (Nat.le_refl _)).et)
  have HB2 := Lib.hid hb
  obtain ⟨fb, fs, rfl, _⟩ := id hf
  simp only [List.getD_cons_zero, List.getD_cons_succ, Nat.zero_mul, Nat.add_zero, Nat.one_mul] at a0 a1 b0 b1
  clear hb hb2 hf
  go_wp2_with fail
  refine HCD.out.mono ?_; rintro e w3 ⟨rfl, hb3⟩
  have HB3 := Lib.hid (HB2.out.trans (hb3.mono HB2.out.size))
  clear hb3
  go_wp2_with fail
  go_ret
  exact ⟨rfl, HB3.out⟩
/-- All acts are right, or there is a first one that is not. -/
theorem good_or (L : List (Int × Int)) : (∀ a ∈ L, goodA a = true) ∨ ∃ k, (∀ i, i < k → goodA (L.getD i (0, 0)) = true) ∧ k < L.length ∧ goodA (L.getD k (0, 0)) = false := by
  induction L with
  | nil => exact Or.inl (fun a h => by cases h)
  | cons a t ih =>
    cases hga : goodA a with
    | false => exact Or.inr ⟨0, fun i h => by omega, by simp, by simpa using hga⟩
    | true =>
      rcases ih with h | ⟨k, h1, h2, h3⟩
      · refine Or.inl (fun x hx => ?_)
        rcases List.mem_cons.1 hx with rfl | hx
        · exact hga
        · exact h x hx
      · refine Or.inr ⟨k + 1, fun i hi => ?_, by simpa using h2, by simpa using h3⟩
        cases i with
        | zero => simpa using hga
        | succ i => simpa using h1 i (by omega)
theorem first_bad {L : List (Int × Int)} {k j : Nat} (h1 : ∀ i, i < k → goodA (L.getD i (0, 0)) = true) (h2 : goodA (L.getD k (0, 0)) = false) (g1 : ∀ i, i < j → goodA (L.getD i (0, 0)) = true) (g2 : goodA (L.getD j (0, 0)) = false) : k = j := by
  rcases Nat.lt_trichotomy k j with h | h | h
  · rw [g1 k h] at h2; cases h2
  · exact h
  · rw [h1 j h] at g2; cases g2
theorem bad_mem {L : List (Int × Int)} (h : ∀ a ∈ L, goodA a = true) {k : Nat} (hk : k < L.length) (hb : goodA (L.getD k (0, 0)) = false) : False := by
  rw [getD_at hk, h _ (List.getElem_mem hk)] at hb
  cases hb
theorem right_good {L : List (Int × Int)} {v : Value} {w : World} (h : EdgesV w v L) (hL : L.length ≤ 1000000) (hg : ∀ a ∈ L, goodA a = true) :
    Calls Tryd.prog 13 #[v] w fun e w' => e = .returned .nilIface ∧ Below w.heap.size w w' := by
  refine (actsRight_any L v w h hL).mono ?_
  rintro e w' ⟨hb, ⟨_, rfl⟩ | ⟨k, u, _, hk, hbad, _⟩⟩
  · exact ⟨rfl, hb⟩
  · exact (bad_mem hg hk hbad).elim
theorem right_bad {L : List (Int × Int)} {v : Value} {w : World} (h : EdgesV w v L) (hL : L.length ≤ 1000000) {k : Nat} (h1 : ∀ i, i < k → goodA (L.getD i (0, 0)) = true) (hk : k < L.length) (h2 : goodA (L.getD k (0, 0)) = false) :
    Calls Tryd.prog 13 #[v] w fun e w' => ∃ u, e = .returned u ∧ FaultAt 14 k w' u ∧ Below w.heap.size w w' := by
  refine (actsRight_any L v w h hL).mono ?_
  rintro e w' ⟨hb, ⟨hg, _⟩ | ⟨j, u, g1, _, g2, rfl, hf⟩⟩
  · exact (bad_mem hg hk h2).elim
  · obtain rfl := first_bad h1 h2 g1 g2
    exact ⟨u, rfl, hf, hb⟩
theorem bad_good {L : List (Int × Int)} {v : Value} {w : World} (h : EdgesV w v L) (hL : L.length ≤ 1000000) (hg : ∀ a ∈ L, goodA a = true) :
    Calls Tryd.prog 15 #[v] w fun e w' => e = .returned (.int .i64 (-1)) ∧ Below w.heap.size w w' := by
  refine (bad_any L v w h hL).mono ?_
  rintro e w' ⟨hb, ⟨_, rfl⟩ | ⟨k, _, hk, hbad, _⟩⟩
  · exact ⟨rfl, hb⟩
  · exact (bad_mem hg hk hbad).elim
theorem bad_bad {L : List (Int × Int)} {v : Value} {w : World} (h : EdgesV w v L) (hL : L.length ≤ 1000000) {k : Nat} (h1 : ∀ i, i < k → goodA (L.getD i (0, 0)) = true) (hk : k < L.length) (h2 : goodA (L.getD k (0, 0)) = false) :
    Calls Tryd.prog 15 #[v] w fun e w' => e = .returned (.int .i64 k) ∧ Below w.heap.size w w' := by
  refine (bad_any L v w h hL).mono ?_
  rintro e w' ⟨hb, ⟨hg, _⟩ | ⟨j, g1, _, g2, rfl⟩⟩
  · exact (bad_mem hg hk h2).elim
  · obtain rfl := first_bad h1 h2 g1 g2
    exact ⟨rfl, hb⟩
end Go.Proofs.YtilhjhmlkbeokaaDoor
