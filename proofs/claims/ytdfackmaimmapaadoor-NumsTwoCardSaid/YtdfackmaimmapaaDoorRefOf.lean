/- fretworkref02.Of: the contract. -/
import Derived.Test.YtdfackmaimmapaaDoorRefNum
namespace Go.Proofs.YtdfackmaimmapaaDoor
open Go.RowKit

/-- A number, as the document's answer has it. -/
def NumV (w : World) (v : Value) (x : Int) : Prop :=
  ∃ (n c : Nat) (A : Option Addr) (D : Nat → Nat), v = .agg #[.bool (decide (x < 0)), .slice A n c] ∧ Dig n D x.natAbs ∧ DSlc w A n D ∧ n ≤ c ∧ n ≤ 1000
theorem NumV.keep {w w' : World} {v : Value} {x : Int} (h : NumV w v x) (hb : ∀ b, Typed w b 3 → w'.heap[b]? = w.heap[b]?) : NumV w' v x := by
  obtain ⟨n, c, A, D, e, h1, h2, h3, h4⟩ := h
  exact ⟨n, c, A, D, e, h1, h2.keep hb, h3, h4⟩
theorem NumV.below {w w' : World} {v : Value} {x : Int} (h : NumV w v x) {B : Nat} (hb : Below B w w') (hB : w.heap.size ≤ B) : NumV w' v x := by
  obtain ⟨n, c, A, D, e, h1, h2, h3, h4⟩ := h
  exact ⟨n, c, A, D, e, h1, h2.below hb hB, h3, h4⟩

theorem tdiv_abs (x : Int) : (x.tdiv 32768).natAbs = x.natAbs / 32768 := by rw [Int.natAbs_tdiv]; rfl
theorem tmod_abs (x : Int) : (x.tmod 32768).natAbs = x.natAbs % 32768 := by
  have h := Int.tmod_add_mul_tdiv x 32768
  rcases Int.lt_or_le x 0 with hx | hx
  · obtain ⟨m, rfl⟩ : ∃ m : Nat, x = -(m : Int) := ⟨x.natAbs, by omega⟩
    rw [Int.neg_tmod, Int.tmod_eq_emod_of_nonneg (by omega)]
    omega
  · rw [Int.tmod_eq_emod_of_nonneg hx]
    omega
theorem tdiv_sign (x : Int) (h0 : -9223372036854775808 ≤ x) (h1 : x ≤ 9223372036854775807) : -9223372036854775808 ≤ x.tdiv 32768 ∧ x.tdiv 32768 ≤ 9223372036854775807 := by
  have := tdiv_abs x
  omega

/-- What is left of a number when k digits have been taken. -/
def left (a : Int) : Nat → Int
  | 0 => a
  | k + 1 => (left a k).tdiv 32768
theorem left_abs (a : Int) : ∀ k, (left a k).natAbs = a.natAbs / 32768 ^ k
  | 0 => by simp [left]
  | k + 1 => by rw [left, tdiv_abs, left_abs a k, Nat.div_div_eq_div_mul, Nat.pow_succ]
theorem left_bd (a : Int) (h0 : -9223372036854775808 ≤ a) (h1 : a ≤ 9223372036854775807) : ∀ k, -9223372036854775808 ≤ left a k ∧ left a k ≤ 9223372036854775807
  | 0 => ⟨h0, h1⟩
  | k + 1 => tdiv_sign _ (left_bd a h0 h1 k).1 (left_bd a h0 h1 k).2
def digit (a : Int) (k : Nat) : Nat := ((left a k).tmod 32768).natAbs
theorem digit_lt (a : Int) (k : Nat) : digit a k < 32768 := by unfold digit; rw [tmod_abs]; omega
theorem left_pv (a : Int) : ∀ k, pv (digit a) k + (left a k).natAbs * 32768 ^ k = a.natAbs
  | 0 => by simp [pv, left]
  | k + 1 => by
    have ih := left_pv a k
    have e1 : (left a k).natAbs = 32768 * (left a (k + 1)).natAbs + digit a k := by rw [left, tdiv_abs, digit, tmod_abs]; omega
    rw [pv, pow15]
    rw [e1, Nat.add_mul, Nat.mul_comm 32768, Nat.mul_assoc] at ih
    omega
theorem left_pos (a : Int) (k : Nat) (h0 : -9223372036854775808 ≤ a) (h1 : a ≤ 9223372036854775807) (h : left a k ≠ 0) : k < 5 := by
  have h2 := left_abs a k
  have h3 : 1 ≤ a.natAbs / 32768 ^ k := by omega
  have h4 := (Nat.le_div_iff_mul_le (pow15_pos k)).1 h3
  rcases Nat.lt_or_ge k 5 with h | h
  · exact h
  · have := pow15_le h
    omega
theorem left_dig (a : Int) (k : Nat) (h : left a k = 0) (ht : 0 < k → left a (k - 1) ≠ 0) : Dig k (digit a) a.natAbs := by
  refine ⟨fun i _ => digit_lt a i, ?_, fun hk => ?_⟩
  · have := left_pv a k
    rw [h] at this
    simpa using this
  · obtain ⟨j, rfl⟩ : ∃ j, k = j + 1 := ⟨k - 1, by omega⟩
    have h2 := ht hk
    rw [Nat.add_sub_cancel] at h2 ⊢
    have e1 : (left a j).natAbs = 32768 * (left a (j + 1)).natAbs + digit a j := by rw [left, tdiv_abs, digit, tmod_abs]; omega
    rw [h] at e1
    simp at e1
    omega

theorem Tryd.infoInt : (Tryd.prog.info? 3).map (fun i => (i.zero, i.size, i.bytes)) = some (some (.int .i64 0), 1, 8) := by kernel_rfl
def digits (D : Nat → Nat) (k : Nat) : List Value := (List.range k).map fun i => Value.int .i64 (D i : Nat)
theorem digits_succ (D : Nat → Nat) (k : Nat) : digits D (k + 1) = digits D k ++ [.int .i64 (D k : Nat)] := by unfold digits; rw [List.range_succ, List.map_append]; rfl
theorem digits_len (D : Nat → Nat) (k : Nat) : (digits D k).length = k := by simp [digits]
theorem own_dslc {w : World} {base n c : Nat} {A : Option Addr} {D : Nat → Nat} (h : w.ownsRow base 3 1 (.slice A n c) n (digits D n)) : DSlc w A n D := by
  have h0 := h
  rcases Nat.eq_zero_or_pos n with hn | hn
  · exact Or.inl hn
  · rcases h.2 with ⟨e, _⟩ | ⟨g, cap, cur, e, _, hh, _⟩
    · injection e with e1 e2 e3; omega
    · injection e with e1 e2 e3
      subst e1 e3
      exact Or.inr ⟨g, 0, rfl, ⟨_, _, hh⟩, fun i hi => by rw [Nat.zero_add, h0.cellAt i (by omega)]; simp [digits, hi]⟩
theorem own_cap {w : World} {base e size n c : Nat} {A : Option Addr} {xs : List Value} (h : w.ownsRow base e size (.slice A n c) n xs) : n ≤ c := by
  rcases h.2 with ⟨e, h0⟩ | ⟨g, cap, cur, e, _, _, h3, _⟩
  · omega
  · injection e with e1 e2 e3
    subst e3
    omega

def OfRel (a : Int) (w : World) (k : Nat) (x : Value) (wr : World) : Prop :=
  x = .int .i64 (left a k) ∧ (0 < k → left a (k - 1) ≠ 0) ∧ Whole wr w.heap.size 30 #[.bool false, .slice none 0 0] ∧
  (∃ A c, Whole wr (w.heap.size + 1) 30 #[.bool (decide (a < 0)), .slice A k c] ∧ wr.ownsRow w.heap.size 3 1 (.slice A k c) k (digits (digit a) k)) ∧ Below w.heap.size w wr

set_option maxRecDepth 100000 in
set_option maxHeartbeats 1000000 in
theorem of_any (a : Int) (w : World) (h0 : -9223372036854775808 ≤ a) (h1 : a ≤ 9223372036854775807) :
    Calls Tryd.prog 14 #[.int .i64 a] w fun e w' => ∃ v, e = .returned v ∧ NumV w' v a ∧ Below w.heap.size w w' := by
  obtain ⟨i0, hi, hz0, hz1, hz2⟩ := info_parts Tryd.infoInt
  go_enter Tryd.func14, Tryd.ntmps14
  go_wp2
  go_loopg [0] 5 (fun g x wr => ∃ k, k ≤ 5 ∧ g = 5 - k ∧ OfRel a w k x wr)
  case atStart =>
    refine ⟨0, by omega, rfl, rfl, fun h => by omega, ?_, ⟨none, 0, ?_, World.ownsRow_nil _ _ _ _⟩, ?_⟩
    · exact (Whole.new w _ _).alloc _
    · exact heap_alloc2_new w _ _
    · exact ((Below.refl _ _).alloc (Nat.le_refl _) _).alloc (by simp) _
  case round =>
    obtain ⟨k, hk, rfl, rfl, ht, hw1, ⟨A, c, hw2, hown⟩, hb⟩ := hrel
    obtain ⟨x, hx⟩ : ∃ x, left a k = x := ⟨_, rfl⟩
    rw [hx]
    have HX := Lib.hid hx
    have hxb := left_bd a h0 h1 k
    rw [hx] at hxb
    obtain ⟨x0, x1⟩ := hxb
    obtain ⟨neg, hneg⟩ : ∃ neg, decide (a < 0) = neg := ⟨_, rfl⟩
    rw [hneg] at hw2
    have HNEG := Lib.hid hneg
    have HT := Lib.hid ht; have HOWN := Lib.hid hown; have HB := Lib.hid hb; have HW1 := Lib.hid hw1; have HW2 := Lib.hid hw2
    have c0 := hw2.cell 0
    have c1 := hw2.cell 1
    have f0 := hw2.free 0
    have f1 := hw2.free 1
    simp at c0 c1
    have d0 := hw1.cell 0
    have d1 := hw1.cell 1
    have g0 := hw1.free 0
    have g1 := hw1.free 1
    simp at d0 d1
    clear hx hneg ht hown hb hw1 hw2
    by_cases hx0 : x = 0
    · subst hx0
      go_wp2
      have hW : Whole ((wr.setCell ⟨w.heap.size, 0, none⟩ (.bool neg)).setCell ⟨w.heap.size, 1, none⟩ (.slice A k c)) w.heap.size 30 #[.bool neg, .slice A k c] := (HW1.out.put 0 _).put 1 _
      refine ret_num w.heap.size _ _ rfl rfl rfl hW ⟨_, rfl, ⟨k, c, A, digit a, by rw [HNEG.out], left_dig a k HX.out HT.out, ?_, own_cap HOWN.out, by omega⟩, ?_⟩
      · have h2 : ∀ u u', ((wr.setCell ⟨w.heap.size, 0, none⟩ u).setCell ⟨w.heap.size, 1, none⟩ u').ownsRow w.heap.size 3 1 (.slice A k c) k (digits (digit a) k) := fun u u' =>
          own_put (own_put HOWN.out (own_ne HOWN.out HW1.out (by decide)) u) (own_ne HOWN.out HW1.out (by decide)) u'
        exact own_dslc (h2 _ _)
      · exact (HB.out.setCell (by simp) _).setCell (by simp) _
    · have t0 : (x != 0) = true := by simpa using hx0
      obtain ⟨q, hq⟩ : ∃ q, x.tdiv 32768 = q := ⟨_, rfl⟩
      obtain ⟨r, hr⟩ : ∃ r, x.tmod 32768 = r := ⟨_, rfl⟩
      have q0 : -9223372036854775808 ≤ q ∧ q ≤ 9223372036854775807 := by rw [← hq]; exact tdiv_sign x x0 x1
      have hra := tmod_abs x
      rw [hr] at hra
      obtain ⟨q0, q1⟩ := q0
      have r0 : -32768 < r := by omega
      have r1 : r < 32768 := by omega
      have hz : ((digit a k : Nat) : Int) = if r < 0 then -r else r := by
        unfold digit
        rw [HX.out, hr]
        split <;> omega
      have hk5 := left_pos a k h0 h1 (by rw [HX.out]; exact hx0)
      have HQ : Hid (left a (k + 1) = q) := Lib.hid (by rw [left, HX.out]; exact hq)
      have HX0 := Lib.hid hx0
      have HZ := Lib.hid hz
      have hl := HB.out.size
      have hne := own_ne HOWN.out HW2.out (by decide)
      have HNE := Lib.hid hne
      clear hra hz hx0 hne
      rcases Int.lt_or_le r 0 with hs | hs
      all_goals
        first | (have ds : decide (r < 0) = true := decide_eq_true hs) | (have ds : decide (r < 0) = false := decide_eq_false (by omega))
        go_wp2_with (at_builtin; refine wpList_app1 _ rfl _ _ 28 rfl w.heap.size 3 i0 (.int .i64 0) 8 Tryd.underlying28 hi hz0 hz1 hz2 rfl _ k _ rfl HOWN.out _ rfl rfl (by omega) (by omega) hl ?_)
        intro A' c' w1 hown1 hgrow
        have hw2' := app_whole HW2.out HOWN.out (by decide) _ hgrow
        have hw1' := app_whole HW1.out HOWN.out (by decide) _ hgrow
        have hb' := app_below HB.out (Nat.le_refl _) hl HOWN.out _ hgrow
        have e0 := hw2'.cell 1
        have e1 := hw2'.free 1
        simp at e0
        have HN1 := Lib.hid (own_ne hown1 hw2' (by decide))
        have HO1 := Lib.hid hown1; have HA := Lib.hid hw2'; have HC := Lib.hid hw1'; have HD := Lib.hid hb'
        clear hown1 hgrow hw2' hw1' hb'
        go_wp2
        go_roundg (5 - (k + 1))
        case rel =>
          refine ⟨k + 1, by omega, rfl, by rw [HQ.out], fun _ => by rw [Nat.add_sub_cancel, HX.out]; exact HX0.out, HC.out.other (p := ⟨w.heap.size + 1, 1, none⟩) (by simp) _, ⟨A', c', ?_, ?_⟩, HD.out.setCell (by simp) _⟩
          · rw [HNEG.out]; exact HA.out.put 1 _
          · have h3 := own_put HO1.out (p := ⟨w.heap.size + 1, 1, none⟩) HN1.out (.slice A' (k + 1) c')
            rw [digits_succ, HZ.out]
            first | (rw [if_pos hs]; exact h3) | (rw [if_neg (by omega)]; exact h3)
        case measure => omega
end Go.Proofs.YtdfackmaimmapaaDoor
