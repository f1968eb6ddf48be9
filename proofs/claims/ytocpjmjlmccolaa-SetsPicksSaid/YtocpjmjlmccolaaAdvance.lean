/- sets.advance: its contract. -/
import Derived.Test.YtocpjmjlmccolaaSameInts
import Derived.Test.YtocpjmjlmccolaaPicksP
namespace Go.Proofs.Ytocpjmjlmccolaa
open Go.RowKit

/-- Natural numbers as cells. -/
def nums (f : Nat → Nat) (n : Nat) : Array Value := ((List.range n).map fun i => Value.int .i64 (f i : Nat)).toArray
theorem nums_size (f : Nat → Nat) (n : Nat) : (nums f n).size = n := by simp [nums]
theorem nums_at {f : Nat → Nat} {n i : Nat} (h : i < n) : (nums f n)[i]? = some (.int .i64 (f i : Nat)) := by simp [nums, h]
theorem nums_congr {f g : Nat → Nat} {n : Nat} (h : ∀ i, i < n → f i = g i) : nums f n = nums g n := by
  unfold nums
  congr 1
  exact List.map_congr_left fun i hi => by rw [h i (List.mem_range.1 hi)]
theorem nums_set (f : Nat → Nat) (n m x : Nat) (hm : m < n) : (nums f n).setIfInBounds m (.int .i64 (x : Nat)) = nums (fun i => if i = m then x else f i) n := by
  apply Array.ext_getElem?
  intro i
  rw [Array.getElem?_setIfInBounds]
  rcases Nat.lt_or_ge i n with hi | hi
  · rw [nums_at hi, nums_at hi, nums_size]
    by_cases h : m = i
    · subst h; simp [hi]
    · have h' : ¬ i = m := fun e => h e.symm
      simp [h, h']
  · have e1 : (nums f n)[i]? = none := Array.getElem?_eq_none (by rw [nums_size]; exact hi)
    have e2 : (nums (fun i => if i = m then x else f i) n)[i]? = none := Array.getElem?_eq_none (by rw [nums_size]; exact hi)
    rw [e1, e2, if_neg (by omega)]

theorem grown_setCell (w : World) (g i : Nat) (u : Value) : w.grownBy (w.setCell ⟨g, i, none⟩ u) (some g) :=
  ⟨rfl, rfl, rfl, by simp [World.setCell], fun j _ hne => Below.heap_setCell w ⟨g, i, none⟩ u j (fun e => hne (by rw [e]))⟩

/-- How advance goes on. -/
def AdvTo (k n g : Nat) (f : Nat → Nat) (w : World) (e : Ending) (w' : World) : Prop :=
  ((∀ j, j < k → f j + k = n + j) ∧ e = .returned (.bool false) ∧ w' = w) ∨
  ∃ i, i < k ∧ (∀ j, i < j → j < k → f j + k = n + j) ∧ f i + k ≠ n + i ∧ e = .returned (.bool true) ∧ Whole w' g 3 (nums (fun j => if j < i then f j else f i + 1 + (j - i)) k) ∧ w.grownBy w' (some g)

/-- The places while they are laid anew. -/
def layF (f : Nat → Nat) (i x q : Nat) : Nat → Nat := fun j => if j < i then f j else if j ≤ q then x + 1 + (j - i) else f j

set_option maxRecDepth 100000 in
set_option maxHeartbeats 2000000 in
theorem advance_any (k n g : Nat) (f : Nat → Nat) (w : World) (hn : n ≤ 1000000) (hkn : k ≤ n) (hf : ∀ i, i < k → f i < n) (hw : Whole w g 3 (nums f k)) :
    Calls Try.prog 35 #[.slice (some ⟨g, 0, none⟩) k k, .int .i64 n] w (AdvTo k n g f w) := by
  have HF := Lib.hid hf; have HW := Lib.hid hw
  have hgl := hw.lt
  clear hf hw
  go_enter Try.func35, Try.ntmps35
  go_wp2_with fail
  go_loopg [6] k (fun gh x wr => ∃ m, m ≤ k ∧ m = gh ∧ x = .int .i64 ((m : Int) - 1) ∧ (∀ j, m ≤ j → j < k → f j + k = n + j) ∧ wr = w)
  case atStart => exact ⟨k, Nat.le_refl _, rfl, rfl, fun j h1 h2 => by omega, rfl⟩
  case round =>
    obtain ⟨m, hm, rfl, rfl, hend, rfl⟩ := hrel
    have HE := Lib.hid hend
    clear hend
    rcases m with _ | i
    · have t1 : decide ((0 : Int) ≤ -1) = false := by decide
      have e0 : (((0 : Nat) : Int) - 1) = -1 := rfl
      rw [e0]
      go_wp2_with fail
      go_ret
      exact Or.inl ⟨fun j hj => HE.out j (by omega) hj, rfl, rfl⟩
    · have e0 : (((i + 1 : Nat) : Int) - 1) = (i : Int) := by omega
      rw [e0]
      have hc := HW.out.cell i
      rw [nums_at (by omega)] at hc
      have hfr := HW.out.free i
      have hxn := HF.out i (by omega)
      obtain ⟨x, hx⟩ : ∃ x, f i = x := ⟨_, rfl⟩
      rw [hx] at hc hxn
      have HX := Lib.hid hx
      have t1 : decide ((0 : Int) ≤ i) = true := decide_eq_true (by omega)
      have i1 : (i : Int) < k := by omega
      have i2 : (0 : Int) ≤ i := by omega
      have hik : i < k := by omega
      have HIK := Lib.hid hik
      clear hx
      by_cases hx0 : x + k = n + i
      · have t2 : ((x : Int) == (n : Int) - (k : Int) + (i : Int)) = true := beq_iff_eq.2 (by omega)
        have HX0 := Lib.hid hx0
        clear hx0
        go_wp2_with fail
        go_roundg i
        case rel => exact ⟨i, by have := HIK.out; omega, rfl, by go_num, fun j h1 h2 => by
          rcases (by omega : j = i ∨ i + 1 ≤ j) with rfl | h
          · rw [HX.out]; exact HX0.out
          · exact HE.out j h h2, rfl⟩
        case measure => omega
      · have t2 : ((x : Int) == (n : Int) - (k : Int) + (i : Int)) = false := beq_eq_false_iff_ne.2 (by omega)
        have HX0 := Lib.hid hx0
        obtain ⟨w1, hw1⟩ : ∃ W, wr.setCell ⟨g, i, none⟩ (.int .i64 ((x + 1 : Nat) : Int)) = W := ⟨_, rfl⟩
        have hw1' : wr.setCell ⟨g, i, none⟩ (.int .i64 ((x : Int) + 1)) = w1 := by rw [← hw1]; simp
        have HST : Hid (Whole w1 g 3 (nums (layF f i x i) k)) := Lib.hid (by
          rw [← hw1]
          have := HW.out.put i (.int .i64 ((x + 1 : Nat) : Int))
          rw [nums_set _ _ _ _ hik] at this
          refine (nums_congr fun j hj => ?_) ▸ this
          unfold layF
          by_cases h1 : j = i
          · subst h1; simp
          · rw [if_neg h1]
            by_cases h2 : j < i
            · rw [if_pos h2]
            · rw [if_neg h2, if_neg (by omega)])
        have HG1 : Hid (wr.grownBy w1 (some g)) := Lib.hid (by rw [← hw1]; exact grown_setCell wr g i _)
        clear hx0 hw1
        go_wp2_with fail
        clear hw1' hc hfr
        obtain ⟨wo, rfl⟩ : ∃ x, x = wr := ⟨_, rfl⟩
        go_loopg [7] (k - (i + 1)) (fun gh y wr => ∃ q, i ≤ q ∧ q < k ∧ gh = k - (q + 1) ∧ y = .int .i64 ((q : Int) + 1) ∧ Whole wr g 3 (nums (layF f i x q) k) ∧ wo.grownBy wr (some g))
        case atStart => exact ⟨i, Nat.le_refl _, HIK.out, rfl, rfl, HST.out, HG1.out⟩
        case round =>
          obtain ⟨q, hq1, hq2, rfl, rfl, hws, hgs⟩ := hrel
          have HWS := Lib.hid hws; have HGS := Lib.hid hgs
          have HQ1 := Lib.hid hq1
          have hgl2 := hws.lt
          by_cases hlt : q + 1 < k
          · have t3 : decide ((q : Int) + 1 < k) = true := decide_eq_true (by omega)
            have t3' : decide (q + 1 < k) = true := decide_eq_true hlt
            have hc := hws.cell q
            rw [nums_at hq2] at hc
            have hfr := hws.free (q + 1)
            have hc2 := hws.cell (q + 1)
            rw [nums_at hlt] at hc2
            have hv : layF f i x q q = x + 1 + (q - i) := by unfold layF; rw [if_neg (by omega), if_pos (Nat.le_refl _)]
            rw [hv] at hc
            obtain ⟨y, hy⟩ : ∃ y, x + 1 + (q - i) = y := ⟨_, rfl⟩
            have hyn : y ≤ 3000000 := by omega
            rw [hy] at hc
            have HY := Lib.hid hy
            have HLT := Lib.hid hlt
            have i3 : (q : Int) + 1 < k := by omega
            have i4 : (0 : Int) ≤ q := by omega
            have i5 : (q : Int) < k := by omega
            obtain ⟨z, hz⟩ : ∃ z, Value.int .i64 ((layF f i x q (q + 1) : Nat) : Int) = z := ⟨_, rfl⟩
            rw [hz] at hc2
            have HN : Hid (Whole (wr.setCell ⟨g, q + 1, none⟩ (.int .i64 ((y : Int) + 1))) g 3 (nums (layF f i x (q + 1)) k)) := Lib.hid (by
              have e1 : ((y : Int) + 1) = ((y + 1 : Nat) : Int) := by omega
              rw [e1]
              have := hws.put (q + 1) (.int .i64 ((y + 1 : Nat) : Int))
              rw [nums_set _ _ _ _ hlt] at this
              refine (nums_congr fun j hj => ?_) ▸ this
              unfold layF
              by_cases h1 : j = q + 1
              · subst h1
                rw [if_pos rfl, if_neg (by omega), if_pos (Nat.le_refl _)]
                omega
              · rw [if_neg h1]
                by_cases h2 : j < i
                · rw [if_pos h2, if_pos h2]
                · rw [if_neg h2, if_neg h2]
                  by_cases h3 : j ≤ q
                  · rw [if_pos h3, if_pos (by omega)]
                  · rw [if_neg h3, if_neg (by omega)])
            have HGN : Hid (wo.grownBy (wr.setCell ⟨g, q + 1, none⟩ (.int .i64 ((y : Int) + 1))) (some g)) := Lib.hid (hgs.trans (grown_setCell wr g (q + 1) _))
            clear hws hgs hv hy hz hlt
            go_wp2_with fail
            go_roundg (k - (q + 1 + 1))
            case rel => exact ⟨q + 1, by have := HQ1.out; omega, HLT.out, rfl, by go_num, HN.out, HGN.out⟩
            case measure => have := HLT.out; omega
          · have t3 : decide ((q : Int) + 1 < k) = false := decide_eq_false (by omega)
            have t3' : decide (q + 1 < k) = false := decide_eq_false hlt
            have hqk : q + 1 = k := by omega
            have HQK := Lib.hid hqk
            clear hws hgs hlt hqk
            go_wp2_with fail
            go_ret
            refine Or.inr ⟨i, HIK.out, fun j h1 h2 => HE.out j (by omega) h2, by rw [HX.out]; exact HX0.out, rfl, ?_, HGS.out⟩
            have h := HWS.out
            refine (nums_congr fun j hj => ?_) ▸ h
            have := HQK.out
            unfold layF
            by_cases h2 : j < i
            · rw [if_pos h2, if_pos h2]
            · rw [if_neg h2, if_neg h2, if_pos (by omega), HX.out]
end Go.Proofs.Ytocpjmjlmccolaa
