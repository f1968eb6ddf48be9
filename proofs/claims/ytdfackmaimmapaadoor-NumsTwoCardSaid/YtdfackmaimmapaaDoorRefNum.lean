/- fretworkref02: at, trim, Of: contracts. -/
import Derived.Test.YtdfackmaimmapaaDoorRefLess
import Derived.Test.YtdfackmaimmapaaDoorMem
namespace Go.Proofs.YtdfackmaimmapaaDoor
open Go.RowKit

/-- A digit, or 0. -/
def dz (D : Nat → Nat) (n i : Nat) : Nat := if i < n then D i else 0

theorem at_any (A : Option Addr) (n c i : Nat) (D : Nat → Nat) (w : World) (h : DSlc w A n D) (_hn : n ≤ 1000) (_hi : i ≤ 1000) (z : Int) (hz : ((dz D n i : Nat) : Int) = z) :
    Calls Tryd.prog 29 #[.slice A n c, .int .i64 i] w fun e w' => e = .returned (.int .i64 z) ∧ w = w' := by
  unfold dz at hz
  by_cases hlt : i < n
  · rw [if_pos hlt] at hz
    obtain ⟨b, off, rfl, hc⟩ := h.pos hlt
    rw [hz] at hc
    have i0 : (0 : Int) ≤ i := by omega
    have i1 : (i : Int) < n := by omega
    clear h hz
    go_enter Tryd.func29, Tryd.ntmps29
    go_wp2
    go_ret
    exact ⟨rfl, rfl⟩
  · rw [if_neg hlt] at hz
    have t0 : decide (i < n) = false := decide_eq_false hlt
    clear h
    subst hz
    go_enter Tryd.func29, Tryd.ntmps29
    go_wp2
    go_ret
    exact ⟨rfl, rfl⟩

def Zer (D : Nat → Nat) (k n : Nat) : Prop := ∀ i, k ≤ i → i < n → D i = 0
/-- What trim tells: the number without noughts. -/
def Trims (neg : Bool) (A : Option Addr) (n c : Nat) (D : Nat → Nat) (w : World) (e : Ending) (w' : World) : Prop :=
  ∃ k, k ≤ n ∧ e = .returned (.agg #[.bool (neg && decide (0 < k)), .slice A k c]) ∧ Dig k D (pv D n) ∧ Below w.heap.size w w'

theorem Tryd.numSize : (Tryd.prog.info? 30).map (·.size) = some 2 := by kernel_rfl
theorem ret_num {fn : Func} {R : Ending → World → Prop} {a : Act} {w : World} {p : Tmp} (g : Nat) (x y : Value) (h : fn.results = #[.cell p 30]) (hp : a.tmps.getD p undef = .pointer (some ⟨g, 0, none⟩)) (hd : a.defers = [])
    (hw : Whole w g 30 #[x, y]) (hR : R (.returned (.agg #[x, y])) w) : bodyPost Tryd.prog fn R .ret a w :=
  bodyPost_ret (results_cell_row h _ w g _ _ _ _ hp hw Tryd.underlying30 rfl Tryd.numSize) hd hR

set_option maxHeartbeats 1000000 in
theorem trim_any (neg : Bool) (A : Option Addr) (n c : Nat) (D : Nat → Nat) (w : World) (h : DSlc w A n D) (hn : n ≤ 1000) (hnc : n ≤ c) (hD : ∀ i, i < n → D i < 32768) :
    Calls Tryd.prog 30 #[.agg #[.bool neg, .slice A n c]] w (Trims neg A n c D w) := by
  have H := Lib.hid h; have HD := Lib.hid hD
  clear h hD
  go_enter Tryd.func30, Tryd.ntmps30
  go_wp2
  go_loopg [] n (fun g wr => ∃ k, k ≤ n ∧ k = g ∧ Zer D k n ∧ Whole wr w.heap.size 30 #[.bool neg, .slice A k c] ∧ Whole wr (w.heap.size + 1) 30 #[.bool false, .slice none 0 0] ∧ Below w.heap.size w wr)
  case atStart =>
    refine ⟨n, Nat.le_refl _, rfl, fun i h1 h2 => by omega, (Whole.new w _ _).alloc _, heap_alloc2_new w _ _, ((Below.refl _ _).alloc (Nat.le_refl _) _).alloc (by simp) _⟩
  case round =>
    obtain ⟨k, hk, rfl, hz, hw1, hw2, hb⟩ := hrel
    have HZ := Lib.hid hz
    have c0 := hw1.cell 0
    have c1 := hw1.cell 1
    have f1 := hw1.free 1
    have f0 := hw1.free 0
    simp at c0 c1
    have HW1 := Lib.hid hw1; have HW2 := Lib.hid hw2
    have d0 := hw2.cell 0
    have d1 := hw2.cell 1
    have g0 := hw2.free 0
    have g1 := hw2.free 1
    simp at d0 d1
    have HB := Lib.hid hb
    clear hz hw1 hw2 hb
    rcases k with _ | j
    · go_wp2
      have hW : Whole (((wr.setCell ⟨w.heap.size, 0, none⟩ (.bool false)).setCell ⟨w.heap.size + 1, 0, none⟩ (.bool false)).setCell ⟨w.heap.size + 1, 1, none⟩ (.slice A 0 c)) (w.heap.size + 1) 30 #[.bool false, .slice A 0 c] := ((HW2.out.other (p := ⟨w.heap.size, 0, none⟩) (by simp) _).put 0 _).put 1 _
      refine ret_num (w.heap.size + 1) _ _ rfl rfl rfl hW ⟨0, Nat.zero_le _, by simp, ⟨fun i hi => by omega, ?_, fun h => by omega⟩, ?_⟩
      · have := pv_zero (D := D) (n := 0) n (fun i h1 h2 => HZ.out i h1 (by omega))
        rw [Nat.zero_add] at this
        exact this.symm
      · exact ((HB.out.setCell (by simp) _).setCell (by simp) _).setCell (by simp) _
    · obtain ⟨b1, o1, rfl, hc1⟩ := (H.out.below HB.out (Nat.le_refl _)).pos (show j < n by omega)
      have ej : ((j + 1 : Nat) : Int) = (j : Int) + 1 := by omega
      have i0 : (0 : Int) ≤ j := by omega
      by_cases hd : D j = 0
      · rw [hd] at hc1
        have HD0 := Lib.hid hd
        clear hd
        go_wp2
        go_roundg j
        case rel =>
          refine ⟨j, by omega, rfl, fun i h1 h2 => ?_, HW1.out.put 1 _, HW2.out.other (p := ⟨w.heap.size, 1, none⟩) (by simp) _, HB.out.setCell (by simp) _⟩
          rcases Nat.eq_or_lt_of_le h1 with h | h
          · rw [← h]; exact HD0.out
          · exact HZ.out i (by omega) h2
        case measure => omega
      · have t0 : (((D j : Nat) : Int) == 0) = false := by simp; omega
        obtain ⟨z, hz⟩ : ∃ z : Int, ((D j : Nat) : Int) = z := ⟨_, rfl⟩
        rw [hz] at hc1 t0
        have HD0 := Lib.hid hd
        clear hd hz
        go_wp2
        have hW : Whole ((wr.setCell ⟨w.heap.size + 1, 0, none⟩ (.bool neg)).setCell ⟨w.heap.size + 1, 1, none⟩ (.slice (some ⟨b1, o1, none⟩) (j + 1) c)) (w.heap.size + 1) 30 #[.bool neg, .slice (some ⟨b1, o1, none⟩) (j + 1) c] := (HW2.out.put 0 _).put 1 _
        refine ret_num (w.heap.size + 1) _ _ rfl rfl rfl hW ⟨j + 1, by omega, by simp, ⟨fun i hi => HD.out i (by omega), ?_, fun _ => HD0.out⟩, ?_⟩
        · have := pv_zero (D := D) (n := j + 1) (n - (j + 1)) (fun i h1 h2 => HZ.out i h1 (by omega))
          rw [show j + 1 + (n - (j + 1)) = n by omega] at this
          exact this.symm
        · exact (HB.out.setCell (by simp) _).setCell (by simp) _
end Go.Proofs.YtdfackmaimmapaaDoor
