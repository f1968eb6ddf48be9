/- fretworkref02: less, at, trim: contracts. -/
import Derived.Test.YtdfackmaimmapaaDoorDig
import Derived.Test.YtdfackmaimmapaaDoorTold
import Derived.Deep.LoopGhost
import Derived.Deep.DeepCutAuto
import Derived.Deep.QuietTactic
import Derived.BigQuiet
import Derived.WalkSmall
namespace Go.Proofs.YtdfackmaimmapaaDoor
open Go.RowKit

/-- A block of elements of a type. -/
def Typed (w : World) (b : Nat) (t : TypeId) : Prop := ∃ (cs : Array Value) (fr : Nat × Nat), w.heap[b]? = some (.cells cs t fr)
theorem Typed.lt {w : World} {b : Nat} {t : TypeId} (h : Typed w b t) : b < w.heap.size := by
  obtain ⟨cs, fr, h⟩ := h
  exact (Array.getElem?_eq_some_iff.1 h).1
theorem Typed.keep {w w' : World} {b : Nat} {t : TypeId} (h : Typed w b t) (hb : w'.heap[b]? = w.heap[b]?) : Typed w' b t := by
  obtain ⟨cs, fr, h⟩ := h
  exact ⟨cs, fr, hb.trans h⟩
theorem Typed.put {w : World} {b : Nat} {t : TypeId} (h : Typed w b t) (p : Addr) (x : Value) : Typed (w.setCell p x) b t := by
  obtain ⟨cs, fr, h⟩ := h
  by_cases e : p.block = b
  · refine ⟨if p.spot.isSome then cs else cs.setIfInBounds p.off x, fr, ?_⟩
    subst e
    simp [World.setCell, Array.getElem?_modify, h]
  · refine ⟨cs, fr, ?_⟩
    simp [World.setCell, Array.getElem?_modify, h, e]
/-- A slice whose elements are digits. -/
def DSlc (w : World) (A : Option Addr) (n : Nat) (D : Nat → Nat) : Prop := n = 0 ∨ ∃ b off, A = some ⟨b, off, none⟩ ∧ Typed w b 3 ∧ ∀ i, i < n → w.cell? ⟨b, off + i, none⟩ = some (.int .i64 (D i : Nat))
theorem DSlc.keep {w w' : World} {A : Option Addr} {n : Nat} {D : Nat → Nat} (h : DSlc w A n D) (hb : ∀ b, Typed w b 3 → w'.heap[b]? = w.heap[b]?) : DSlc w' A n D := by
  rcases h with h | ⟨b, off, e, ht, hc⟩
  · exact Or.inl h
  · refine Or.inr ⟨b, off, e, ht.keep (hb b ht), fun i hi => ?_⟩
    rw [World.cell?_of_block (w := w) (w' := w') (a := ⟨b, off + i, none⟩) (hb b ht)]
    exact hc i hi
theorem DSlc.below {w w' : World} {A : Option Addr} {n : Nat} {D : Nat → Nat} (h : DSlc w A n D) {B : Nat} (hb : Below B w w') (hB : w.heap.size ≤ B) : DSlc w' A n D :=
  h.keep fun b ht => hb.block b (Nat.lt_of_lt_of_le ht.lt hB)
theorem DSlc.drewN {w : World} {A : Option Addr} {n : Nat} {D : Nat → Nat} (h : DSlc w A n D) (k : Nat) : DSlc (w.drewN k) A n D := h
theorem DSlc.pos {w : World} {A : Option Addr} {n : Nat} {D : Nat → Nat} (h : DSlc w A n D) {i : Nat} (hi : i < n) : ∃ b off, A = some ⟨b, off, none⟩ ∧ w.cell? ⟨b, off + i, none⟩ = some (.int .i64 (D i : Nat)) := by
  rcases h with h | ⟨b, off, e, _, hc⟩
  · omega
  · exact ⟨b, off, e, hc i hi⟩

def Alike (D E : Nat → Nat) (k n : Nat) : Prop := ∀ i, k ≤ i → i < n → D i = E i

set_option maxHeartbeats 1000000 in
theorem less_any (A1 A2 : Option Addr) (n1 n2 c1 c2 m1 m2 : Nat) (D1 D2 : Nat → Nat) (w : World) (h1 : DSlc w A1 n1 D1) (h2 : DSlc w A2 n2 D2) (d1 : Dig n1 D1 m1) (d2 : Dig n2 D2 m2) (k1 : n1 ≤ 1000) (k2 : n2 ≤ 1000) (r : Bool) (hr : decide (m1 < m2) = r) :
    Calls Tryd.prog 28 #[.slice A1 n1 c1, .slice A2 n2 c2] w fun e w' => e = .returned (.bool r) ∧ ∃ d, w' = w.drewN d := by
  by_cases hn : n1 = n2
  · obtain rfl := hn
    have H1 := Lib.hid h1; have H2 := Lib.hid h2; have HD1 := Lib.hid d1; have HD2 := Lib.hid d2; have HR := Lib.hid hr
    clear h1 h2 d1 d2 hr
    have t0 : ((n1 : Int) != n1) = false := by simp
    go_enter Tryd.func28, Tryd.ntmps28
    go_wp2
    go_loopg [5] n1 (fun g x wr => ∃ k, k ≤ n1 ∧ k = g ∧ x = .int .i64 ((k : Int) - 1) ∧ Alike D1 D2 k n1 ∧ ∃ d, wr = w.drewN d)
    case atStart => exact ⟨n1, Nat.le_refl _, rfl, rfl, fun i h1 h2 => by omega, 0, rfl⟩
    case round =>
      obtain ⟨k, hk, rfl, rfl, hal, d, rfl⟩ := hrel
      have HAL := Lib.hid hal
      clear hal
      rcases k with _ | j
      · go_wp2
        go_ret
        have e : m1 = m2 := by
          have x1 := HD1.out.val
          have x2 := HD2.out.val
          rw [← x1, ← x2]
          exact pv_congr _ fun i hi => HAL.out i (by omega) hi
        exact ⟨by rw [← HR.out, e]; simp, d, rfl⟩
      · obtain ⟨b1, o1, rfl, hc1⟩ := H1.out.pos (show j < n1 by omega)
        obtain ⟨b2, o2, rfl, hc2⟩ := H2.out.pos (show j < n1 by omega)
        have ej : ((j + 1 : Nat) : Int) - 1 = (j : Int) := by omega
        rw [ej]
        clear ej
        by_cases hne : D1 j = D2 j
        · obtain ⟨z, hz⟩ : ∃ z : Int, ((D1 j : Nat) : Int) = z := ⟨_, rfl⟩
          have hz2 : ((D2 j : Nat) : Int) = z := by rw [← hne]; exact hz
          rw [hz] at hc1
          rw [hz2] at hc2
          have HN := Lib.hid hne
          clear hz hz2 hne
          have t1 : (z != z) = false := by simp
          have i0 : (0 : Int) ≤ j := by omega
          have i1 : (j : Int) < n1 := by omega
          go_wp2
          go_quiet (fail)
          go_wp2
          go_roundg j
          case rel =>
            refine ⟨j, by omega, rfl, rfl, fun i h1 h2 => ?_, _, rfl⟩
            rcases Nat.eq_or_lt_of_le h1 with h | h
            · rw [← h]; exact HN.out
            · exact HAL.out i (by omega) h2
          case measure => omega
        · obtain ⟨z1, hz1⟩ : ∃ z : Int, ((D1 j : Nat) : Int) = z := ⟨_, rfl⟩
          obtain ⟨z2, hz2⟩ : ∃ z : Int, ((D2 j : Nat) : Int) = z := ⟨_, rfl⟩
          rw [hz1] at hc1
          rw [hz2] at hc2
          have t1 : (z1 != z2) = true := by simp; omega
          have t2 : decide (z1 < z2) = r := by
            rw [← HR.out]
            have x1 := HD1.out.val
            have x2 := HD2.out.val
            rcases Nat.lt_or_ge (D1 j) (D2 j) with h | h
            · have := pv_top_lt (k := j) (n := n1) (by omega) HD1.out.small (fun i ha hb => HAL.out i (by omega) hb) h
              rw [decide_eq_true (by omega), decide_eq_true (by omega)]
            · have := pv_top_lt (k := j) (n := n1) (by omega) HD2.out.small (fun i ha hb => (HAL.out i (by omega) hb).symm) (show D2 j < D1 j by omega)
              rw [decide_eq_false (by omega), decide_eq_false (by omega)]
          clear hz1 hz2 hne
          have i0 : (0 : Int) ≤ j := by omega
          have i1 : (j : Int) < n1 := by omega
          go_wp2
          go_quiet (fail)
          go_wp2
          go_quiet (fail)
          go_wp2
          go_ret
          exact ⟨rfl, _, by rw [World.drewN_drewN, World.drewN_drewN]⟩
  · have t0 : ((n1 : Int) != n2) = true := by simp; omega
    have t1 : decide (n1 < n2) = r := by
      rw [← hr]
      rcases Nat.lt_or_ge n1 n2 with h | h
      · have := d1.len_lt d2 h
        rw [decide_eq_true (by omega), decide_eq_true (by omega)]
      · have := d2.len_lt d1 (by omega)
        rw [decide_eq_false (by omega), decide_eq_false (by omega)]
    clear hr h1 h2 d1 d2 hn
    go_enter Tryd.func28, Tryd.ntmps28
    go_wp2
    go_ret
    exact ⟨rfl, 0, rfl⟩
end Go.Proofs.YtdfackmaimmapaaDoor
