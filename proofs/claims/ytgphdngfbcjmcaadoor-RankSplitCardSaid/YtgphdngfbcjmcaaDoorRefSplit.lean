/- The document's Split, and rank.Whole: contracts. -/
import Derived.Test.YtgphdngfbcjmcaaDoorSplit
namespace Go.Proofs.YtgphdngfbcjmcaaDoor
open Go.RowKit

theorem Tryd.infoRef : (Tryd.prog.info? 32).map (fun i => (i.zero, i.size, i.bytes)) = some (some (.agg #[.int .i64 0, .int .i64 0]), 2, 16) := by kernel_rfl

structure Ends' (t : Int) (n : Nat) (A : Nat → Int) : Prop where
  zero : A 0 = 0
  exact : ∀ k : Nat, k < n → (t - A k) % ((n : Int) - k) = 0 → A k + (t - A k) / ((n : Int) - k) = A (k + 1)
  more : ∀ k : Nat, k < n → (t - A k) % ((n : Int) - k) ≠ 0 → A k + ((t - A k) / ((n : Int) - k) + 1) = A (k + 1)
  lo : ∀ k, k ≤ n → 0 ≤ A k
  hi : ∀ k, k ≤ n → A k ≤ t

theorem push_pair {xs : List Value} {k : Nat} {A : Nat → Int} (h : ∀ j, j < k → xs[j * 2]? = some (.int .i64 (A j)) ∧ xs[j * 2 + 1]? = some (.int .i64 (A (j + 1)))) (hl : xs.length = k * 2) :
    ∀ j, j < k + 1 → (xs ++ [Value.int .i64 (A k), .int .i64 (A (k + 1))])[j * 2]? = some (.int .i64 (A j)) ∧ (xs ++ [Value.int .i64 (A k), .int .i64 (A (k + 1))])[j * 2 + 1]? = some (.int .i64 (A (j + 1))) := by
  intro j hj
  rcases (by omega : j < k ∨ j = k) with h1 | rfl
  · rw [List.getElem?_append_left (by omega), List.getElem?_append_left (by omega)]
    exact h j h1
  · rw [List.getElem?_append_right (by omega), List.getElem?_append_right (by omega), hl, Nat.sub_self, show j * 2 + 1 - j * 2 = 1 by omega]
    exact ⟨rfl, rfl⟩

def RefTells (n : Nat) (A : Nat → Int) (w : World) (e : Ending) (w' : World) : Prop :=
  ∃ v, e = .returned v ∧ (∃ b off cap : Nat, v = .slice (some ⟨b, off, none⟩) n cap) ∧ PartsV w' v n A (fun i => A (i + 1)) ∧ Below w.heap.size w w'

set_option maxHeartbeats 1000000 in
theorem refsplit_ok (t : Int) (n : Nat) (A : Nat → Int) (w : World) (t1 : t ≤ 9223372036854775807) (n0 : 1 ≤ n) (n1 : n ≤ 64) (hA : Ends' t n A) :
    Calls Tryd.prog 7 #[.int .i64 t, .int .i64 n] w (RefTells n A w) := by
  have HA := Lib.hid hA; clear hA
  obtain ⟨i0, hi, hz0, hz1, hz2⟩ := info_parts Tryd.infoRef
  go_enter Tryd.func7, Tryd.ntmps7
  go_wp2
  go_loopw [5, 6, 7] (fun v f i wr => ∃ (k : Nat) (xs : List Value), k ≤ n ∧ i = .int .i64 k ∧ f = .int .i64 (A k) ∧ wr.ownsRow w.heap.size 32 2 v k xs ∧ (∀ j, j < k → xs[j * 2]? = some (.int .i64 (A j)) ∧ xs[j * 2 + 1]? = some (.int .i64 (A (j + 1)))) ∧ Below w.heap.size w wr) (fun _ _ i _ => n - (intOf i).toNat)
  case atStart => exact ⟨0, [], Nat.zero_le _, rfl, by rw [HA.out.zero], World.ownsRow_nil _ _ _ _, fun j hj => by omega, Below.refl _ _⟩
  case round =>
    obtain ⟨k, xs, hk, rfl, rfl, ho, hxs, hb⟩ := hrel
    have HX := Lib.hid hxs; clear hxs
    by_cases hlt : k < n
    · have hlen : xs.length = k * 2 := ho.1
      have lo := HA.out.lo k hk
      have hi0 := HA.out.hi k hk
      have lo1 := HA.out.lo (k + 1) hlt
      have hi1 := HA.out.hi (k + 1) hlt
      have hs := hb.size
      by_cases hr : (t - A k) % ((n : Int) - k) = 0
      all_goals
        obtain ⟨q, hq⟩ : ∃ q : Int, (t - A k) / ((n : Int) - k) = q := ⟨_, rfl⟩
        have q0 : 0 ≤ q := by rw [← hq]; exact Int.ediv_nonneg (by omega) (by omega)
        first
          | (have e1 := HA.out.exact k hlt hr; have dr : ((t - A k) % ((n : Int) - k) == 0) = true := beq_iff_eq.2 hr; have dn : ((t - A k) % ((n : Int) - k) != 0) = false := by simp [hr])
          | (have e1 := HA.out.more k hlt hr; have dr : ((t - A k) % ((n : Int) - k) == 0) = false := beq_eq_false_iff_ne.2 hr; have dn : ((t - A k) % ((n : Int) - k) != 0) = true := by simp [hr])
        clear hr
        rw [hq] at e1
        go_wp2_with (at_builtin; refine wpList_append_own _ rfl _ _ 22 rfl w.heap.size 32 i0 (.agg #[.int .i64 0, .int .i64 0]) 2 16 Tryd.underlying22 hi hz0 hz1 hz2 rfl (by decide) _ _ _ rfl (ho.alloc _) ⟨wr.heap.size, 0, none⟩ 1 1 [.int .i64 (A k), .int .i64 (A (k + 1))] rfl rfl ?_ ?_ ?_ ?_ ?_ ?_)
        rotate_right
        · intro v' w5 hown' hgrow _
          have hbw5 := (hb.alloc hs (.cells #[.int .i64 (A k), .int .i64 (A (k + 1))] 32)).grown hgrow (by simp; omega) (fun k hk => (ho.lt k hk).1)
          have hpp := push_pair HX.out hlen
          have HPP := Lib.hid hpp
          clear ho hb hgrow hpp hlen
          go_wp2
          go_roundw
          case rel => exact ⟨k + 1, _, by omega, by go_num, rfl, hown', HPP.out, hbw5⟩
          case measure => simp [intOf]; omega
        · intro j u hj
          match j, hj with
          | 0, hj => simp at hj; subst hj; simp [Addr.add]
          | 1, hj => simp at hj; subst hj; simp [Addr.add]
        · intro u hu; simp at hu; rcases hu with rfl | rfl <;> rfl
        · unfold maxLen; omega
        · omega
        · simp; omega
    · obtain rfl : k = n := by omega
      go_wp2
      go_ret
      rcases ho.2 with ⟨_, hz⟩ | ⟨g, cap, cur, rfl, _⟩
      · omega
      · refine ⟨_, rfl, ⟨_, _, _, rfl⟩, Or.inr ⟨by omega, _, _, _, rfl, fun i hi => ?_⟩, hb⟩
        rw [Nat.zero_add, ho.cellAt (i * 2) (by omega), ho.cellAt (i * 2 + 1) (by omega)]
        exact HX.out i hi

/-- Do parts go one behind the other from 0 on, none backwards? And to where? -/
def okB (F T : Nat → Int) : Nat → Bool
  | 0 => true
  | k + 1 => okB F T k && (F k == (if k = 0 then 0 else T (k - 1))) && decide (F k ≤ T k)
def endI (T : Nat → Int) (k : Nat) : Int := if k = 0 then 0 else T (k - 1)
def WholeTells (F T : Nat → Int) (n : Nat) (w : World) (e : Ending) (w' : World) : Prop :=
  e = .returned (.tuple #[.int .i64 (if okB F T n then endI T n else 0), .bool (okB F T n)]) ∧ Below w.heap.size w w'
theorem okB_mono {F T : Nat → Int} {k : Nat} (h : okB F T k = false) : ∀ j, okB F T (k + j) = false
  | 0 => h
  | j + 1 => by rw [← Nat.add_assoc, okB, okB_mono h j]; rfl

set_option maxHeartbeats 1000000 in
theorem whole_any (b off len cap : Nat) (F T : Nat → Int) (w : World) (hlen : len ≤ 9223372036854775807)
    (hc : ∀ i, i < len → w.cell? ⟨b, off + i * 2, none⟩ = some (.int .i64 (F i)) ∧ w.cell? ⟨b, off + i * 2 + 1, none⟩ = some (.int .i64 (T i))) :
    Calls Tryd.prog 8 #[.slice (some ⟨b, off, none⟩) len cap] w (WholeTells F T len w) := by
  have HC := Lib.hid hc; clear hc
  go_enter Tryd.func8, Tryd.ntmps8
  go_wp2
  go_loopw [4, 9] (fun v i wr => ∃ k : Nat, k ≤ len ∧ i = .int .i64 k ∧ v = .int .i64 (endI T k) ∧ okB F T k = true ∧ Below w.heap.size w wr) (fun _ i _ => len - (intOf i).toNat)
  case atStart => exact ⟨0, Nat.zero_le _, rfl, rfl, rfl, Below.refl _ _⟩
  case round =>
    obtain ⟨k, hk, rfl, rfl, hok, hb⟩ := hrel
    have HOK := Lib.hid hok; clear hok
    have hs := hb.size
    by_cases hlt : k < len
    · have hbl : b < w.heap.size := World.block_lt_of_cell? _ _ (HC.out k hlt).1
      have c0 := (hb.cell (p := ⟨b, off + k * 2, none⟩) hbl).trans (HC.out k hlt).1
      have c1 := (hb.cell (p := ⟨b, off + k * 2 + 1, none⟩) hbl).trans (HC.out k hlt).2
      obtain ⟨x, hx⟩ : ∃ x, F k = x := ⟨_, rfl⟩
      obtain ⟨y, hy⟩ : ∃ y, T k = y := ⟨_, rfl⟩
      obtain ⟨z, hz⟩ : ∃ z, endI T k = z := ⟨_, rfl⟩
      have hstep : okB F T (k + 1) = ((x == z) && decide (x ≤ y)) := by rw [okB, HOK.out, hx, hy, ← hz]; rfl
      have hend : endI T (k + 1) = y := by rw [← hy]; rfl
      rw [hx] at c0
      rw [hy] at c1
      rw [hz]
      have HS := Lib.hid hstep; have HE := Lib.hid hend
      clear hx hy hz hstep hend HOK
      have hbad : okB F T (k + 1) = false → okB F T len = false := fun h => by
        have := okB_mono h (len - (k + 1))
        rwa [show k + 1 + (len - (k + 1)) = len by omega] at this
      have HB := Lib.hid hbad; clear hbad
      by_cases h1 : x = z
      · subst h1
        by_cases h2 : x ≤ y
        · have d2 : decide (y < x) = false := decide_eq_false (by omega)
          go_wp2
          go_roundw
          case rel => exact ⟨k + 1, by omega, by go_num, by rw [HE.out], by rw [HS.out]; simp [h2], hb.alloc hs _⟩
          case measure => simp [intOf]; omega
        · have d2 : decide (y < x) = true := decide_eq_true (by omega)
          have ho : okB F T len = false := HB.out (by rw [HS.out]; simp; omega)
          have HO := Lib.hid ho; clear ho
          go_wp2
          go_ret2
          refine ⟨?_, hb.alloc hs _⟩
          rw [HO.out]; rfl
      · have d1 : (x != z) = true := bne_iff_ne.2 h1
        have ho : okB F T len = false := HB.out (by rw [HS.out]; simp [h1])
        have HO := Lib.hid ho; clear ho
        go_wp2
        go_ret2
        refine ⟨?_, hb.alloc hs _⟩
        rw [HO.out]; rfl
    · obtain rfl : k = len := by omega
      go_wp2
      go_ret2
      refine ⟨?_, hb⟩
      rw [HOK.out]; rfl
theorem whole_none (ao : Option Addr) (cap : Nat) (F T : Nat → Int) (w : World) :
    Calls Tryd.prog 8 #[.slice ao 0 cap] w (WholeTells F T 0 w) := by
  go_enter Tryd.func8, Tryd.ntmps8
  go_wp2
  refine wp_loop_rounds 1 ?_
  rw [rounds_succ]
  go_wp2
  go_ret2
  exact ⟨rfl, Below.refl _ _⟩
theorem whole_told (v : Value) (n : Nat) (F T : Nat → Int) (w : World) (hn : n ≤ 9223372036854775807) (hv : PartsV w v n F T) : Calls Tryd.prog 8 #[v] w (WholeTells F T n w) := by
  rcases hv with ⟨rfl, ao, cap, rfl⟩ | ⟨h0, b, off, cap, rfl, hc⟩
  · exact whole_none ao cap F T w
  · exact whole_any b off n cap F T w hn hc
end Go.Proofs.YtgphdngfbcjmcaaDoor
