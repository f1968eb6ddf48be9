/- rank: how paths go on: ends; branch.total, branch.start, Ranks.Total: contracts. -/
import Derived.Test.YtgphdngfbcjmcaaGreatDoorOdag2
namespace Go.Proofs.YtgphdngfbcjmcaaGreatDoor
open Go.RowKit

/-- How many paths go on by each and those ahead. -/
def endsL (f : Int → Nat) (L : List Int) : List Int := (List.range L.length).map fun j => (((L.take (j + 1)).map f).sum : Int)
theorem endsL_len (f : Int → Nat) (L : List Int) : (endsL f L).length = L.length := by simp [endsL]
theorem endsL_at (f : Int → Nat) (L : List Int) {j : Nat} (h : j < L.length) : (endsL f L).getD j 0 = (((L.take (j + 1)).map f).sum : Int) := by
  simp [endsL, List.getD, h]
theorem sum_take_succ (f : Int → Nat) {L : List Int} {j : Nat} (h : j < L.length) : ((L.take (j + 1)).map f).sum = ((L.take j).map f).sum + f (L.getD j 0) := by
  rw [List.take_succ_eq_append_getElem h, List.map_append, List.sum_append]
  simp [List.getD, h]
theorem sum_take_le (f : Int → Nat) : ∀ (L : List Int) (j : Nat), ((L.take j).map f).sum ≤ (L.map f).sum
  | [], j => by simp
  | a :: t, 0 => by simp
  | a :: t, j + 1 => by
    have := sum_take_le f t j
    simp only [List.take_succ_cons, List.map_cons, List.sum_cons]
    omega
/-- The last of some ends. -/
def lastE (E : List Int) : Int := E.getD (E.length - 1) 0
theorem lastE_ends (f : Int → Nat) (L : List Int) : lastE (endsL f L) = ((L.map f).sum : Nat) := by
  unfold lastE
  rw [endsL_len]
  rcases Nat.eq_zero_or_pos L.length with h | h
  · have : L = [] := List.eq_nil_of_length_eq_zero h
    subst this
    rfl
  · rw [endsL_at f L (by omega), show L.length - 1 + 1 = L.length by omega, List.take_length]

set_option maxRecDepth 100000 in
theorem total_any {w : World} {vt ve : Value} {E : List Int} (he : SeqV w ve E) (hl : E.length ≤ 1000000) :
    Calls Tryz.prog 30 #[.agg #[vt, ve]] w fun e w' => e = .returned (.int .i64 (lastE E)) ∧ Below w.heap.size w w' := by
  obtain ⟨A, c, rfl⟩ := IntsV.form he
  obtain ⟨n, hn⟩ : ∃ n, E.length = n := ⟨_, rfl⟩
  have hb1 : Below w.heap.size w (w.alloc (.cells #[vt, .slice A n c] 65)) := (Below.refl _ _).alloc (Nat.le_refl _) _
  have HB := Lib.hid hb1
  rw [hn] at hl ⊢
  by_cases h0 : n = 0
  · subst h0
    have hE : E = [] := List.eq_nil_of_length_eq_zero hn
    subst hE
    clear he hn hb1 hl
    go_enter Tryz.func30, Tryz.ntmps30
    go_wp2_with fail
    go_ret
    exact ⟨rfl, HB.out⟩
  · obtain ⟨b, off, rfl, hc⟩ := he.pos (i := n - 1) (by omega)
    obtain ⟨z, hz⟩ : ∃ z, E.getD (n - 1) 0 = z := ⟨_, rfl⟩
    rw [hz] at hc
    have HZ : Hid (lastE E = z) := Lib.hid (by unfold lastE; rw [hn, hz])
    obtain ⟨k, rfl⟩ : ∃ k, n = k + 1 := ⟨n - 1, by omega⟩
    rw [Nat.add_sub_cancel] at hc
    have hbl := World.block_lt_of_cell? _ _ hc
    have c1 := (hb1.cell (p := ⟨b, off + k, none⟩) hbl).trans hc
    have t1 : (((k + 1 : Nat) : Int) == 0) = false := by simp; omega
    have t2 : (k + 1 == 0) = false := by simp
    have i1 : (k : Int) ≤ 1000000 := by omega
    have i2 : (0 : Int) ≤ k := by omega
    have t3 : (((k : Int) + 1) == 0) = false := by simp; omega
    clear he hn h0 hz hc hb1 hl
    go_enter Tryz.func30, Tryz.ntmps30
    go_wp2_with fail
    go_ret
    exact ⟨by rw [HZ.out]; rfl, HB.out⟩
/-- How many go on by those ahead of the j-th. -/
def startE (E : List Int) (j : Nat) : Int := if j = 0 then 0 else E.getD (j - 1) 0
theorem startE_ends (f : Int → Nat) {L : List Int} {j : Nat} (h : j ≤ L.length) : startE (endsL f L) j = (((L.take j).map f).sum : Nat) := by
  unfold startE
  by_cases h0 : j = 0
  · subst h0
    simp
  · rw [if_neg h0, endsL_at f L (by omega), show j - 1 + 1 = j by omega]
set_option maxRecDepth 100000 in
theorem start_any {w : World} {vt ve : Value} {E : List Int} (he : SeqV w ve E) (hl : E.length ≤ 1000000) (j : Nat) (hj : j ≤ E.length) :
    Calls Tryz.prog 33 #[.agg #[vt, ve], .int .i64 j] w fun e w' => e = .returned (.int .i64 (startE E j)) ∧ Below w.heap.size w w' := by
  obtain ⟨A, c, rfl⟩ := IntsV.form he
  obtain ⟨n, hn⟩ : ∃ n, E.length = n := ⟨_, rfl⟩
  have hb1 : Below w.heap.size w (w.alloc (.cells #[vt, .slice A n c] 65)) := (Below.refl _ _).alloc (Nat.le_refl _) _
  have HB := Lib.hid hb1
  rw [hn] at hl hj ⊢
  by_cases h0 : j = 0
  · subst h0
    clear he hn hb1 hl hj
    show Calls Tryz.prog 33 #[.agg #[vt, .slice A n c], .int .i64 0] w _
    go_enter Tryz.func33, Tryz.ntmps33
    go_wp2_with fail
    go_ret
    exact ⟨rfl, HB.out⟩
  · obtain ⟨k, rfl⟩ : ∃ k, j = k + 1 := ⟨j - 1, by omega⟩
    obtain ⟨b, off, rfl, hc⟩ := he.pos (i := k) (by omega)
    obtain ⟨z, hz⟩ : ∃ z, E.getD k 0 = z := ⟨_, rfl⟩
    rw [hz] at hc
    have HZ : Hid (startE E (k + 1) = z) := Lib.hid (by unfold startE; rw [if_neg (by omega), Nat.add_sub_cancel, hz])
    have hbl := World.block_lt_of_cell? _ _ hc
    have c1 := (hb1.cell (p := ⟨b, off + k, none⟩) hbl).trans hc
    have t3 : (((k : Int) + 1) == 0) = false := by simp; omega
    have i1 : (k : Int) ≤ 1000000 := by omega
    have i2 : (0 : Int) ≤ k := by omega
    have i3 : (k : Int) < n := by omega
    clear he hn h0 hz hc hb1 hl hj
    rw [show ((k + 1 : Nat) : Int) = (k : Int) + 1 from rfl]
    go_enter Tryz.func33, Tryz.ntmps33
    go_wp2_with fail
    go_ret
    exact ⟨by rw [HZ.out]; rfl, HB.out⟩
end Go.Proofs.YtgphdngfbcjmcaaGreatDoor
