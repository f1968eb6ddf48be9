/- What is read of a machine. -/
import Derived.Test.YtlopoddllfkkfaaDoorBsp3
import Derived.Test.YtlopoddllfkkfaaDoorShelf
namespace Go.Proofs.YtlopoddllfkkfaaDoor
open Go.RowKit

section
variable {w : World} {base N : Nat} {p : MP} {job : Value} {m nb wb ib b : Nat} {sv : Value} {us : List Value} {Rn : Nat → Prop}
theorem MachIn.cells (h : MachIn w base N p job m nb wb ib b sv us Rn) : ∃ sb so sc, sv = .slice (some ⟨sb, so, none⟩) p.k sc ∧ w.cell? ⟨m, 0, none⟩ = some job ∧ w.cell? ⟨m, 1, none⟩ = some (.int .i64 p.rd) ∧ w.cell? ⟨m, 2, none⟩ = some (.slice (some ⟨sb, so, none⟩) p.k sc) ∧ w.cell? ⟨m, 3, none⟩ = some (.slice (some ⟨ib, 0, none⟩) p.k p.k) ∧ w.cell? ⟨m, 4, none⟩ = some (.slice (some ⟨nb, 0, none⟩) p.k p.k) ∧ w.cell? ⟨m, 5, none⟩ = some (.slice (some ⟨wb, 0, none⟩) p.k p.k) ∧ w.cell? ⟨m, 6, none⟩ = some (.pointer (some ⟨b, 0, none⟩)) := by
  have hst := h.st
  rcases hst with ⟨h0, _⟩ | ⟨_, sb, so, sc, e, hc⟩
  · have := txtC_len p.st
    rw [h0, h.l1] at this
    have := h.k1
    simp at *
    omega
  · rw [txtC_len, h.l1] at e
    have hw := h.whole
    rw [e] at hw
    exact ⟨sb, so, sc, e, hw.cell 0, hw.cell 1, hw.cell 2, hw.cell 3, hw.cell 4, hw.cell 5, hw.cell 6⟩
/-- Is there a worker? -/
def inW (k : Nat) (i : Int) : Int := if 0 ≤ i ∧ i < k then 0 else 3
/-- A new fault. -/
theorem newF (c a : Int) (s : ByteArray) (w : World) : Calls Tryd.prog 26 #[.int .i64 c, .int .i64 a, .string s] w fun e w' => ∃ fb, e = .returned (.iface 69 (.pointer (some ⟨fb, 0, none⟩))) ∧ FaultAt c a w' (.iface 69 (.pointer (some ⟨fb, 0, none⟩))) ∧ Below w.heap.size w w' := by
  refine (new_any c a s w).mono ?_
  rintro e w' ⟨rfl, rfl⟩
  exact ⟨_, rfl, ⟨_, s, rfl, Whole.new _ _ _⟩, (Below.refl _ _).alloc (Nat.le_refl _) _⟩
set_option maxRecDepth 100000 in
set_option maxHeartbeats 4000000 in
theorem mcheck_any (h : MachIn w base N p job m nb wb ib b sv us Rn) (i : Int) :
    Calls Tryd.prog 32 #[.pointer (some ⟨m, 0, none⟩), .int .i64 i] w (CheckTo (inW p.k i) w) := by
  obtain ⟨sb, so, sc, _, _, _, c2, _⟩ := h.cells
  obtain ⟨k, hk⟩ : ∃ k, p.k = k := ⟨_, rfl⟩
  rw [hk] at c2 ⊢
  have HF := Lib.hid (newF 3 0 ⟨#[119, 111, 114, 107, 101, 114]⟩ w)
  by_cases hi : 0 ≤ i ∧ i < k
  · have HC : Hid (inW k i = 0) := Lib.hid (if_pos hi)
    have t1 : decide (i < 0) = false := decide_eq_false (by omega)
    have t2 : decide ((k : Int) ≤ i) = false := decide_eq_false (by omega)
    clear h hk hi
    go_enter Tryd.func32, Tryd.ntmps32
    go_wp2_with fail
    go_ret
    exact ⟨Below.refl _ _, Or.inl ⟨HC.out, rfl⟩⟩
  · have HC : Hid (inW k i = 3) := Lib.hid (if_neg hi)
    have hc : decide (i < 0) = true ∨ (decide (i < 0) = false ∧ decide ((k : Int) ≤ i) = true) := by
      by_cases h0 : i < 0
      · exact Or.inl (decide_eq_true h0)
      · exact Or.inr ⟨decide_eq_false h0, decide_eq_true (by omega)⟩
    clear h hk hi
    rcases hc with t1 | ⟨t1, t2⟩
    all_goals
      go_enter Tryd.func32, Tryd.ntmps32
      go_wp2_with fail
      refine HF.out.mono ?_; rintro e w1 ⟨fb, rfl, hf, hb⟩
      have HFF := Lib.hid hf; have HBB := Lib.hid hb
      clear hf hb
      go_wp2_with fail
      go_ret
      exact ⟨HBB.out, Or.inr ⟨by rw [HC.out]; decide, _, rfl, by rw [HC.out]; exact HFF.out⟩⟩
set_option maxRecDepth 100000 in
set_option maxHeartbeats 4000000 in
theorem mround_any (h : MachIn w base N p job m nb wb ib b sv us Rn) :
    Calls Tryd.prog 22 #[.pointer (some ⟨m, 0, none⟩)] w fun e w' => e = .returned (.int .i64 p.rd) ∧ w' = w := by
  obtain ⟨sb, so, sc, _, _, c1, _⟩ := h.cells
  clear h
  go_enter Tryd.func22, Tryd.ntmps22
  go_wp2_with fail
  go_ret
  exact ⟨rfl, rfl⟩
theorem clone_txt (X : List ByteArray) (v : Value) (w : World) (h : ValsV w v (txtC X)) (hn : X.length ≤ 1000000) :
    Calls Tryd.prog 29 #[v] w fun e w' => ∃ v', e = .returned v' ∧ w'.ownsRow w.heap.size 9 1 v' X.length (txtC X) ∧ Below w.heap.size w w' := by
  rcases h with ⟨h0, ao, cap, rfl⟩ | ⟨_, b, off, cap, rfl, hc⟩
  · have hl : X.length = 0 := by have := txtC_len X; rw [h0] at this; exact this.symm
    rw [hl, h0]
    rcases ao with _ | a
    · refine (Tryd.slices_Clone_string_nil 0 cap w).mono ?_
      rintro e w' ⟨rfl, rfl⟩
      exact ⟨_, rfl, World.ownsRow_nil _ _ _ 1, Below.refl _ _⟩
    · refine (Tryd.slices_Clone_string_zero a cap w).mono ?_
      rintro e w' ⟨v', rfl, ho, _, hb⟩
      exact ⟨_, rfl, ho, hb⟩
  · have k := Tryd.slices_Clone_string b off X.length cap X w (Nat.le_refl _) (by omega) (fun j hj => by rw [hc j (by rw [txtC_len]; exact hj), txtC_at hj]; rfl)
    rw [List.take_length] at k
    rw [txtC_len]
    refine k.mono ?_
    rintro e w' ⟨v', rfl, ho, _, hb⟩
    exact ⟨_, rfl, ho, hb⟩
set_option maxRecDepth 100000 in
set_option maxHeartbeats 4000000 in
theorem mstates_any (h : MachIn w base N p job m nb wb ib b sv us Rn) :
    Calls Tryd.prog 20 #[.pointer (some ⟨m, 0, none⟩)] w fun e w' => ∃ v', e = .returned v' ∧ w'.ownsRow w.heap.size 9 1 v' p.k (txtC p.st) ∧ Below w.heap.size w w' := by
  have CL := Lib.hid (clone_txt p.st sv w h.st (by rw [h.l1]; have := h.k2; omega))
  rw [h.l1] at CL
  obtain ⟨sb, so, sc, rfl, _, _, c2, _⟩ := h.cells
  clear h
  go_enter Tryd.func20, Tryd.ntmps20
  go_wp2_with fail
  refine CL.out.mono ?_; rintro e w1 ⟨v', rfl, ho, hb⟩
  have HO := Lib.hid ho; have HB := Lib.hid hb
  clear ho hb
  go_wp2_with fail
  go_ret
  exact ⟨_, rfl, HO.out, HB.out⟩
set_option maxRecDepth 100000 in
set_option maxHeartbeats 4000000 in
theorem mflying_any (h : MachIn w base N p job m nb wb ib b sv us Rn) (hS : p.nt.fly.length ≤ 1000000) :
    Calls Tryd.prog 13 #[.pointer (some ⟨m, 0, none⟩)] w fun e w' => e = .returned (.int .i64 p.nt.fly.length) ∧ Below w.heap.size w w' := by
  obtain ⟨n, hn⟩ : ∃ n, p.nt.fly.length = n := ⟨_, rfl⟩
  have FL := Lib.hid (flying_b h.net hS hn)
  obtain ⟨sb, so, sc, _, _, _, _, _, _, _, c6⟩ := h.cells
  rw [hn]
  clear h hS hn
  go_enter Tryd.func13, Tryd.ntmps13
  go_wp2_with fail
  refine FL.out.mono ?_; rintro e w1 ⟨A, c, rfl, hb⟩
  have HB := Lib.hid hb
  clear hb
  go_wp2_with fail
  go_ret
  exact ⟨rfl, HB.out⟩
end
end Go.Proofs.YtlopoddllfkkfaaDoor
