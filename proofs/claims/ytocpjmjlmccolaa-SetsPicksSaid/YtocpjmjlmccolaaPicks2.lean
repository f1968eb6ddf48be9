/- sets.Picks, called; slices.Clone of numbers. -/
import Derived.Test.YtocpjmjlmccolaaPicks
import Derived.Test.YtocpjmjlmccolaaSets2
namespace Go.Proofs.Ytocpjmjlmccolaa
open Go.RowKit

theorem clone_any (L : List Int) (v : Value) (w : World) (h : SeqV w v L) (hn : L.length ≤ 1000000000) :
    Calls Try.prog 28 #[v] w fun e w' => ∃ v', e = .returned v' ∧ SeqC w' v' L ∧ (∀ b, v'.ownBlock = some b → w.heap.size ≤ b) ∧ Below w.heap.size w w' := by
  rcases h with ⟨h0, A, c, rfl⟩ | ⟨h0, b, off, c, rfl, hc⟩
  · have hL : L = [] := List.eq_nil_of_length_eq_zero h0
    subst hL
    rcases A with _ | a
    · refine (Try.slices_Clone_int_nil 0 c w).mono ?_
      rintro e w' ⟨rfl, hw⟩
      obtain rfl := hw.symm
      exact ⟨_, rfl, ⟨seqV_nil _ _ _, _, _, rfl, Nat.le_refl _⟩, fun b hb => by simp [Value.ownBlock] at hb, Below.refl _ _⟩
    · refine (Try.slices_Clone_int_zero a c w).mono ?_
      rintro e w' ⟨v', rfl, hown, _, hb⟩
      have hown' : w'.ownsRow w.heap.size 3 1 v' 0 (intCells []) := hown
      exact ⟨_, rfl, own_seqC hown', fun b hb' => (hown'.lt b hb').1, hb⟩
  · have C1 := Try.slices_Clone_int b off L.length c L w (Nat.le_refl _) (by omega) (fun j hj => hc j hj)
    rw [List.take_length] at C1
    refine C1.mono ?_
    rintro e w' ⟨v', rfl, hown, _, hb⟩
    have hown' : w'.ownsRow w.heap.size 3 1 v' L.length (intCells L) := hown
    exact ⟨_, rfl, own_seqC hown', fun b hb' => (hown'.lt b hb').1, hb⟩

/-- What Picks hands back. -/
def PicksTo (L : List Int) (k : Int) (w : World) (e : Ending) (w' : World) : Prop :=
  ∃ (Bk Bo : Nat) (v' : Value), e = .returned (.func (.func 34) #[] #[.pointer (some ⟨Bk, 0, none⟩), .pointer (some ⟨Bo, 0, none⟩)]) ∧ w'.cell? ⟨Bk, 0, none⟩ = some (.int .i64 k) ∧ w'.cell? ⟨Bo, 0, none⟩ = some v' ∧ SeqV w' v' L ∧
    w.heap.size ≤ Bk ∧ w.heap.size ≤ Bo ∧ (∀ b, v'.ownBlock = some b → w.heap.size ≤ b) ∧ Below w.heap.size w w'

set_option maxRecDepth 100000 in
theorem picks_any (L : List Int) (k : Int) (v : Value) (w : World) (h : SeqV w v L) (hn : L.length ≤ 1000000000) :
    Calls Try.prog 26 #[v, .int .i64 k] w (PicksTo L k w) := by
  have C1 := Lib.hid (clone_any L v (w.alloc (.cells #[.int .i64 k] 3)) (h.below ((Below.refl _ _).alloc (Nat.le_refl _) _) (Nat.le_refl _)) hn)
  have hb0 : Below w.heap.size w (w.alloc (.cells #[.int .i64 k] 3)) := (Below.refl _ _).alloc (Nat.le_refl _) _
  have HB0 := Lib.hid hb0
  have HK0 := Lib.hid (Whole.new w 3 #[.int .i64 k])
  obtain ⟨A, c, rfl⟩ := IntsV.form h
  obtain ⟨n, hl⟩ : ∃ n, L.length = n := ⟨_, rfl⟩
  rw [hl] at C1 ⊢
  clear h hb0 hl
  go_enter Try.func26, Try.ntmps26
  go_wp2_with fail
  refine C1.out.mono ?_; rintro e w1 ⟨v1, rfl, hs, hfar, hb1⟩
  obtain ⟨A1, c1, rfl⟩ := IntsV.form hs.1
  have HS := Lib.hid hs.1; have HF := Lib.hid hfar; have HB1 := Lib.hid hb1
  have hs1 := hb1.size
  clear hs hfar hb1
  go_wp2_with fail
  go_ret
  have hsz : w.heap.size + 1 ≤ w1.heap.size := by simpa using hs1
  have hnew : ∀ V, Below w1.heap.size w1 (w1.alloc (.cells #[V] 22)) := fun V => (Below.refl _ _).alloc (Nat.le_refl _) _
  have hk1 : Whole w1 w.heap.size 3 #[.int .i64 k] := HK0.out.below HB1.out (by simp)
  refine ⟨w.heap.size, w1.heap.size, _, rfl, ?_, ?_, HS.out.below (hnew _) (Nat.le_refl _), Nat.le_refl _, by omega, fun b hb => by have := HF.out b hb; simp at this; omega, ?_⟩
  · have := (hk1.below (hnew (.slice A1 L.length c1)) (by omega)).cell 0
    simpa using this
  · exact (Whole.new w1 22 #[.slice A1 L.length c1]).cell 0
  · exact (HB0.out.trans (HB1.out.mono (by simp))).trans ((hnew _).mono (by omega))
end Go.Proofs.Ytocpjmjlmccolaa
