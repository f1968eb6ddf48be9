/- The document's place of the first act that no line makes. -/
import Derived.Test.YtilhjhmlkbeokaaDoorRef25
namespace Go.Proofs.YtilhjhmlkbeokaaDoor
open Go.RowKit

/-- What Bad tells. -/
def BadTo (L : List (Int × Int)) (w : World) (e : Ending) (w' : World) : Prop :=
  Below w.heap.size w w' ∧ (((∀ a ∈ L, goodA a = true) ∧ e = .returned (.int .i64 (-1))) ∨ ∃ k : Nat, (∀ i, i < k → goodA (L.getD i (0, 0)) = true) ∧ k < L.length ∧ goodA (L.getD k (0, 0)) = false ∧ e = .returned (.int .i64 k))
set_option maxRecDepth 100000 in
set_option maxHeartbeats 4000000 in
theorem bad_any (L : List (Int × Int)) (v : Value) (w : World) (h : EdgesV w v L) (hL : L.length ≤ 1000000) :
    Calls Tryd.prog 15 #[v] w (BadTo L w) := by
  obtain ⟨A, c, rfl⟩ := h.form
  obtain ⟨m, hm⟩ : ∃ m, L.length = m := ⟨_, rfl⟩
  have HS := Lib.hid h
  rw [hm] at HS hL ⊢
  have HM := Lib.hid hm
  clear h hm
  go_enter Tryd.func15, Tryd.ntmps15
  go_wp2_with fail
  go_loopg [3] m (fun g iv wr => ∃ k d, k ≤ m ∧ g = m - k ∧ iv = .int .i64 (k : Nat) ∧ (∀ i, i < k → goodA (L.getD i (0, 0)) = true) ∧ wr = w.drewN d)
  case atStart => exact ⟨0, 0, Nat.zero_le _, rfl, rfl, fun i h => by omega, rfl⟩
  case round =>
    obtain ⟨k, d, hk, rfl, rfl, hgood, rfl⟩ := hrel
    have HGD := Lib.hid hgood
    clear hgood
    by_cases hlt : k < m
    · have hkL : k < L.length := by rw [HM.out]; exact hlt
      obtain ⟨b, off, rfl, d0, d1⟩ := HS.out.pos hkL
      obtain ⟨e, he⟩ : ∃ e, L.getD k (0, 0) = e := ⟨_, rfl⟩
      rw [he] at d0 d1
      obtain ⟨x, y⟩ := e
      have t3 : decide (k < m) = true := decide_eq_true hlt
      have i1 : (k : Int) < m := by omega
      have i2 : (0 : Int) ≤ k := by omega
      have HLT := Lib.hid hlt; have HKL := Lib.hid hkL; have HEK := Lib.hid he
      simp only at d0 d1
      have hgi := good_iff (a := (x, y))
      simp only at hgi
      have hc : goodA (x, y) = true ∨ goodA (x, y) = false := by cases goodA (x, y) <;> simp
      have hcs : (goodA (x, y) = false ∧ decide (x < 0) = true) ∨ (goodA (x, y) = false ∧ decide (x < 0) = false ∧ decide (5 < x) = true) ∨ (goodA (x, y) = false ∧ decide (x < 0) = false ∧ decide (5 < x) = false ∧ decide (y < 0) = true) ∨ (goodA (x, y) = false ∧ decide (x < 0) = false ∧ decide (5 < x) = false ∧ decide (y < 0) = false ∧ decide (999999 < y) = true) ∨
          (goodA (x, y) = true ∧ decide (x < 0) = false ∧ decide (5 < x) = false ∧ decide (y < 0) = false ∧ decide (999999 < y) = false ∧ decide (3 < x) = false) ∨ (goodA (x, y) = false ∧ decide (x < 0) = false ∧ decide (5 < x) = false ∧ decide (y < 0) = false ∧ decide (999999 < y) = false ∧ decide (3 < x) = true ∧ decide (0 < y) = true) ∨ (goodA (x, y) = true ∧ decide (x < 0) = false ∧ decide (5 < x) = false ∧ decide (y < 0) = false ∧ decide (999999 < y) = false ∧ decide (3 < x) = true ∧ decide (0 < y) = false) := by
        simp only [decide_eq_true_eq, decide_eq_false_iff_not]
        rcases hc with h | h
        · have := hgi.1 h
          simp only [h, reduceCtorEq, false_and, true_and, false_or]
          omega
        · have h2 : ¬ (0 ≤ x ∧ x ≤ 5 ∧ 0 ≤ y ∧ y ≤ 999999 ∧ (x ≤ 3 ∨ y = 0)) := fun hh => by rw [hgi.2 hh] at h; cases h
          simp only [h, reduceCtorEq, false_and, true_and, false_or, or_false]
          omega
      clear hgi hc he hkL hlt
      rcases hcs with ⟨hgx, g1⟩ | ⟨hgx, g1, g2⟩ | ⟨hgx, g1, g2, g3⟩ | ⟨hgx, g1, g2, g3, g4⟩ | ⟨hgx, g1, g2, g3, g4, g5⟩ | ⟨hgx, g1, g2, g3, g4, g5, g6⟩ | ⟨hgx, g1, g2, g3, g4, g5, g6⟩
      · have HGX := Lib.hid hgx
        clear hgx
        go_wp2_with fail
        go_ret
        exact ⟨by first | exact below_drewN' (Below.refl _ _) _ | exact below_drewN' (below_drewN' (Below.refl _ _) _) _, Or.inr ⟨k, HGD.out, HKL.out, by rw [HEK.out]; exact HGX.out, rfl⟩⟩
      · have HGX := Lib.hid hgx
        clear hgx
        go_wp2_with fail
        go_ret
        exact ⟨by first | exact below_drewN' (Below.refl _ _) _ | exact below_drewN' (below_drewN' (Below.refl _ _) _) _, Or.inr ⟨k, HGD.out, HKL.out, by rw [HEK.out]; exact HGX.out, rfl⟩⟩
      · have HGX := Lib.hid hgx
        clear hgx
        go_wp2_with fail
        go_ret
        exact ⟨by first | exact below_drewN' (Below.refl _ _) _ | exact below_drewN' (below_drewN' (Below.refl _ _) _) _, Or.inr ⟨k, HGD.out, HKL.out, by rw [HEK.out]; exact HGX.out, rfl⟩⟩
      · have HGX := Lib.hid hgx
        clear hgx
        go_wp2_with fail
        go_ret
        exact ⟨by first | exact below_drewN' (Below.refl _ _) _ | exact below_drewN' (below_drewN' (Below.refl _ _) _) _, Or.inr ⟨k, HGD.out, HKL.out, by rw [HEK.out]; exact HGX.out, rfl⟩⟩
      · have HGX := Lib.hid hgx
        clear hgx
        go_wp2_with fail
        go_roundg (m - (k + 1))
        case rel =>
          refine ⟨k + 1, _, HLT.out, rfl, by go_num, fun i hik => ?_, rfl⟩
          rcases Nat.lt_or_ge i k with h | h
          · exact HGD.out i h
          · obtain rfl : i = k := by omega
            rw [HEK.out]
            exact HGX.out
        case measure => have := HLT.out; omega
      · have HGX := Lib.hid hgx
        clear hgx
        go_wp2_with fail
        go_ret
        exact ⟨by first | exact below_drewN' (Below.refl _ _) _ | exact below_drewN' (below_drewN' (Below.refl _ _) _) _, Or.inr ⟨k, HGD.out, HKL.out, by rw [HEK.out]; exact HGX.out, rfl⟩⟩
      · have HGX := Lib.hid hgx
        clear hgx
        go_wp2_with fail
        go_roundg (m - (k + 1))
        case rel =>
          refine ⟨k + 1, _, HLT.out, rfl, by go_num, fun i hik => ?_, rfl⟩
          rcases Nat.lt_or_ge i k with h | h
          · exact HGD.out i h
          · obtain rfl : i = k := by omega
            rw [HEK.out]
            exact HGX.out
        case measure => have := HLT.out; omega
    · obtain rfl : k = m := by omega
      have t3 : decide (k < k) = false := by simp
      clear hlt
      go_wp2_with fail
      go_ret
      refine ⟨below_drewN' (Below.refl _ _) _, Or.inl ⟨fun a ha => ?_, rfl⟩⟩
      obtain ⟨i, hi, rfl⟩ := List.getElem_of_mem ha
      rw [← getD_at hi]
      exact HGD.out i (by rw [← HM.out]; exact hi)
end Go.Proofs.YtilhjhmlkbeokaaDoor
