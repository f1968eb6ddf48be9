/- NetPlays: letters compared, one by one; rows of letters. -/
import Derived.Test.YtbecgfeoacncdaaDoorPlayP
import Derived.Test.YtbecgfeoacncdaaDoorApp2
namespace Go.Proofs.YtbecgfeoacncdaaDoor
open Go.RowKit

set_option maxRecDepth 100000 in
theorem same_any {w : World} {v u : Value} {L : List Let} {m : Nat} (hm : L.length = m) (hm1 : m ≤ 1000000) (hv : LetsAt w v L) (hu : LetsAt w u L) :
    Calls Tryd.prog 14 #[v, u] w fun e w' => e = .returned (.bool true) ∧ Below w.heap.size w w' := by
  have HV := Lib.hid hv; have HU := Lib.hid hu; have HM := Lib.hid hm
  obtain ⟨A, c, rfl, _⟩ := hv
  obtain ⟨A2, c2, rfl, _⟩ := hu
  rw [hm] at HV HU ⊢
  clear hm
  go_enter Tryd.func14, Tryd.ntmps14
  go_wp2_with fail
  go_loopg [5] m (fun g y wx => ∃ i d, i ≤ m ∧ g = m - i ∧ y = .int .i64 (i : Nat) ∧ wx = w.drewN d)
  case atStart => exact ⟨0, 0, Nat.zero_le _, rfl, rfl, rfl⟩
  case round =>
    obtain ⟨i6, d6, hi6, rfl, rfl, rfl⟩ := hrel
    by_cases hlt6 : i6 < m
    · have hiL : i6 < L.length := by rw [HM.out]; exact hlt6
      obtain ⟨⟨xf, xt, xs, xx⟩, hx⟩ : ∃ x, L[i6] = x := ⟨_, rfl⟩
      obtain ⟨ga, oa, rfl, d0, d1, d2, d3⟩ := HV.out.pos (i := i6) hiL
      obtain ⟨gb, ob, rfl, e0, e1, e2, e3⟩ := HU.out.pos (i := i6) hiL
      rw [hx] at d0 d1 d2 d3 e0 e1 e2 e3
      simp only at d0 d1 d2 d3 e0 e1 e2 e3
      have Q1 := fun W => neq_refLet ⟨xf, xt, xs, xx⟩ ⟨xf, xt, xs, xx⟩ W
      rw [show eqLB ⟨xf, xt, xs, xx⟩ ⟨xf, xt, xs, xx⟩ = true from (eqLB_iff _ _).2 rfl] at Q1
      simp only [letV] at Q1
      have Q2 := fun x y W => guard_refLet .neq x y #[.int .i64 xf, .int .i64 xt, .int .i64 xs, .string xx] #[.int .i64 xf, .int .i64 xt, .int .i64 xs, .string xx] W
      have t9 : decide (i6 < m) = true := decide_eq_true hlt6
      have t9' : decide ((i6 : Int) < (m : Int)) = true := decide_eq_true (by omega)
      have j1 : (i6 : Int) < m := by omega
      have j2 : (0 : Int) ≤ i6 := by omega
      have HLT6 := Lib.hid hlt6
      clear hx hiL
      go_wp2_with fail
      go_quiet (fail)
      go_wp2_with fail
      go_roundg (m - (i6 + 1))
      case rel => exact ⟨i6 + 1, _, HLT6.out, rfl, by go_num, rfl⟩
      case measure => have := HLT6.out; omega
    · obtain rfl : i6 = m := by omega
      have t9 : decide (i6 < i6) = false := decide_eq_false (by omega)
      go_wp2_with fail
      go_ret
      exact ⟨rfl, below_drewN' (Below.refl _ _) _⟩
theorem letsC_at_take (L : List Let) {k j : Nat} (hk : k ≤ L.length) (hj : j < k * 4) : (letsC (L.take k))[j]? = (letsC L)[j]? := by
  conv => rhs; rw [← List.take_append_drop k L, letsC_app]
  rw [List.getElem?_append_left (by rw [letsC_len, List.length_take]; omega)]
theorem letsC_at_drop (L : List Let) {k : Nat} (hk : k ≤ L.length) (j : Nat) : (letsC (L.drop k))[j]? = (letsC L)[k * 4 + j]? := by
  conv => rhs; rw [← List.take_append_drop k L, letsC_app]
  have hl : (letsC (L.take k)).length = k * 4 := by rw [letsC_len, List.length_take]; omega
  rw [List.getElem?_append_right (by omega), hl, Nat.add_sub_cancel_left]
theorem LetsAt.row {w : World} {v : Value} {S : List Let} (h : LetsAt w v S) : RowAt w 4 v S.length (letsC S) := by
  obtain ⟨A, c, rfl, _, h⟩ := h
  refine ⟨A, c, rfl, letsC_len S, ?_⟩
  rcases h with rfl | ⟨b, off, rfl, h⟩
  · exact Or.inl rfl
  · exact Or.inr ⟨b, off, rfl, fun j hj => h j (by rwa [letsC_len] at hj)⟩
theorem LetsAt.take {w : World} {A : Option Addr} {n c : Nat} {S : List Let} (h : LetsAt w (.slice A n c) S) {k : Nat} (hk : k ≤ S.length) (c' : Nat) : RowAt w 4 (.slice A k c') k (letsC (S.take k)) := by
  obtain ⟨A, c, e, _, h⟩ := h
  injection e with e1 e2 e3
  subst e1 e2 e3
  refine ⟨_, c', rfl, by rw [letsC_len, List.length_take, Nat.min_eq_left hk], ?_⟩
  rcases h with rfl | ⟨b, off, rfl, h⟩
  · exact Or.inl (by simpa using hk)
  · refine Or.inr ⟨b, off, rfl, fun j hj => ?_⟩
    rw [letsC_len, List.length_take, Nat.min_eq_left hk] at hj
    rw [letsC_at_take S hk hj]
    exact h j (by omega)
theorem LetsAt.drop {w : World} {b off n c : Nat} {S : List Let} (h : LetsAt w (.slice (some ⟨b, off, none⟩) n c) S) {k : Nat} (hk : k ≤ S.length) (hS : S ≠ []) (c' : Nat) : RowAt w 4 (.slice (some ⟨b, off + k * 4, none⟩) (S.length - k) c') (S.length - k) (letsC (S.drop k)) := by
  obtain ⟨A, c, e, _, h⟩ := h
  injection e with e1 e2 e3
  subst e1 e2 e3
  refine ⟨_, c', rfl, by rw [letsC_len, List.length_drop], ?_⟩
  rcases h with rfl | ⟨b', off', e, h⟩
  · exact absurd rfl hS
  · injection e with e
    injection e with e1 e2
    subst e1 e2
    refine Or.inr ⟨_, _, rfl, fun j hj => ?_⟩
    rw [letsC_len, List.length_drop] at hj
    rw [letsC_at_drop S hk, Nat.add_assoc]
    exact h _ (by omega)
theorem RowAt.none (w : World) (size c : Nat) (A : Option Addr) : RowAt w size (.slice A 0 c) 0 [] := ⟨A, c, rfl, by simp, Or.inl rfl⟩
end Go.Proofs.YtbecgfeoacncdaaDoor
