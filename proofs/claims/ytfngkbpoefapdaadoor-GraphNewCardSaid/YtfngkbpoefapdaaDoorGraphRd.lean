/- What is read of a graph: Label, Degree, Near, At. -/
import Derived.Test.YtfngkbpoefapdaaDoorGraphAt
import Derived.Test.YtfngkbpoefapdaaDoorShelf
namespace Go.Proofs.YtfngkbpoefapdaaDoor
open Go.RowKit
section
variable {w : World} {base g : Nat} {L : List Int} {S : List (Int × Int)}

theorem GraphOwn.near (h : GraphOwn w base g L S) {v : Nat} (hv : v < L.length) : ∃ (nb : Nat) (u : Value), w.cell? ⟨g, 2, none⟩ = some (.slice (some ⟨nb, 0, none⟩) L.length L.length) ∧ w.cell? ⟨nb, v, none⟩ = some u ∧ w.ownsRow base 3 1 u (nearL S v).length (intCells (nearL S v)) := by
  obtain ⟨A, c, eb, nb, ab, us, h1, h2, h3, h4, h5, h6, _⟩ := h
  have hl : us.length = L.length + L.length := by rw [h6.len, rowsOf_len]
  refine ⟨nb, us[v]'(by omega), h1.cell 2, ?_, h6.row v _ _ (List.getElem?_eq_getElem (by omega)) (rowsOf_near S hv)⟩
  rw [h4.cell v, List.getElem?_toArray, List.getElem?_take_of_lt hv, List.getElem?_eq_getElem (by omega)]
theorem GraphOwn.ats (h : GraphOwn w base g L S) {v : Nat} (hv : v < L.length) : ∃ (ab : Nat) (u : Value), w.cell? ⟨g, 3, none⟩ = some (.slice (some ⟨ab, 0, none⟩) L.length L.length) ∧ w.cell? ⟨ab, v, none⟩ = some u ∧ w.ownsRow base 3 1 u (atL S v).length (intCells (atL S v)) := by
  obtain ⟨A, c, eb, nb, ab, us, h1, h2, h3, h4, h5, h6, _⟩ := h
  have hl : us.length = L.length + L.length := by rw [h6.len, rowsOf_len]
  refine ⟨ab, us[L.length + v]'(by omega), h1.cell 3, ?_, h6.row (L.length + v) _ _ (List.getElem?_eq_getElem (by omega)) (rowsOf_at S hv)⟩
  rw [h5.cell v, List.getElem?_toArray, List.getElem?_drop, List.getElem?_eq_getElem (by omega)]
theorem GraphOwn.label (h : GraphOwn w base g L S) {v : Nat} (hv : v < L.length) : ∃ (b c : Nat), w.cell? ⟨g, 0, none⟩ = some (.slice (some ⟨b, 0, none⟩) L.length c) ∧ w.cell? ⟨b, v, none⟩ = some (.int .i64 (L.getD v 0)) := by
  obtain ⟨A, c, eb, nb, ab, us, h1, h2, _⟩ := h
  have c0 := h1.cell 0
  have h2' := h2
  rcases h2.2 with ⟨_, h3⟩ | ⟨b, cap, cur, e, _, _⟩
  · omega
  · injection e with e1 e2 e3
    subst e1
    refine ⟨b, c, c0, ?_⟩
    have := h2'.cellAt v (by omega)
    rw [this]
    simp [intCells, List.getD, hv]
theorem hasV_yes {n : Nat} {v : Int} (h : hasV n v = true) : ∃ k : Nat, v = k ∧ k < n := by
  simp [hasV] at h
  exact ⟨v.toNat, by omega, by omega⟩

set_option maxRecDepth 100000 in
set_option maxHeartbeats 1000000 in
theorem label_no (n : Nat) (v : Int) (p : Value) (w : World) (hl : Calls Tryd.prog 14 #[p] w fun e w' => e = .returned (.int .i64 n) ∧ w' = w) (hv : hasV n v = false) :
    Calls Tryd.prog 17 #[p, .int .i64 v] w fun e w' => e = .returned (.int .i64 (-1)) ∧ w' = w := by
  have H := has_len n v p w hl
  rw [hv] at H
  have HH := Lib.hid H
  clear H hl hv
  go_enter Tryd.func17, Tryd.ntmps17
  go_wp2_with fail
  refine HH.out.mono ?_; rintro e w1 ⟨rfl, hw⟩; obtain rfl := hw.symm
  go_wp2_with fail
  go_ret
  exact ⟨rfl, rfl⟩
set_option maxRecDepth 100000 in
set_option maxHeartbeats 1000000 in
theorem label_ok (h : GraphOwn w base g L S) {v : Nat} (hv : v < L.length) :
    Calls Tryd.prog 17 #[.pointer (some ⟨g, 0, none⟩), .int .i64 v] w fun e w' => e = .returned (.int .i64 (L.getD v 0)) ∧ w' = w := by
  have H := has_len L.length v _ w (len_any h)
  rw [show hasV L.length v = true by simp [hasV, hv]] at H
  obtain ⟨b, c, c0, c1⟩ := h.label hv
  obtain ⟨z, hz⟩ : ∃ z, L.getD v 0 = z := ⟨_, rfl⟩
  rw [hz] at c1 ⊢
  have HH := Lib.hid H
  obtain ⟨n, hn⟩ : ∃ n, L.length = n := ⟨_, rfl⟩
  rw [hn] at c0 hv
  have i1 : (v : Int) < n := by omega
  have i2 : (0 : Int) ≤ v := by omega
  clear H h hz hn
  go_enter Tryd.func17, Tryd.ntmps17
  go_wp2_with fail
  refine HH.out.mono ?_; rintro e w1 ⟨rfl, hw⟩; obtain rfl := hw.symm
  go_wp2_with fail
  go_ret
  exact ⟨rfl, rfl⟩

theorem clone_own (M : List Int) (v : Value) (w : World) (h : SeqV w v M) (hn : M.length ≤ 1000000000) :
    Calls Tryd.prog 32 #[v] w fun e w' => ∃ v', e = .returned v' ∧ w'.ownsRow w.heap.size 3 1 v' M.length (intCells M) ∧ Below w.heap.size w w' := by
  rcases h with ⟨h0, A, c, rfl⟩ | ⟨h0, b, off, c, rfl, hc⟩
  · have hL : M = [] := List.eq_nil_of_length_eq_zero h0
    subst hL
    rcases A with _ | a
    · refine (Tryd.slices_Clone_int_nil 0 c w).mono ?_
      rintro e w' ⟨rfl, hw⟩
      obtain rfl := hw.symm
      exact ⟨_, rfl, World.ownsRow_nil _ _ _ 1, Below.refl _ _⟩
    · refine (Tryd.slices_Clone_int_zero a c w).mono ?_
      rintro e w' ⟨v', rfl, hown, _, hb⟩
      exact ⟨_, rfl, hown, hb⟩
  · have C1 := Tryd.slices_Clone_int b off M.length c M w (Nat.le_refl _) (by omega) (fun j hj => hc j hj)
    rw [List.take_length] at C1
    refine C1.mono ?_
    rintro e w' ⟨v', rfl, hown, _, hb⟩
    exact ⟨_, rfl, hown, hb⟩
theorem nearL_len (S : List (Int × Int)) (v : Int) : (nearL S v).length ≤ S.length := by unfold nearL; exact List.length_filterMap_le _ _

set_option maxRecDepth 100000 in
set_option maxHeartbeats 1000000 in
theorem degree_no (n : Nat) (v : Int) (p : Value) (w : World) (hl : Calls Tryd.prog 14 #[p] w fun e w' => e = .returned (.int .i64 n) ∧ w' = w) (hv : hasV n v = false) :
    Calls Tryd.prog 18 #[p, .int .i64 v] w fun e w' => e = .returned (.int .i64 0) ∧ w' = w := by
  have H := has_len n v p w hl
  rw [hv] at H
  have HH := Lib.hid H
  clear H hl hv
  go_enter Tryd.func18, Tryd.ntmps18
  go_wp2_with fail
  refine HH.out.mono ?_; rintro e w1 ⟨rfl, hw⟩; obtain rfl := hw.symm
  go_wp2_with fail
  go_ret
  exact ⟨rfl, rfl⟩

set_option maxRecDepth 100000 in
set_option maxHeartbeats 1000000 in
theorem near_no (n : Nat) (v : Int) (p : Value) (w : World) (hl : Calls Tryd.prog 14 #[p] w fun e w' => e = .returned (.int .i64 n) ∧ w' = w) (hv : hasV n v = false) :
    Calls Tryd.prog 20 #[p, .int .i64 v] w fun e w' => e = .returned (.slice none 0 0) ∧ w' = w := by
  have H := has_len n v p w hl
  rw [hv] at H
  have HH := Lib.hid H
  clear H hl hv
  go_enter Tryd.func20, Tryd.ntmps20
  go_wp2_with fail
  refine HH.out.mono ?_; rintro e w1 ⟨rfl, hw⟩; obtain rfl := hw.symm
  go_wp2_with fail
  go_ret
  exact ⟨rfl, rfl⟩

set_option maxRecDepth 100000 in
set_option maxHeartbeats 1000000 in
theorem at_no (n : Nat) (v : Int) (p : Value) (w : World) (hl : Calls Tryd.prog 14 #[p] w fun e w' => e = .returned (.int .i64 n) ∧ w' = w) (hv : hasV n v = false) :
    Calls Tryd.prog 21 #[p, .int .i64 v] w fun e w' => e = .returned (.slice none 0 0) ∧ w' = w := by
  have H := has_len n v p w hl
  rw [hv] at H
  have HH := Lib.hid H
  clear H hl hv
  go_enter Tryd.func21, Tryd.ntmps21
  go_wp2_with fail
  refine HH.out.mono ?_; rintro e w1 ⟨rfl, hw⟩; obtain rfl := hw.symm
  go_wp2_with fail
  go_ret
  exact ⟨rfl, rfl⟩

set_option maxRecDepth 100000 in
set_option maxHeartbeats 1000000 in
theorem degree_ok (h : GraphOwn w base g L S) {v : Nat} (hv : v < L.length) :
    Calls Tryd.prog 18 #[.pointer (some ⟨g, 0, none⟩), .int .i64 v] w fun e w' => e = .returned (.int .i64 (nearL S v).length) ∧ w' = w := by
  have H := has_len L.length v _ w (len_any h)
  rw [show hasV L.length v = true by simp [hasV, hv]] at H
  obtain ⟨b, u, c0, c1, hu⟩ := h.near hv
  obtain ⟨Au, cu, rfl⟩ := own_form hu
  obtain ⟨z, hz⟩ : ∃ z, (nearL S v).length = z := ⟨_, rfl⟩
  rw [hz] at c1 ⊢
  have HH := Lib.hid H
  obtain ⟨n, hn⟩ : ∃ n, L.length = n := ⟨_, rfl⟩
  rw [hn] at c0 hv
  have i1 : (v : Int) < n := by omega
  have i2 : (0 : Int) ≤ v := by omega
  clear H h hz hn hu
  go_enter Tryd.func18, Tryd.ntmps18
  go_wp2_with fail
  refine HH.out.mono ?_; rintro e w1 ⟨rfl, hw⟩; obtain rfl := hw.symm
  go_wp2_with fail
  go_ret
  exact ⟨rfl, rfl⟩

set_option maxRecDepth 100000 in
set_option maxHeartbeats 1000000 in
theorem near_ok (h : GraphOwn w base g L S) (hS : S.length ≤ 1000000) {v : Nat} (hv : v < L.length) :
    Calls Tryd.prog 20 #[.pointer (some ⟨g, 0, none⟩), .int .i64 v] w fun e w' => ∃ v', e = .returned v' ∧ w'.ownsRow w.heap.size 3 1 v' (nearL S v).length (intCells (nearL S v)) ∧ Below w.heap.size w w' := by
  have H := has_len L.length v _ w (len_any h)
  rw [show hasV L.length v = true by simp [hasV, hv]] at H
  obtain ⟨b, u, c0, c1, hu⟩ := h.near hv
  have hl : (nearL S v).length ≤ S.length := by exact nearL_len S v
  have K1 := clone_own (nearL S v) u w (own_seq hu) (by omega)
  obtain ⟨Au, cu, rfl⟩ := own_form hu
  obtain ⟨M, hM⟩ : ∃ M, nearL S v = M := ⟨_, rfl⟩
  rw [hM] at c1 K1 ⊢
  obtain ⟨z, hz⟩ : ∃ z, M.length = z := ⟨_, rfl⟩
  rw [hz] at c1 K1 ⊢
  have HH := Lib.hid H; have HK := Lib.hid K1
  obtain ⟨n, hn⟩ : ∃ n, L.length = n := ⟨_, rfl⟩
  rw [hn] at c0 hv
  have i1 : (v : Int) < n := by omega
  have i2 : (0 : Int) ≤ v := by omega
  clear H h hz hn hu K1 hM hl
  go_enter Tryd.func20, Tryd.ntmps20
  go_wp2_with fail
  refine HH.out.mono ?_; rintro e w1 ⟨rfl, hw⟩; obtain rfl := hw.symm
  go_wp2_with fail
  refine HK.out.mono ?_; rintro e w2 ⟨v2, rfl, ho, hb⟩
  have HO := Lib.hid ho; have HB := Lib.hid hb
  clear ho hb
  go_wp2_with fail
  go_ret
  exact ⟨_, rfl, HO.out, HB.out⟩

set_option maxRecDepth 100000 in
set_option maxHeartbeats 1000000 in
theorem at_ok (h : GraphOwn w base g L S) (hS : S.length ≤ 1000000) {v : Nat} (hv : v < L.length) :
    Calls Tryd.prog 21 #[.pointer (some ⟨g, 0, none⟩), .int .i64 v] w fun e w' => ∃ v', e = .returned v' ∧ w'.ownsRow w.heap.size 3 1 v' (atL S v).length (intCells (atL S v)) ∧ Below w.heap.size w w' := by
  have H := has_len L.length v _ w (len_any h)
  rw [show hasV L.length v = true by simp [hasV, hv]] at H
  obtain ⟨b, u, c0, c1, hu⟩ := h.ats hv
  have hl : (atL S v).length ≤ S.length := by rw [← near_at_len S v _ rfl]; exact nearL_len S v
  have K1 := clone_own (atL S v) u w (own_seq hu) (by omega)
  obtain ⟨Au, cu, rfl⟩ := own_form hu
  obtain ⟨M, hM⟩ : ∃ M, atL S v = M := ⟨_, rfl⟩
  rw [hM] at c1 K1 ⊢
  obtain ⟨z, hz⟩ : ∃ z, M.length = z := ⟨_, rfl⟩
  rw [hz] at c1 K1 ⊢
  have HH := Lib.hid H; have HK := Lib.hid K1
  obtain ⟨n, hn⟩ : ∃ n, L.length = n := ⟨_, rfl⟩
  rw [hn] at c0 hv
  have i1 : (v : Int) < n := by omega
  have i2 : (0 : Int) ≤ v := by omega
  clear H h hz hn hu K1 hM hl
  go_enter Tryd.func21, Tryd.ntmps21
  go_wp2_with fail
  refine HH.out.mono ?_; rintro e w1 ⟨rfl, hw⟩; obtain rfl := hw.symm
  go_wp2_with fail
  refine HK.out.mono ?_; rintro e w2 ⟨v2, rfl, ho, hb⟩
  have HO := Lib.hid ho; have HB := Lib.hid hb
  clear ho hb
  go_wp2_with fail
  go_ret
  exact ⟨_, rfl, HO.out, HB.out⟩
end
end Go.Proofs.YtfngkbpoefapdaaDoor
