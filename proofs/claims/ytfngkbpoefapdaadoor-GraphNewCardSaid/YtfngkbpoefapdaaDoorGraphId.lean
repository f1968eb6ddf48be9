/- graph.Id, Has, Edge: contracts. -/
import Derived.Test.YtfngkbpoefapdaaDoorGraphRd
import Derived.Test.YtfngkbpoefapdaaDoorNearP
namespace Go.Proofs.YtfngkbpoefapdaaDoor
open Go.RowKit
section
variable {w : World} {base g : Nat} {L : List Int} {S : List (Int × Int)}

theorem search_row (M : List Int) (u : Value) (x : Int) (w : World) (h : SeqV w u M) (hr : M.Pairwise (· < ·)) (hn : M.length ≤ 1000000) :
    Calls Tryd.prog 37 #[u, .int .i64 x] w fun e w' => e = .returned (.tuple #[.int .i64 (M.countP (· < x) : Nat), .bool (M.contains x)]) ∧ ∃ d, w' = w.drewN d := by
  rcases h with ⟨h0, A, c, rfl⟩ | ⟨h0, b, off, c, rfl, hc⟩
  · have hL : M = [] := List.eq_nil_of_length_eq_zero h0
    subst hL
    refine (Tryd.slices_BinarySearch_int_empty A c x w).mono ?_
    rintro e w' ⟨rfl, hw⟩
    exact ⟨rfl, 0, hw⟩
  · have C1 := Tryd.slices_BinarySearch_int b off M.length c M x w (Nat.le_refl _) (by omega) (fun j hj => hc j hj) (by rw [List.take_length]; exact hr.imp (fun h => Int.le_of_lt h))
    rw [List.take_length] at C1
    exact C1

set_option maxRecDepth 100000 in
set_option maxHeartbeats 1000000 in
theorem id_no (n : Nat) (a b : Int) (p : Value) (w : World) (hl : Calls Tryd.prog 14 #[p] w fun e w' => e = .returned (.int .i64 n) ∧ w' = w) (hv : hasV n a = false) :
    Calls Tryd.prog 22 #[p, .int .i64 a, .int .i64 b] w fun e w' => e = .returned (.int .i64 (-1)) ∧ w' = w := by
  have H := has_len n a p w hl
  rw [hv] at H
  have HH := Lib.hid H
  clear H hl hv
  go_enter Tryd.func22, Tryd.ntmps22
  go_wp2_with fail
  refine HH.out.mono ?_; rintro e w1 ⟨rfl, hw⟩; obtain rfl := hw.symm
  go_wp2_with fail
  go_ret
  exact ⟨rfl, rfl⟩

set_option maxRecDepth 100000 in
set_option maxHeartbeats 1000000 in
theorem id_ok (h : GraphOwn w base g L S) (hF : Fine S) (hS : S.length ≤ 1000000) {a : Nat} (b : Int) (ha : a < L.length) :
    Calls Tryd.prog 22 #[.pointer (some ⟨g, 0, none⟩), .int .i64 a, .int .i64 b] w fun e w' => e = .returned (.int .i64 (idL S a b)) ∧ ∃ d, w' = w.drewN d := by
  have H := has_len L.length a _ w (len_any h)
  rw [show hasV L.length a = true by simp [hasV, ha]] at H
  obtain ⟨nb, u, c0, c1, hu⟩ := h.near ha
  obtain ⟨ab, x, d0, d1, hx⟩ := h.ats ha
  have hnl := nearL_len S a
  have B1 := search_row (nearL S a) u b w (own_seq hu) (near_rising hF a) (by omega)
  obtain ⟨Au, cu, rfl⟩ := own_form hu
  obtain ⟨Ax, cx, rfl⟩ := own_form hx
  obtain ⟨n, hn⟩ : ∃ n, L.length = n := ⟨_, rfl⟩
  rw [hn] at c0 d0 ha
  have i1 : (a : Int) < n := by omega
  have i2 : (0 : Int) ≤ a := by omega
  have HH := Lib.hid H
  obtain ⟨r, hr⟩ : ∃ r, idL S a b = r := ⟨_, rfl⟩
  rw [hr]
  by_cases hb : b ∈ nearL S a
  · have hid := id_found hF hb
    obtain ⟨i, hi⟩ : ∃ i, (nearL S a).countP (· < b) = i := ⟨_, rfl⟩
    have hcon : (nearL S a).contains b = true := by simpa using hb
    rw [hi] at hid B1
    rw [hcon] at B1
    have hil := (List.getElem?_eq_some_iff.1 hid).1
    have hsq := own_seq hx
    unfold SeqV at hsq
    obtain ⟨gb, off, rfl, hcs⟩ := IntsV.pos hsq hil
    have hcell2 := hcs i hil
    have hget : (atL S a).getD i 0 = r := by rw [← hr]; simp [List.getD, hid]
    rw [hget] at hcell2
    obtain ⟨z, hz⟩ : ∃ z, (nearL S a).length = z := ⟨_, rfl⟩
    obtain ⟨y, hy⟩ : ∃ y, (atL S a).length = y := ⟨_, rfl⟩
    rw [hz] at c1 B1
    rw [hy] at d1 hil
    have i3 : (i : Int) < y := by omega
    have i4 : (0 : Int) ≤ i := by omega
    have HB := Lib.hid B1
    clear H h hn hu hx hnl B1 hr hb hid hi hcon hz hy hsq hcs hget
    go_enter Tryd.func22, Tryd.ntmps22
    go_wp2_with fail
    refine HH.out.mono ?_; rintro e w1 ⟨rfl, hw⟩; obtain rfl := hw.symm
    go_wp2_with fail
    refine HB.out.mono ?_; rintro e w2 ⟨rfl, d, rfl⟩
    go_wp2_with fail
    go_ret
    exact ⟨rfl, _, rfl⟩
  · have hcon : (nearL S a).contains b = false := by simpa using hb
    have hneg : r = -1 := by rw [← hr, idL, if_neg (fun h => hb ((near_mem hF).2 h))]
    rw [hcon] at B1
    obtain ⟨z, hz⟩ : ∃ z, (nearL S a).length = z := ⟨_, rfl⟩
    rw [hz] at c1 B1
    have HB := Lib.hid B1; have HN := Lib.hid hneg
    clear H h hn hu hx hnl B1 hr hb hcon hneg hz d1
    go_enter Tryd.func22, Tryd.ntmps22
    go_wp2_with fail
    refine HH.out.mono ?_; rintro e w1 ⟨rfl, hw⟩; obtain rfl := hw.symm
    go_wp2_with fail
    refine HB.out.mono ?_; rintro e w2 ⟨rfl, d, rfl⟩
    go_wp2_with fail
    go_ret
    exact ⟨by rw [HN.out]; rfl, _, rfl⟩
end
end Go.Proofs.YtfngkbpoefapdaaDoor
