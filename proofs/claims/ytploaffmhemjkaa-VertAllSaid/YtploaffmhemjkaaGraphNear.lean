/- What is read of a graph: Near. -/
import Derived.Test.YtploaffmhemjkaaGraph4
namespace Go.Proofs.Ytploaffmhemjkaa
open Go.RowKit
section
variable {w : World} {base g : Nat} {L : List Int} {S : List (Int × Int)}

set_option maxRecDepth 100000 in
set_option maxHeartbeats 1000000 in
theorem near_no (n : Nat) (v : Int) (p : Value) (w : World) (hl : Calls Try.prog 25 #[p] w fun e w' => e = .returned (.int .i64 n) ∧ w' = w) (hv : hasV n v = false) :
    Calls Try.prog 33 #[p, .int .i64 v] w fun e w' => e = .returned (.slice none 0 0) ∧ w' = w := by
  have H := has_len n v p w hl
  rw [hv] at H
  have HH := Lib.hid H
  clear H hl hv
  go_enter Try.func33, Try.ntmps33
  go_wp2_with fail
  refine HH.out.mono ?_; rintro e w1 ⟨rfl, hw⟩; obtain rfl := hw.symm
  go_wp2_with fail
  go_ret
  exact ⟨rfl, rfl⟩

set_option maxRecDepth 100000 in
set_option maxHeartbeats 1000000 in
theorem near_ok (h : GraphOwn w base g L S) (hS : S.length ≤ 1000000) {v : Nat} (hv : v < L.length) :
    Calls Try.prog 33 #[.pointer (some ⟨g, 0, none⟩), .int .i64 v] w fun e w' => ∃ v', e = .returned v' ∧ w'.ownsRow w.heap.size 3 1 v' (nearL S v).length (intCells (nearL S v)) ∧ Below w.heap.size w w' := by
  have H := has_len L.length v _ w (len_any h)
  rw [show hasV L.length v = true by simp [hasV, hv]] at H
  obtain ⟨b, u, c0, c1, hu⟩ := h.near hv
  have hl : (nearL S v).length ≤ S.length := by exact nearL_len S v
  have K1 := clone_own (nearL S v) u w (own_seq hu) (by omega)
  obtain ⟨Au, cu, rfl⟩ := own_form hu
  obtain ⟨M, hM⟩ : ∃ M, nearL S v = M := ⟨_, rfl⟩
  rw [hM] at c1 K1 ⊢
  obtain ⟨z, hz⟩ : ∃ z, M.length = z := ⟨_, rfl⟩
  rw [hz] at c1 K1 ⊢
  have HH := Lib.hid H; have HK := Lib.hid K1
  obtain ⟨n, hn⟩ : ∃ n, L.length = n := ⟨_, rfl⟩
  rw [hn] at c0 hv
  have i1 : (v : Int) < n := by omega
  have i2 : (0 : Int) ≤ v := by omega
  clear H h hz hn hu K1 hM hl
  go_enter Try.func33, Try.ntmps33
  go_wp2_with fail
  refine HH.out.mono ?_; rintro e w1 ⟨rfl, hw⟩; obtain rfl := hw.symm
  go_wp2_with fail
  refine HK.out.mono ?_; rintro e w2 ⟨v2, rfl, ho, hb⟩
  have HO := Lib.hid ho; have HB := Lib.hid hb
  clear ho hb
  go_wp2_with fail
  go_ret
  exact ⟨_, rfl, HO.out, HB.out⟩

end
end Go.Proofs.Ytploaffmhemjkaa
