/- pat: Degree, rising. -/
import Derived.Test.YtgolcogigpnbeaaGreatDoorPairsV
import Derived.Test.YtgolcogigpnbeaaGreatDoorGraphP
import Derived.RegionTactic
import Derived.Sort.WalkB12
import Derived.BigQuiet
import Derived.Deep.QuietTactic
namespace Go.Proofs.YtgolcogigpnbeaaGreatDoor
open Go.RowKit

def atEnd (v : Int) (e : Int × Int) : Bool := e.1 == v || e.2 == v
set_option maxRecDepth 100000 in
set_option maxHeartbeats 2000000 in
theorem degree_any {w : World} {vE : Value} {AL : Option Addr} {nL cL : Nat} {E : List (Int × Int)} (hE : EdgesV w vE E) {n : Nat} (hn : E.length = n) (hn1 : n ≤ 1000000) (v : Int) :
    Calls Tryz.prog 28 #[.agg #[.slice AL nL cL, vE], .int .i64 v] w fun e w' => e = .returned (.int .i64 (E.countP (atEnd v) : Nat)) ∧ Below w.heap.size w w' := by
  have HE := Lib.hid hE; have HN := Lib.hid hn
  obtain ⟨A, c, rfl⟩ := hE.form
  rw [hn] at HE ⊢
  have hb0 : Below w.heap.size w (w.alloc (.cells #[.slice AL nL cL, .slice A n c] 31)) := (Below.refl _ _).alloc (Nat.le_refl _) _
  have HB0 := Lib.hid hb0
  clear hE hn hb0
  go_enter Tryz.func28, Tryz.ntmps28
  go_wp2_with fail
  go_loopg [5, 11] n (fun g cv y wr => ∃ k V, V = wr ∧ k ≤ n ∧ g = n - k ∧ cv = .int .i64 ((E.take k).countP (atEnd v) : Nat) ∧ y = .int .i64 (k : Nat) ∧ Below w.heap.size w V)
  case atStart => exact ⟨0, _, rfl, Nat.zero_le _, rfl, by rw [List.take_zero]; rfl, rfl, HB0.out⟩
  case round =>
    obtain ⟨k, V, rfl, hk, rfl, rfl, rfl, hB⟩ := hrel
    have HB := Lib.hid hB
    obtain ⟨cnt, hcnt⟩ : ∃ m, (E.take k).countP (atEnd v) = m := ⟨_, rfl⟩
    have hck : cnt ≤ k := by
      rw [← hcnt]
      refine Nat.le_trans List.countP_le_length ?_
      rw [List.length_take]
      omega
    rw [hcnt]
    clear hB
    by_cases hlt : k < n
    · have hkE : k < E.length := by rw [HN.out]; exact hlt
      obtain ⟨b, off, rfl, d0, d1⟩ := (HE.out.below HB.out (Nat.le_refl _)).pos (i := k) hkE
      obtain ⟨⟨p, q⟩, he⟩ : ∃ e, E.getD k (0, 0) = e := ⟨_, rfl⟩
      rw [he] at d0 d1
      simp only at d0 d1
      have hek : E[k] = (p, q) := by rw [← he]; simp [List.getD, hkE]
      have hnx : (E.take (k + 1)).countP (atEnd v) = cnt + (if atEnd v (p, q) = true then 1 else 0) := by
        rw [List.take_succ_eq_append_getElem hkE, List.countP_append, hcnt, hek]
        simp only [List.countP_cons, List.countP_nil, Nat.zero_add]
      have t3 : decide (k < n) = true := decide_eq_true hlt
      have t3' : decide ((k : Int) < (n : Int)) = true := decide_eq_true (by omega)
      have j1 : (k : Int) < n := by omega
      have j2 : (0 : Int) ≤ k := by omega
      have sw : IntKind.i64.wrap ((cnt : Int) + 1) = (cnt : Int) + 1 := by rw [IntKind.wrap_i64] <;> omega
      have HLT := Lib.hid hlt
      have hb1 : Below w.heap.size w (V.alloc (.cells #[.int .i64 p, .int .i64 q] 62)) := HB.out.alloc HB.out.size _
      have HB1 := Lib.hid hb1
      have hcs : ((p == v) = true ∧ atEnd v (p, q) = true) ∨ ((p == v) = false ∧ (q == v) = true ∧ atEnd v (p, q) = true) ∨ ((p == v) = false ∧ (q == v) = false ∧ atEnd v (p, q) = false) := by
        unfold atEnd
        simp only
        cases p == v <;> cases q == v <;> simp
      clear he hek hcnt hkE hb1
      rcases hcs with ⟨u1, u2⟩ | ⟨u1, u3, u2⟩ | ⟨u1, u3, u2⟩
      · rw [u2] at hnx
        have HNX := Lib.hid hnx
        have u1' : decide (p = v) = true := by simpa using u1
        clear hnx u2
        go_wp2_with fail
        go_roundg (n - (k + 1))
        case rel => exact ⟨k + 1, _, rfl, HLT.out, rfl, by rw [HNX.out]; rfl, by go_num, HB1.out⟩
        case measure => have := HLT.out; omega
      · rw [u2] at hnx
        have HNX := Lib.hid hnx
        have u1' : decide (p = v) = false := by simpa using u1
        have u3' : decide (q = v) = true := by simpa using u3
        clear hnx u2
        go_wp2_with fail
        go_roundg (n - (k + 1))
        case rel => exact ⟨k + 1, _, rfl, HLT.out, rfl, by rw [HNX.out]; rfl, by go_num, HB1.out⟩
        case measure => have := HLT.out; omega
      · rw [u2] at hnx
        have HNX := Lib.hid hnx
        have u1' : decide (p = v) = false := by simpa using u1
        have u3' : decide (q = v) = false := by simpa using u3
        clear hnx u2
        go_wp2_with fail
        go_roundg (n - (k + 1))
        case rel => exact ⟨k + 1, _, rfl, HLT.out, rfl, by rw [HNX.out]; rfl, by go_num, HB1.out⟩
        case measure => have := HLT.out; omega
    · obtain rfl : k = n := by omega
      have t3 : decide (k < k) = false := decide_eq_false (by omega)
      have HC : Hid (E.countP (atEnd v) = cnt) := Lib.hid (by rw [← hcnt, ← HN.out, List.take_length])
      clear hcnt
      go_wp2_with fail
      go_ret
      exact ⟨by rw [HC.out]; rfl, HB.out⟩
end Go.Proofs.YtgolcogigpnbeaaGreatDoor
