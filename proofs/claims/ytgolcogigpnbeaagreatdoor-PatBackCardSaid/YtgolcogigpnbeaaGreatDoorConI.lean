/- slices.Contains of numbers. -/
import Derived.Test.YtgolcogigpnbeaaGreatDoorSeq
import Derived.Lib.Hide
import Derived.BigQuiet
import Derived.Deep.QuietTactic
import Derived.Deep.LoopGhost
namespace Go.Proofs.YtgolcogigpnbeaaGreatDoor
open Go.RowKit

theorem contains_take (M : List Int) (i : Nat) (z : Int) (hi : i < M.length) : (M.take (i + 1)).contains z = ((M.take i).contains z || (M.getD i 0 == z)) := by
  rw [List.take_succ_eq_append_getElem hi, List.contains_eq_any_beq, List.contains_eq_any_beq, List.any_append]
  have : M.getD i 0 = M[i] := by simp [List.getD, hi]
  rw [this]
  simp [Bool.beq_comm]
theorem SeqV.pos {w : World} {A : Option Addr} {n c : Nat} {L : List Int} (h : SeqV w (.slice A n c) L) {i : Nat} (hi : i < L.length) : ∃ b off, A = some ⟨b, off, none⟩ ∧ w.cell? ⟨b, off + i, none⟩ = some (.int .i64 (L.getD i 0)) := by
  rcases h with ⟨h0, _⟩ | ⟨_, b, off, c', e, hc⟩
  · omega
  · injection e with e1 _ _
    exact ⟨b, off, e1, hc i hi⟩
/-- What Index and IndexFunc tell. -/
def IdxTo (t : Bool) (e : Ending) : Prop := ∃ r : Int, e = .returned (.int .i64 r) ∧ decide (0 ≤ r) = t
def Drew (w w' : World) : Prop := ∃ d, w' = w.drewN d

set_option maxRecDepth 100000 in
set_option maxHeartbeats 1000000 in
theorem idxI_any (L : List Int) (x : Int) (v : Value) (w : World) (h : SeqV w v L) (hn : L.length ≤ 1000000000) :
    Calls Tryz.prog 67 #[v, .int .i64 x] w fun e w' => IdxTo (L.contains x) e ∧ w' = w := by
  obtain ⟨A, c, rfl⟩ := IntsV.form h
  obtain ⟨n, hl⟩ : ∃ n, L.length = n := ⟨_, rfl⟩
  have H : Hid (SeqV w (.slice A n c) L) := Lib.hid (by rw [← hl]; exact h)
  have HL := Lib.hid hl
  obtain ⟨ans, hans⟩ : ∃ z, L.contains x = z := ⟨_, rfl⟩
  have HA := Lib.hid hans
  rw [hl] at hn ⊢
  rw [hans]
  clear h hl hans
  go_enter Tryz.func67, Tryz.ntmps67
  go_wp2_with fail
  go_loopg [8] n (fun g y wr => ∃ k, k ≤ n ∧ g = n - k ∧ y = .int .i64 (k : Nat) ∧ (L.take k).contains x = false ∧ wr = w)
  case atStart => exact ⟨0, by omega, rfl, rfl, by simp, rfl⟩
  case round =>
    obtain ⟨k, hk, rfl, rfl, hno, hwr⟩ := hrel
    obtain rfl := hwr.symm
    have HNO := Lib.hid hno
    clear hno
    by_cases hlt : k < n
    · have hkL : k < L.length := by rw [HL.out]; exact hlt
      obtain ⟨b, off, rfl, hc⟩ := SeqV.pos H.out hkL
      obtain ⟨z, hz⟩ : ∃ z : Int, L.getD k 0 = z := ⟨_, rfl⟩
      rw [hz] at hc
      have HT := Lib.hid (contains_take L k x hkL)
      have HZ := Lib.hid hz; have HLT := Lib.hid hlt
      have t7 : decide (k < n) = true := decide_eq_true hlt
      have i1 : (k : Int) < n := by omega
      have i2 : (0 : Int) ≤ k := by omega
      clear hz hlt hkL
      by_cases hzx : x = z
      · have t8 : (x == z) = true := by simp [hzx]
        have HK : Hid (ans = true) := Lib.hid (by
          rw [← HA.out]
          have h1 := HT.out
          rw [HNO.out, HZ.out, hzx] at h1
          simp at h1
          have := List.mem_of_mem_take h1
          rw [hzx]
          simpa using this)
        clear hzx
        go_wp2_with fail
        go_ret
        exact ⟨⟨_, rfl, by rw [HK.out]; exact decide_eq_true (by omega)⟩, rfl⟩
      · have t8 : (x == z) = false := by simp [hzx]
        have HK : Hid ((L.take (k + 1)).contains x = false) := Lib.hid (by rw [HT.out, HNO.out, HZ.out]; simp; omega)
        clear hzx
        go_wp2_with fail
        go_roundg (n - (k + 1))
        case rel => exact ⟨k + 1, HLT.out, rfl, by go_num, HK.out, rfl⟩
        case measure => have := HLT.out; omega
    · obtain rfl : n = k := by omega
      have t7 : decide (n < n) = false := by simp
      have HK : Hid (ans = false) := Lib.hid (by rw [← HA.out]; have h1 := HNO.out; rwa [List.take_of_length_le (by rw [HL.out]; exact Nat.le_refl _)] at h1)
      clear hlt
      go_wp2_with fail
      go_ret
      exact ⟨⟨_, rfl, by rw [HK.out]; rfl⟩, rfl⟩

set_option maxRecDepth 100000 in
theorem conI_any (L : List Int) (x : Int) (v : Value) (w : World) (h : SeqV w v L) (hn : L.length ≤ 1000000000) :
    Calls Tryz.prog 35 #[v, .int .i64 x] w fun e w' => e = .returned (.bool (L.contains x)) ∧ w' = w := by
  have HI := Lib.hid (idxI_any L x v w h hn)
  obtain ⟨A, c, rfl⟩ := IntsV.form h
  obtain ⟨z, hz⟩ : ∃ z, L.contains x = z := ⟨_, rfl⟩
  rw [hz] at HI ⊢
  clear h hz
  go_enter Tryz.func35, Tryz.ntmps35
  go_wp2_with fail
  refine HI.out.mono ?_; rintro e w1 ⟨⟨r, rfl, hr⟩, hw⟩; obtain rfl := hw.symm
  go_wp2_with fail
  go_ret
  exact ⟨rfl, rfl⟩
end Go.Proofs.YtgolcogigpnbeaaGreatDoor
