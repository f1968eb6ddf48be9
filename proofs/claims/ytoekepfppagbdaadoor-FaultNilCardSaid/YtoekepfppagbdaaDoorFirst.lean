/- fault.First. -/
import Derived.Test.YtoekepfppagbdaaDoorMade
namespace Go.Proofs.YtoekepfppagbdaaDoor
open Go.RowKit Go.Extern.Stop Go.Stop Go.Extern

theorem first_found (n k : Nat) (E : Nat → Value) (T : TypeId) (x : Value) (b off cap : Nat) (w : World) (hk : k < n) (hn : n ≤ 100000) (hE : ∀ i, i < n → w.cell? ⟨b, off + i, none⟩ = some (E i)) (hnil : ∀ i, i < k → E i = .nilIface) (hx : E k = .iface T x) :
    Calls Tryd.prog 19 #[.slice (some ⟨b, off, none⟩) n cap] w fun e w' => e = .returned (.iface T x) ∧ w' = w := by
  have HE := Lib.hid hE
  have HNIL := Lib.hid hnil
  have HX := Lib.hid hx
  clear hE hnil hx
  go_enter Tryd.func19, Tryd.ntmps19
  go_wp2
  go_loopg [7] n (fun g u wr => ∃ i, i ≤ k ∧ g = n - i ∧ u = .int .i64 (i : Int) ∧ wr = w)
  case atStart => exact ⟨0, Nat.zero_le _, rfl, rfl, rfl⟩
  case round =>
    obtain ⟨i, hik, rfl, rfl, rfl⟩ := hrel
    have d1 : decide ((i : Int) < n) = true := decide_eq_true (by omega)
    have hc := HE.out i (by omega)
    by_cases hlt : i < k
    · rw [HNIL.out i hlt] at hc
      go_wp2
      go_roundg (n - (i + 1))
      case rel => exact ⟨i + 1, by omega, rfl, by go_num, rfl⟩
      case measure => omega
    · obtain rfl : i = k := by omega
      rw [HX.out] at hc
      go_wp2
      go_ret
      exact ⟨rfl, rfl⟩
theorem first_none (n : Nat) (E : Nat → Value) (v : Value) (w : World) (hn : n ≤ 100000) (hv : (n = 0 ∧ ∃ (ao : Option Addr) (cap : Nat), v = .slice ao 0 cap) ∨ ∃ b off cap : Nat, v = .slice (some ⟨b, off, none⟩) n cap ∧ ∀ i, i < n → w.cell? ⟨b, off + i, none⟩ = some (E i)) (hnil : ∀ i, i < n → E i = .nilIface) :
    Calls Tryd.prog 19 #[v] w fun e w' => e = .returned .nilIface ∧ w' = w := by
  rcases hv with ⟨rfl, ao, cap, rfl⟩ | ⟨b, off, cap, rfl, hE⟩
  · go_enter Tryd.func19, Tryd.ntmps19
    go_wp2
    refine wp_loop_rounds 1 ?_
    rw [rounds_succ]
    go_wp2
    go_ret
    exact ⟨rfl, rfl⟩
  · have HE := Lib.hid hE
    have HNIL := Lib.hid hnil
    clear hE hnil
    go_enter Tryd.func19, Tryd.ntmps19
    go_wp2
    go_loopg [7] n (fun g u wr => ∃ i, i ≤ n ∧ g = n - i ∧ u = .int .i64 (i : Int) ∧ wr = w)
    case atStart => exact ⟨0, Nat.zero_le _, rfl, rfl, rfl⟩
    case round =>
      obtain ⟨i, hik, rfl, rfl, rfl⟩ := hrel
      by_cases hlt : i < n
      · have d1 : decide ((i : Int) < n) = true := decide_eq_true (by omega)
        have hc := HE.out i (by omega)
        rw [HNIL.out i hlt] at hc
        go_wp2
        go_roundg (n - (i + 1))
        case rel => exact ⟨i + 1, by omega, rfl, by go_num, rfl⟩
        case measure => omega
      · obtain rfl : i = n := by omega
        have d1 : decide ((i : Int) < i) = false := decide_eq_false (by omega)
        go_wp2
        go_ret
        exact ⟨rfl, rfl⟩
end Go.Proofs.YtoekepfppagbdaaDoor
