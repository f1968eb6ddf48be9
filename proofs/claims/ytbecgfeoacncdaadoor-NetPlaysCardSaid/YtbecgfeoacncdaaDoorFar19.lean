/- law 19: far. -/
import Derived.Test.YtbecgfeoacncdaaDoorAlive19
namespace Go.Proofs.YtbecgfeoacncdaaDoor
open Go.RowKit

/-- A call that is looked at. -/
def NearA (l : Let) : Prop := 0 ≤ l.f ∧ l.f ≤ 2 ∧ l.x.size ≤ 100
/-- What far tells. -/
def FarTo (S : List Let) (n : Nat) (w : World) (e : Ending) (w' : World) : Prop := ∃ z, e = .returned (.bool z) ∧ w' = w ∧ (z = false → n ≤ 60 ∧ ∀ l ∈ S, NearA l)
set_option maxRecDepth 100000 in
set_option maxHeartbeats 4000000 in
theorem far_any {w : World} {v : Value} {S : List Let} (h : LetsAt w v S) (hn : S.length ≤ 9223372036854775807) :
    Calls Tryd.prog 9 #[v] w (FarTo S S.length w) := by
  have H := Lib.hid h
  obtain ⟨A, c, rfl, _⟩ := h
  obtain ⟨n, hnn⟩ : ∃ n, S.length = n := ⟨_, rfl⟩
  have HN := Lib.hid hnn
  rw [hnn] at H hn ⊢
  clear hnn
  go_enter Tryd.func9, Tryd.ntmps9
  go_wp2_with fail
  go_loopg [3] n (fun g y wr => ∃ k, k ≤ n ∧ g = n - k ∧ y = .int .i64 (k : Nat) ∧ (∀ i (hi : i < S.length), i < k → NearA S[i]) ∧ wr = w)
  case atStart => exact ⟨0, Nat.zero_le _, rfl, rfl, fun _ _ h => absurd h (by omega), rfl⟩
  case round =>
    obtain ⟨k, hk, rfl, rfl, hnear, rfl⟩ := hrel
    by_cases hlt : k < n
    · obtain ⟨b, off, rfl, e0, _, _, e3⟩ := H.out.pos (i := k) (by rw [HN.out]; exact hlt)
      obtain ⟨⟨f, t, s, x⟩, hl⟩ : ∃ l, S[k]'(by rw [HN.out]; exact hlt) = l := ⟨_, rfl⟩
      rw [hl] at e0 e3
      simp only at e0 e3
      have t3 : decide (k < n) = true := decide_eq_true hlt
      have t3' : decide ((k : Int) < (n : Int)) = true := decide_eq_true (by omega)
      have i1 : (k : Int) < n := by omega
      have i2 : (0 : Int) ≤ k := by omega
      obtain ⟨q, hq⟩ : ∃ q, x.size = q := ⟨_, rfl⟩
      have HNR := Lib.hid hnear; have HL := Lib.hid hl; have HQ := Lib.hid hq
      by_cases a1 : f < 0
      · have d1 : decide (f < 0) = true := decide_eq_true a1
        clear hnear hl hq
        go_wp2_with fail
        go_ret
        exact ⟨true, rfl, rfl, fun h => by cases h⟩
      · have d1 : decide (f < 0) = false := decide_eq_false a1
        by_cases a2 : 2 < f
        · have d2 : decide (2 < f) = true := decide_eq_true a2
          clear hnear hl hq
          go_wp2_with fail
          go_ret
          exact ⟨true, rfl, rfl, fun h => by cases h⟩
        · have d2 : decide (2 < f) = false := decide_eq_false a2
          by_cases a3 : 100 < q
          · have d3 : decide (100 < (q : Int)) = true := decide_eq_true (by omega)
            have d3' : decide (100 < q) = true := decide_eq_true a3
            have hsz := hq
            clear hnear hl hq
            go_wp2_with fail
            go_ret
            exact ⟨true, rfl, rfl, fun h => by cases h⟩
          · have d3 : decide (100 < (q : Int)) = false := decide_eq_false (by omega)
            have d3' : decide (100 < q) = false := decide_eq_false a3
            have hsz := hq
            have HA := Lib.hid (show 0 ≤ f ∧ f ≤ 2 ∧ q ≤ 100 by omega)
            clear hnear hl hq
            go_wp2_with fail
            go_roundg (n - (k + 1))
            case rel =>
              refine ⟨k + 1, hlt, rfl, by go_num, fun i hi hik => ?_, rfl⟩
              by_cases hx : i < k
              · exact HNR.out i hi hx
              · obtain rfl : i = k := by omega
                rw [HL.out]
                exact ⟨HA.out.1, HA.out.2.1, by show x.size ≤ 100; rw [HQ.out]; exact HA.out.2.2⟩
            case measure => omega
    · obtain rfl : k = n := by omega
      have t3 : decide (k < k) = false := decide_eq_false (by omega)
      have HNR := Lib.hid hnear
      obtain ⟨z, hz⟩ : ∃ z, decide (60 < (k : Int)) = z := ⟨_, rfl⟩
      have hz' : decide (60 < k) = z := by rw [← hz]; exact decide_eq_decide.2 (by omega)
      have HZ := Lib.hid hz'
      clear hnear
      go_wp2_with fail
      go_ret
      refine ⟨z, rfl, rfl, fun h0 => ⟨?_, fun l hl => ?_⟩⟩
      · have := HZ.out
        rw [h0] at this
        have := of_decide_eq_false this
        omega
      · obtain ⟨i, hi, rfl⟩ := List.mem_iff_getElem.1 hl
        exact HNR.out i hi (by rw [← HN.out]; exact hi)
end Go.Proofs.YtbecgfeoacncdaaDoor
