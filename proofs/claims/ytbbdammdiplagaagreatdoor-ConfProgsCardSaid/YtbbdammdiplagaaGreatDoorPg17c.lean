/- prog: Right. -/
import Derived.Test.YtbbdammdiplagaaGreatDoorPg17a
import Derived.Test.YtbbdammdiplagaaGreatDoorPatZ
namespace Go.Proofs.YtbbdammdiplagaaGreatDoor
open Go.RowKit

set_option maxRecDepth 100000 in
set_option maxHeartbeats 4000000 in
theorem progRight_any {w : World} {v : Value} {O : List (Int × Int)} (hO : EdgesV w v O) (h1 : O.length ≤ 1000000) :
    Calls Tryz.prog 24 #[v] w (ErrTo (progF O) w) := by
  have HE := Lib.hid hO
  obtain ⟨A, c, rfl⟩ := hO.form
  obtain ⟨n, hn⟩ : ∃ n, O.length = n := ⟨_, rfl⟩
  rw [hn] at HE h1 ⊢
  have HN := Lib.hid hn
  clear hO hn
  by_cases hbig : 16 < n
  · have HLF : Hid (progF O = some (6, 0)) := Lib.hid (by unfold progF; rw [if_pos (by rw [HN.out]; exact hbig)])
    have HF := Lib.hid (new_any 6 0 ⟨#[112, 114, 111, 103, 114, 97, 109]⟩ w)
    have HB := Lib.hid (fault_new 6 0 ⟨#[112, 114, 111, 103, 114, 97, 109]⟩ w)
    have t1 : decide ((16 : Int) < (n : Int)) = true := decide_eq_true (by omega)
    have t1' : decide (16 < n) = true := decide_eq_true hbig
    clear hbig
    go_enter Tryz.func24, Tryz.ntmps24
    go_wp2_with fail
    refine HF.out.mono ?_; rintro e w1 ⟨rfl, rfl⟩
    go_wp2_with fail
    go_ret
    exact ⟨HB.out.1, Or.inr ⟨6, 0, _, HLF.out, rfl, HB.out.2⟩⟩
  · have t1 : decide ((16 : Int) < (n : Int)) = false := decide_eq_false (by omega)
    have t1' : decide (16 < n) = false := decide_eq_false hbig
    have HSM := Lib.hid hbig
    have HWR := Lib.hid (fun k m W => wrong_any k m W)
    clear hbig
    go_enter Tryz.func24, Tryz.ntmps24
    go_wp2_with fail
    go_loopg [12] n (fun g y wr => ∃ k, k ≤ n ∧ g = n - k ∧ y = .int .i64 (k : Nat) ∧ (∀ i, i < k → wrongAt O i = none) ∧ Below w.heap.size w wr)
    case atStart => exact ⟨0, Nat.zero_le _, rfl, rfl, fun i hi => absurd hi (Nat.not_lt_zero i), Below.refl _ _⟩
    case round =>
      obtain ⟨k, hk, rfl, rfl, hall, hB⟩ := hrel
      have HALL := Lib.hid hall
      clear hall
      by_cases hlt : k < n
      · have hkE : k < O.length := by rw [HN.out]; exact hlt
        obtain ⟨b, off, rfl, d0, d1⟩ := (HE.out.below hB (Nat.le_refl _)).pos (i := k) hkE
        obtain ⟨x, hxx⟩ : ∃ x, O.getD k (0, 0) = x := ⟨_, rfl⟩
        rw [hxx] at d0 d1
        obtain ⟨a, q⟩ := x
        simp only at d0 d1
        have t3 : decide (k < n) = true := decide_eq_true hlt
        have i1 : (k : Int) < n := by omega
        have i2 : (0 : Int) ≤ k := by omega
        have hb3 : Below w.heap.size w (wr.alloc (.cells #[.int .i64 a, .int .i64 q] 44)) := hB.alloc hB.size _
        have hG3 := Whole.new wr 44 #[.int .i64 a, .int .i64 q]
        obtain ⟨w3, hw3⟩ : ∃ W, wr.alloc (.cells #[.int .i64 a, .int .i64 q] 44) = W := ⟨_, rfl⟩
        obtain ⟨gb, hgb⟩ : ∃ g, wr.heap.size = g := ⟨_, rfl⟩
        rw [hw3] at hb3 hG3
        rw [hgb] at hG3
        obtain ⟨z, hz⟩ : ∃ z, wrongF (a, q) = z := ⟨_, rfl⟩
        have HW := Lib.hid (HWR.out a q w3)
        rw [hz] at HW
        have HAT : Hid (wrongAt O k = if z = 0 then none else some (z, (k : Int))) := Lib.hid (by unfold wrongAt; rw [hxx, hz])
        have HW3 := Lib.hid hw3; have HGB := Lib.hid hgb; have HB3 := Lib.hid hb3; have HLT := Lib.hid hlt; have HKE := Lib.hid hkE
        have e0 : w3.cell? ⟨gb, 0, none⟩ = some (.int .i64 a) := hG3.cell 0
        have e1 : w3.cell? ⟨gb, 1, none⟩ = some (.int .i64 q) := hG3.cell 1
        clear hB hlt hxx hw3 hgb hb3 hG3 hkE hz
        go_upto_region 6 with fail
        rw [HW3.out, HGB.out]
        go_wp2_with fail
        refine HW.out.mono ?_; rintro e w4 ⟨rfl, hb4⟩
        have HB4 := Lib.hid (HB3.out.trans (hb4.mono HB3.out.size))
        have HF := Lib.hid (new_any z k ⟨#[116, 101, 115, 116]⟩ w4)
        have HFB := Lib.hid (fault_new z k ⟨#[116, 101, 115, 116]⟩ w4)
        clear hb4 e0 e1
        by_cases hz0 : z = 0
        · have t5 : (z != 0) = false := by simpa using hz0
          have HNO : Hid (wrongAt O k = none) := Lib.hid (by rw [HAT.out, if_pos hz0])
          clear hz0
          go_wp2_with fail
          go_roundg (n - (k + 1))
          case rel =>
            refine ⟨k + 1, HLT.out, rfl, by go_num, fun i hi => ?_, HB4.out⟩
            rcases Nat.lt_or_ge i k with h | h
            · exact HALL.out i h
            · obtain rfl : i = k := by omega
              exact HNO.out
          case measure => have := HLT.out; omega
        · have t5 : (z != 0) = true := by simpa using hz0
          have HLF : Hid (progF O = some (z, (k : Int))) := Lib.hid (by
            unfold progF
            rw [if_neg (by rw [HN.out]; exact HSM.out)]
            exact some_at HKE.out (fun i hi => HALL.out i hi) (by rw [HAT.out, if_neg hz0]))
          clear hz0
          go_wp2_with fail
          refine HF.out.mono ?_; rintro e w5 ⟨rfl, rfl⟩
          go_wp2_with fail
          go_ret
          exact ⟨HB4.out.trans (HFB.out.1.mono HB4.out.size), Or.inr ⟨z, k, _, HLF.out, rfl, HFB.out.2⟩⟩
      · obtain rfl : k = n := by omega
        have t3 : decide (k < k) = false := by simp
        have HLF : Hid (progF O = none) := Lib.hid (by
          unfold progF
          rw [if_neg (by rw [HN.out]; exact HSM.out), HN.out]
          exact some_none (fun i hi => HALL.out i hi))
        have HB := Lib.hid hB
        clear hlt hB
        go_wp2_with fail
        go_ret
        exact ⟨HB.out, Or.inl ⟨HLF.out, rfl⟩⟩
end Go.Proofs.YtbbdammdiplagaaGreatDoor
