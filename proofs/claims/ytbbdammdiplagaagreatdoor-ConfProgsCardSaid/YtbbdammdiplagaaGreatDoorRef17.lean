/- The document's tests: takes, Fault, Right, Text. -/
import Derived.Test.YtbbdammdiplagaaGreatDoorNum05
import Derived.Test.YtbbdammdiplagaaGreatDoorPg17a
import Derived.Test.YtbbdammdiplagaaGreatDoorPairsV
import Derived.Test.YtbbdammdiplagaaGreatDoorPatZ
import Derived.Test.YtbbdammdiplagaaGreatDoorText17
namespace Go.Proofs.YtbbdammdiplagaaGreatDoor
open Go.RowKit

def takesB (k : Int) : Bool := k != 1 && k != 6 && k != 8
theorem takes_counts {k : Int} (h0 : 1 ≤ k) (h8 : k ≤ 8) : takesB k = countsB k := by
  rcases kind8 h0 h8 with rfl | rfl | rfl | rfl | rfl | rfl | rfl | rfl <;> rfl
set_option maxRecDepth 100000 in
theorem takes_any (k : Int) (w : World) : Calls Tryz.prog 56 #[.int .i64 k] w fun e w' => e = .returned (.bool (takesB k)) ∧ w' = w := by
  by_cases h1 : k = 1
  · subst h1
    go_enter Tryz.func56, Tryz.ntmps56
    go_wp2_with fail
    go_ret
    exact ⟨rfl, rfl⟩
  · by_cases h6 : k = 6
    · subst h6
      go_enter Tryz.func56, Tryz.ntmps56
      go_wp2_with fail
      go_ret
      exact ⟨rfl, rfl⟩
    · have n1 : (k != 1) = true := by simpa using h1
      have n6 : (k != 6) = true := by simpa using h6
      have HE : Hid (takesB k = (k != 8)) := Lib.hid (by unfold takesB; rw [n1, n6]; rfl)
      clear h1 h6
      go_enter Tryz.func56, Tryz.ntmps56
      go_wp2_with fail
      go_ret
      exact ⟨by rw [HE.out]; rfl, rfl⟩
set_option maxRecDepth 100000 in
set_option maxHeartbeats 4000000 in
theorem fault17_any (a b : Int) (w : World) : Calls Tryz.prog 46 #[.agg #[.int .i64 a, .int .i64 b]] w fun e w' => e = .returned (.int .i64 (wrongF (a, b))) ∧ Below w.heap.size w w' := by
  have HB := Lib.hid ((Below.refl w.heap.size w).alloc (Nat.le_refl _) (.cells #[.int .i64 a, .int .i64 b] 87))
  by_cases h1 : a < 1
  · have t1 : decide (a < 1) = true := decide_eq_true h1
    have HF : Hid (wrongF (a, b) = 1) := Lib.hid (by unfold wrongF; simp only; rw [if_pos (Or.inl h1)])
    clear h1
    go_enter Tryz.func46, Tryz.ntmps46
    go_wp2_with fail
    go_ret
    exact ⟨by rw [HF.out]; rfl, HB.out⟩
  · have t1 : decide (a < 1) = false := decide_eq_false h1
    by_cases h8 : 8 < a
    · have t2 : decide (8 < a) = true := decide_eq_true h8
      have HF : Hid (wrongF (a, b) = 1) := Lib.hid (by unfold wrongF; simp only; rw [if_pos (Or.inr h8)])
      clear h1 h8
      go_enter Tryz.func46, Tryz.ntmps46
      go_wp2_with fail
      go_ret
      exact ⟨by rw [HF.out]; rfl, HB.out⟩
    · have t2 : decide (8 < a) = false := decide_eq_false h8
      have HU : Hid (wrongF (a, b) = if countsB a = true then (if b < 0 ∨ 255 < b then 3 else 0) else (if b = 0 then 0 else 3)) := Lib.hid (by unfold wrongF; simp only; rw [if_neg (by omega)])
      by_cases b0 : b < 0
      · have t3 : decide (b < 0) = true := decide_eq_true b0
        have HF : Hid (wrongF (a, b) = 3) := Lib.hid (by rw [HU.out, if_pos (Or.inl b0), if_neg (show ¬ b = 0 by omega)]; simp)
        clear h1 h8 b0
        go_enter Tryz.func46, Tryz.ntmps46
        go_wp2_with fail
        go_ret
        exact ⟨by rw [HF.out]; rfl, HB.out⟩
      · have t3 : decide (b < 0) = false := decide_eq_false b0
        by_cases b1 : 255 < b
        · have t4 : decide (255 < b) = true := decide_eq_true b1
          have HF : Hid (wrongF (a, b) = 3) := Lib.hid (by rw [HU.out, if_pos (Or.inr b1), if_neg (show ¬ b = 0 by omega)]; simp)
          clear h1 h8 b0 b1
          go_enter Tryz.func46, Tryz.ntmps46
          go_wp2_with fail
          go_ret
          exact ⟨by rw [HF.out]; rfl, HB.out⟩
        · have t4 : decide (255 < b) = false := decide_eq_false b1
          have HT := Lib.hid (fun W => takes_any a W)
          rw [takes_counts (by omega) (by omega)] at HT
          obtain ⟨z, hz⟩ : ∃ z, countsB a = z := ⟨_, rfl⟩
          rw [hz] at HT HU
          have HU2 : Hid (wrongF (a, b) = if z = true then 0 else (if b = 0 then 0 else 3)) := Lib.hid (by rw [HU.out, if_neg (by omega : ¬ (b < 0 ∨ 255 < b))])
          by_cases b2 : b = 0
          · have t5 : (b != 0) = false := by simpa using b2
            have HF : Hid (wrongF (a, b) = 0) := Lib.hid (by rw [HU2.out, if_pos b2]; simp)
            clear h1 h8 b0 b1 b2 hz
            cases z
            all_goals
              go_enter Tryz.func46, Tryz.ntmps46
              go_wp2_with fail
              refine (HT.out _).mono ?_; rintro e w1 ⟨rfl, rfl⟩
              go_wp2_with fail
              go_ret
              exact ⟨by rw [HF.out]; rfl, HB.out⟩
          · have t5 : (b != 0) = true := by simpa using b2
            have HF : Hid (wrongF (a, b) = if z = true then 0 else 3) := Lib.hid (by rw [HU2.out, if_neg b2])
            clear h1 h8 b0 b1 b2 hz
            cases z
            all_goals
              go_enter Tryz.func46, Tryz.ntmps46
              go_wp2_with fail
              refine (HT.out _).mono ?_; rintro e w1 ⟨rfl, rfl⟩
              go_wp2_with fail
              go_ret
              exact ⟨by rw [HF.out]; rfl, HB.out⟩
/-- What the document's Right tells. -/
def R17To (o : Option (Int × Int)) (w : World) (e : Ending) (w' : World) : Prop := Below w.heap.size w w' ∧ ((o = none ∧ e = .returned (.tuple #[.int .i64 0, .int .i64 0])) ∨ ∃ c p, o = some (c, p) ∧ c ≠ 0 ∧ e = .returned (.tuple #[.int .i64 c, .int .i64 p]))
set_option maxRecDepth 100000 in
set_option maxHeartbeats 4000000 in
theorem refRight17 {w : World} {v : Value} {O : List (Int × Int)} (hO : EdgesV w v O) (h1 : O.length ≤ 9000000000000) :
    Calls Tryz.prog 26 #[v] w (R17To (progF O) w) := by
  have HE := Lib.hid hO
  obtain ⟨A, c, rfl⟩ := hO.form
  obtain ⟨n, hn⟩ : ∃ n, O.length = n := ⟨_, rfl⟩
  rw [hn] at HE h1 ⊢
  have HN := Lib.hid hn
  clear hO hn
  by_cases hbig : 16 < n
  · have HLF : Hid (progF O = some (6, 0)) := Lib.hid (by unfold progF; rw [if_pos (by rw [HN.out]; exact hbig)])
    have t1 : decide ((16 : Int) < (n : Int)) = true := decide_eq_true (by omega)
    have t1' : decide (16 < n) = true := decide_eq_true hbig
    clear hbig
    go_enter Tryz.func26, Tryz.ntmps26
    go_wp2_with fail
    go_ret2
    exact ⟨Below.refl _ _, Or.inr ⟨6, 0, HLF.out, by decide, rfl⟩⟩
  · have t1 : decide ((16 : Int) < (n : Int)) = false := decide_eq_false (by omega)
    have t1' : decide (16 < n) = false := decide_eq_false hbig
    have HSM := Lib.hid hbig
    have HWR := Lib.hid (fun k m W => fault17_any k m W)
    clear hbig
    go_enter Tryz.func26, Tryz.ntmps26
    go_wp2_with fail
    go_loopg [4] n (fun g y wr => ∃ k, k ≤ n ∧ g = n - k ∧ y = .int .i64 (k : Nat) ∧ (∀ i, i < k → wrongAt O i = none) ∧ Below w.heap.size w wr)
    case atStart => exact ⟨0, Nat.zero_le _, rfl, rfl, fun i hi => absurd hi (Nat.not_lt_zero i), Below.refl _ _⟩
    case round =>
      obtain ⟨k, hk, rfl, rfl, hall, hB⟩ := hrel
      have HALL := Lib.hid hall
      clear hall
      by_cases hlt : k < n
      · have hkE : k < O.length := by rw [HN.out]; exact hlt
        obtain ⟨b, off, rfl, d0, d1⟩ := (HE.out.below hB (Nat.le_refl _)).pos (i := k) hkE
        obtain ⟨x, hxx⟩ : ∃ x, O.getD k (0, 0) = x := ⟨_, rfl⟩
        rw [hxx] at d0 d1
        obtain ⟨a, q⟩ := x
        simp only at d0 d1
        have t3 : decide (k < n) = true := decide_eq_true hlt
        have i1 : (k : Int) < n := by omega
        have i2 : (0 : Int) ≤ k := by omega
        obtain ⟨z, hz⟩ : ∃ z, wrongF (a, q) = z := ⟨_, rfl⟩
        have HW : Hid (∀ W, Calls Tryz.prog 46 #[.agg #[.int .i64 a, .int .i64 q]] W fun e w' => e = .returned (.int .i64 z) ∧ Below W.heap.size W w') := Lib.hid (fun W => by rw [← hz]; exact HWR.out a q W)
        have HW1 := Lib.hid (HW.out wr)
        have HAT : Hid (wrongAt O k = if z = 0 then none else some (z, (k : Int))) := Lib.hid (by unfold wrongAt; rw [hxx, hz])
        have HB := Lib.hid hB; have HLT := Lib.hid hlt; have HKE := Lib.hid hkE
        have hbl := World.block_lt_of_cell? _ _ d0
        have HD := Lib.hid (fun (W : World) (hb : Below wr.heap.size wr W) => (show W.cell? ⟨b, off + k * 2, none⟩ = some (.int .i64 a) ∧ W.cell? ⟨b, off + k * 2 + 1, none⟩ = some (.int .i64 q) from
          ⟨(hb.cell (p := ⟨b, off + k * 2, none⟩) hbl).trans d0, (hb.cell (p := ⟨b, off + k * 2 + 1, none⟩) hbl).trans d1⟩))
        clear hB hlt hxx hkE hz hbl
        go_wp2_with fail
        refine HW1.out.mono ?_; rintro e w4 ⟨rfl, hb4⟩
        obtain ⟨f0, f1⟩ := HD.out w4 hb4
        have HB4 := Lib.hid (HB.out.trans (hb4.mono HB.out.size))
        clear hb4 d0 d1
        by_cases hz0 : z = 0
        · have t5 : (z != 0) = false := by simpa using hz0
          have HNO : Hid (wrongAt O k = none) := Lib.hid (by rw [HAT.out, if_pos hz0])
          clear hz0 f0 f1
          go_wp2_with fail
          go_roundg (n - (k + 1))
          case rel =>
            refine ⟨k + 1, HLT.out, rfl, by go_num, fun i hi => ?_, HB4.out⟩
            rcases Nat.lt_or_ge i k with h | h
            · exact HALL.out i h
            · obtain rfl : i = k := by omega
              exact HNO.out
          case measure => have := HLT.out; omega
        · have t5 : (z != 0) = true := by simpa using hz0
          have HLF : Hid (progF O = some (z, (k : Int))) := Lib.hid (by
            unfold progF
            rw [if_neg (by rw [HN.out]; exact HSM.out)]
            exact some_at HKE.out (fun i hi => HALL.out i hi) (by rw [HAT.out, if_neg hz0]))
          have HZ0 := Lib.hid hz0
          have HW2 := Lib.hid (HW.out w4)
          clear hz0
          go_wp2_with fail
          refine HW2.out.mono ?_; rintro e w5 ⟨rfl, hb5⟩
          have HB5 := Lib.hid (HB4.out.trans (hb5.mono HB4.out.size))
          clear hb5 f0 f1
          go_wp2_with fail
          go_ret2
          exact ⟨HB5.out, Or.inr ⟨z, k, HLF.out, HZ0.out, rfl⟩⟩
      · obtain rfl : k = n := by omega
        have t3 : decide (k < k) = false := by simp
        have HLF : Hid (progF O = none) := Lib.hid (by
          unfold progF
          rw [if_neg (by rw [HN.out]; exact HSM.out), HN.out]
          exact some_none (fun i hi => HALL.out i hi))
        have HB := Lib.hid hB
        clear hlt hB
        go_wp2_with fail
        go_ret2
        exact ⟨HB.out, Or.inl ⟨HLF.out, rfl⟩⟩
end Go.Proofs.YtbbdammdiplagaaGreatDoor
