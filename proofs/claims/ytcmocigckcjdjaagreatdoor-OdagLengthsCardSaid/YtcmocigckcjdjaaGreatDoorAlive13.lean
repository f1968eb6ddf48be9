/- Layer 13's alive. -/
import Derived.Test.YtcmocigckcjdjaaGreatDoorCount14
namespace Go.Proofs.YtcmocigckcjdjaaGreatDoor
open Go.RowKit

def C13 : List (List Int) := [[1, 2], [3, 2], [3, 4]]
def I2 (a b : Int) : Obj := .cells #[.int .i64 a, .int .i64 b] 3
theorem seq2 {w : World} {g : Nat} {a b : Int} (h : Whole w g 3 #[.int .i64 a, .int .i64 b]) : SeqC w (.slice (some ⟨g, 0, none⟩) 2 2) [a, b] := by
  refine ⟨Or.inr ⟨by simp, g, 0, 2, rfl, fun i hi => ?_⟩, _, _, rfl, by simp⟩
  rw [Nat.zero_add, h.cell i]
  rcases (by simp at hi; omega : i = 0 ∨ i = 1) with rfl | rfl <;> rfl
theorem lits13 (w : World) : ListsV ((((w.alloc (I2 1 2)).alloc (I2 3 2)).alloc (I2 3 4)).alloc (.cells #[.slice (some ⟨w.heap.size, 0, none⟩) 2 2, .slice (some ⟨w.heap.size + 1, 0, none⟩) 2 2, .slice (some ⟨w.heap.size + 1 + 1, 0, none⟩) 2 2] 44)) (.slice (some ⟨w.heap.size + 1 + 1 + 1, 0, none⟩) 3 3) C13 := by
  have h1 := Whole.new w 3 #[.int .i64 1, .int .i64 2]
  have h2 := Whole.new (w.alloc (I2 1 2)) 3 #[.int .i64 3, .int .i64 2]
  have h3 := Whole.new ((w.alloc (I2 1 2)).alloc (I2 3 2)) 3 #[.int .i64 3, .int .i64 4]
  have h4 := Whole.new (((w.alloc (I2 1 2)).alloc (I2 3 2)).alloc (I2 3 4)) 44 #[.slice (some ⟨w.heap.size, 0, none⟩) 2 2, .slice (some ⟨w.heap.size + 1, 0, none⟩) 2 2, .slice (some ⟨w.heap.size + 1 + 1, 0, none⟩) 2 2]
  rw [World.size_alloc] at h2
  rw [World.size_alloc, World.size_alloc] at h3
  rw [World.size_alloc, World.size_alloc, World.size_alloc] at h4
  have k1 := seq2 (((h1.alloc (I2 3 2)).alloc (I2 3 4)).alloc (.cells #[.slice (some ⟨w.heap.size, 0, none⟩) 2 2, .slice (some ⟨w.heap.size + 1, 0, none⟩) 2 2, .slice (some ⟨w.heap.size + 1 + 1, 0, none⟩) 2 2] 44))
  have k2 := seq2 ((h2.alloc (I2 3 4)).alloc (.cells #[.slice (some ⟨w.heap.size, 0, none⟩) 2 2, .slice (some ⟨w.heap.size + 1, 0, none⟩) 2 2, .slice (some ⟨w.heap.size + 1 + 1, 0, none⟩) 2 2] 44))
  have k3 := seq2 (h3.alloc (.cells #[.slice (some ⟨w.heap.size, 0, none⟩) 2 2, .slice (some ⟨w.heap.size + 1, 0, none⟩) 2 2, .slice (some ⟨w.heap.size + 1 + 1, 0, none⟩) 2 2] 44))
  refine ⟨[.slice (some ⟨w.heap.size, 0, none⟩) 2 2, .slice (some ⟨w.heap.size + 1, 0, none⟩) 2 2, .slice (some ⟨w.heap.size + 1 + 1, 0, none⟩) 2 2], rfl, fun i u L hu hL => ?_, Or.inr ⟨by decide, _, 0, 3, rfl, fun i hi => ?_⟩⟩
  · have hi : i < 3 := (List.getElem?_eq_some_iff.1 hu).1
    rcases (by omega : i = 0 ∨ i = 1 ∨ i = 2) with rfl | rfl | rfl
    · simp at hu; simp [C13] at hL; subst hu hL; exact k1
    · simp at hu; simp [C13] at hL; subst hu hL; exact k2
    · simp at hu; simp [C13] at hL; subst hu hL; exact k3
  · have hi : i < 3 := hi
    rw [Nat.zero_add, h4.cell i]
    rcases (by omega : i = 0 ∨ i = 1 ∨ i = 2) with rfl | rfl | rfl <;> rfl
theorem c13_count : ((rowP C13 0).map (cntP C13 (2 - 1) 0)).sum = 3 := by decide
theorem c13_bound (r i : Nat) (a : Int) (h : r + i + 1 = 2) : cntP C13 r i a ≤ 9223372036854775807 :=
  Nat.le_trans (cnt_le C13 r i a) (Nat.le_trans (Nat.pow_le_pow_right (show 0 < C13.length by decide) (show r ≤ 2 by omega)) (by decide))
set_option maxRecDepth 100000 in
set_option maxHeartbeats 4000000 in
theorem alive13_ok (w : World) (hg : ErrT w) : Calls Tryz.prog 8 #[] w fun e w' => e = .returned (.bool true) ∧ Below w.heap.size w w' := by
  obtain ⟨w4, hw4⟩ : ∃ V, (((w.alloc (I2 1 2)).alloc (I2 3 2)).alloc (I2 3 4)).alloc (.cells #[.slice (some ⟨w.heap.size, 0, none⟩) 2 2, .slice (some ⟨w.heap.size + 1, 0, none⟩) 2 2, .slice (some ⟨w.heap.size + 1 + 1, 0, none⟩) 2 2] 44) = V := ⟨_, rfl⟩
  have hl := lits13 w
  rw [hw4] at hl
  have hb4 : Below w.heap.size w w4 := by
    rw [← hw4]
    exact ((((Below.refl _ _).alloc (Nat.le_refl _) _).alloc (by simp) _).alloc (by simp; omega) _).alloc (by simp; omega) _
  have OF := Lib.hid (of_any 2 C13 _ w4 (by omega) (by omega) hl (by decide) (by decide) (by decide))
  have HW4 := Lib.hid hw4; have HB4 := Lib.hid hb4; have HG := Lib.hid hg
  clear hl hb4 hw4 hg
  go_enter Tryz.func8, Tryz.ntmps8
  go_wp2_with fail
  have e4 := HW4.out
  unfold I2 at e4
  rw [e4]
  clear e4 HW4
  refine OF.out.mono ?_; rintro e w5 ⟨p, rfl, ho, hb5⟩
  have HO := Lib.hid (show OdagC w5 p 2 C13 from ho)
  have HB5 := Lib.hid (HB4.out.trans (hb5.mono HB4.out.size))
  obtain ⟨ob, _, _, rfl, _⟩ := ho
  have HL := Lib.hid (len_any HO.out)
  have CN := count_any HO.out (by omega) (by omega) (by decide) (fun r i a h _ => c13_bound r i a h) (by rw [c13_count]; omega)
  rw [c13_count] at CN
  have HCN := Lib.hid CN
  clear hb5 CN
  go_wp2_with fail
  refine HL.out.mono ?_; rintro e w6 ⟨rfl, hw6⟩
  obtain rfl := hw6.symm
  go_wp2_with fail
  refine HCN.out.mono ?_; rintro e w6 ⟨rfl, hb6⟩
  have HB6 := Lib.hid (HB5.out.trans (hb6.mono HB5.out.size))
  clear hb6
  go_wp2_with fail
  refine (of_bad 9 _ _ (by omega)).mono ?_; rintro e w7 ⟨u, rfl, hu, hb7⟩
  have HB7 := Lib.hid (HB6.out.trans (hb7.mono HB6.out.size))
  have HCD := Lib.hid (code_f7 hu (HG.out.below HB7.out (Nat.le_refl _)))
  obtain ⟨b, s, rfl, _⟩ := hu
  clear hb7
  go_wp2_with fail
  refine HCD.out.mono ?_; rintro e w8 ⟨rfl, hb8⟩
  have HB8 := Lib.hid (HB7.out.trans (hb8.mono HB7.out.size))
  clear hb8
  go_wp2_with fail
  go_ret
  exact ⟨rfl, HB8.out⟩
end Go.Proofs.YtcmocigckcjdjaaGreatDoor
