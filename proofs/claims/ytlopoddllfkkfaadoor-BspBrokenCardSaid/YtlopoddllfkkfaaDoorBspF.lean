/- The chapter's example. -/
import Derived.Test.YtlopoddllfkkfaaDoorBspE
import Derived.Lib.ItoaMem
import Derived.Lib.ItoaNum
import Derived.Lib.AtoiAll
import Derived.Lib.IndexBytes
import Derived.Lib.IndexMore
namespace Go.Proofs.YtlopoddllfkkfaaDoor
open Go.RowKit

theorem MInv.fresh {TL : List (List Int)} {X : List ByteArray} {k : Nat} (hk : X.length = k) (k1 : 1 ≤ k) (k2 : k ≤ 8) (tl : ∀ a, (TL.getD a []).length ≤ 8) (tr : ∀ a, ∀ t ∈ TL.getD a [], 0 ≤ t ∧ t < (k : Int)) (s1 : ∀ a, (X.getD a ⟨#[]⟩).size ≤ 60) : MInv TL 0 (startP k 0 X (List.replicate k [])) := by
  have e : ∀ a, (List.replicate k ([] : List ByteArray)).getD a [] = [] := fun a => by
    simp only [List.getD, List.getElem?_replicate]
    split <;> rfl
  exact MInv.start k1 k2 hk (by simp) tl tr s1 (fun a x hx => by rw [e] at hx; cases hx) (fun a => by rw [e]; exact Nat.zero_le _)
theorem lists_lit {w : World} (t1 t2 : TypeId) (x y : Int) : ListsV (((w.alloc (.cells #[.int .i64 x] t1)).alloc (.cells #[.int .i64 y] t1)).alloc (.cells #[.slice (some ⟨w.heap.size, 0, none⟩) 1 1, .slice (some ⟨w.heap.size + 1, 0, none⟩) 1 1] t2)) (.slice (some ⟨w.heap.size + 2, 0, none⟩) 2 2) [[x], [y]] := by
  have h1 := ((Whole.new w t1 #[.int .i64 x]).alloc (.cells #[.int .i64 y] t1)).alloc (.cells #[.slice (some ⟨w.heap.size, 0, none⟩) 1 1, .slice (some ⟨w.heap.size + 1, 0, none⟩) 1 1] t2)
  have h2 := (Whole.new (w.alloc (.cells #[.int .i64 x] t1)) t1 #[.int .i64 y]).alloc (.cells #[.slice (some ⟨w.heap.size, 0, none⟩) 1 1, .slice (some ⟨w.heap.size + 1, 0, none⟩) 1 1] t2)
  have h3 := Whole.new ((w.alloc (.cells #[.int .i64 x] t1)).alloc (.cells #[.int .i64 y] t1)) t2 #[.slice (some ⟨w.heap.size, 0, none⟩) 1 1, .slice (some ⟨w.heap.size + 1, 0, none⟩) 1 1]
  rw [World.size_alloc] at h2
  rw [World.size_alloc, World.size_alloc] at h3
  refine ⟨[.slice (some ⟨w.heap.size, 0, none⟩) 1 1, .slice (some ⟨w.heap.size + 1, 0, none⟩) 1 1], rfl, fun i u L hu hL => ?_, Or.inr ⟨Nat.zero_lt_succ _, w.heap.size + 2, 0, 2, rfl, fun i hi => ?_⟩⟩
  · match i with
    | 0 =>
      obtain rfl := Option.some.inj hu
      obtain rfl := Option.some.inj hL
      refine ⟨Or.inr ⟨Nat.zero_lt_one, w.heap.size, 0, 1, rfl, fun j hj => ?_⟩, _, 1, rfl, Nat.le_refl _⟩
      obtain rfl : j = 0 := by simpa using hj
      exact h1.cell 0
    | 1 =>
      obtain rfl := Option.some.inj hu
      obtain rfl := Option.some.inj hL
      refine ⟨Or.inr ⟨Nat.zero_lt_one, w.heap.size + 1, 0, 1, rfl, fun j hj => ?_⟩, _, 1, rfl, Nat.le_refl _⟩
      obtain rfl : j = 0 := by simpa using hj
      exact h2.cell 0
    | i + 2 => simp at hL
  · match i, hi with
    | 0, _ => exact h3.cell 0
    | 1, _ => exact h3.cell 1
theorem bytes_toList (l : List UInt8) : (⟨l.toArray⟩ : ByteArray).toList = l := by
  rw [ByteArray.toList_eq]
def egX : List ByteArray := [⟨#[120]⟩, ⟨#[121]⟩]
def egT : List (List Int) := [[1], [0]]
theorem eg_state : (roundP egT (roundP egT (startP 2 0 egX (List.replicate 2 [])))).st = [⟨#[120, 97, 44, 121, 97]⟩, ⟨#[121, 98, 44, 120, 98]⟩] := by kernel_rfl
theorem eg_inv : MInv egT 0 (startP 2 0 egX (List.replicate 2 [])) := by
  refine MInv.fresh rfl (by decide) (by decide) (fun a => ?_) (fun a t ht => ?_) (fun a => ?_)
  · match a with
    | 0 => decide
    | 1 => decide
    | a + 2 => simp [egT, List.getD]
  · match a with
    | 0 => rw [show egT.getD 0 [] = [1] from rfl] at ht; rw [List.mem_singleton.1 ht]; decide
    | 1 => rw [show egT.getD 1 [] = [0] from rfl] at ht; rw [List.mem_singleton.1 ht]; decide
    | a + 2 => simp [egT, List.getD] at ht
  · match a with
    | 0 => decide
    | 1 => decide
    | a + 2 => simp [egX, List.getD]; exact Nat.zero_le _
set_option maxRecDepth 100000 in
set_option maxHeartbeats 4000000 in
theorem alive20 (w : World) (hg : ErrT w) : Calls Tryd.prog 8 #[] w fun e w' => e = .returned (.bool true) ∧ Below w.heap.size w w' := by
  have hl := lists_lit (w := w) 3 52 1 0
  obtain ⟨w3, hw3⟩ : ∃ W, (((w.alloc (.cells #[.int .i64 1] 3)).alloc (.cells #[.int .i64 0] 3)).alloc (.cells #[.slice (some ⟨w.heap.size, 0, none⟩) 1 1, .slice (some ⟨w.heap.size + 1, 0, none⟩) 1 1] 52)) = W := ⟨_, rfl⟩
  have hs3 : w3.heap.size = w.heap.size + 1 + 1 + 1 := by rw [← hw3, World.size_alloc, World.size_alloc, World.size_alloc]
  have hb3 : Below w.heap.size w w3 := by
    rw [← hw3]
    exact (((Below.refl _ _).alloc (Nat.le_refl _) _).alloc (by rw [World.size_alloc]; omega) _).alloc (by rw [World.size_alloc, World.size_alloc]; omega) _
  rw [hw3] at hl
  obtain ⟨w4, hw4⟩ : ∃ W, w3.alloc (.cells #[.string ⟨#[120]⟩, .string ⟨#[121]⟩] 9) = W := ⟨_, rfl⟩
  have hb34 : Below w3.heap.size w3 w4 := by rw [← hw4]; exact (Below.refl _ _).alloc (Nat.le_refl _) _
  have hb4 : Below w.heap.size w w4 := hb3.trans (hb34.mono (by omega))
  have hx := Whole.new w3 9 #[.string ⟨#[120]⟩, .string ⟨#[121]⟩]
  rw [hw4, hs3] at hx
  have hv : ValsV w4 (.slice (some ⟨w.heap.size + 1 + 1 + 1, 0, none⟩) 2 2) (txtC egX) := by
    refine Or.inr ⟨Nat.zero_lt_succ _, w.heap.size + 1 + 1 + 1, 0, 2, rfl, fun i hi => ?_⟩
    match i, hi with
    | 0, _ => exact hx.cell 0
    | 1, _ => exact hx.cell 1
  have hl4 := hl.below hb34 (Nat.le_refl _)
  have N1 := Lib.hid (mnew_good egX 35 (.agg #[.slice (some ⟨w.heap.size + 2, 0, none⟩) 2 2]) _ w4 hv (by decide) (by decide))
  have HL := Lib.hid (fun W (h : Below w4.heap.size w4 W) => hl4.below h (Nat.le_refl _))
  have HG := Lib.hid (fun W (h : Below w4.heap.size w4 W) => hg.below (hb4.trans (h.mono hb4.size)) (Nat.le_refl _))
  have HB4 := Lib.hid hb4; have HW3 := Lib.hid hw3; have HW4 := Lib.hid hw4
  clear hl hw3 hs3 hb3 hw4 hb34 hb4 hx hv hl4 hg
  go_enter Tryd.func8, Tryd.ntmps8
  go_wp2_with fail
  rw [HW3.out, HW4.out]
  refine N1.out.mono ?_; rintro e w5 ⟨m, R, rfl, hm, hR, hb5⟩
  have F1 := Lib.hid (mfinish_any (TL := egT) (q := 0) (p := startP 2 0 egX (List.replicate 2 [])) (vt := .slice (some ⟨w.heap.size + 2, 0, none⟩) 2 2) (by rw [cnt_start]; exact hm) eg_inv (by decide) hb5.size (by decide) (fun W hW => HL.out W (hb5.trans hW)))
  have HB5 := Lib.hid hb5
  clear hm hR hb5
  go_wp2_with fail
  refine F1.out.mono ?_; rintro e w6 ⟨rfl, R6, hm6, _, _, hbel6⟩
  have hb6 := HB5.out.trans hbel6
  have F2 := Lib.hid (mfinish_any (TL := egT) (q := 0) (p := roundP egT (startP 2 0 egX (List.replicate 2 []))) (vt := .slice (some ⟨w.heap.size + 2, 0, none⟩) 2 2) (by rw [roundP, cnt_start]; exact hm6) eg_inv.round (by decide) hb6.size (by decide) (fun W hW => HL.out W (hb6.trans hW)))
  have HB6 := Lib.hid hb6
  clear hm6 hbel6 hb6
  go_wp2_with fail
  refine F2.out.mono ?_; rintro e w7 ⟨rfl, R7, hm7, _, _, hbel7⟩
  have HB7 := Lib.hid (HB6.out.trans hbel7)
  have HM7 := Lib.hid hm7
  obtain ⟨nb, wb, ib, b, sv, us, Rn, hmi, _⟩ := hm7
  have ST := Lib.hid (mstates_any hmi)
  rw [eg_state] at ST
  have HMI := Lib.hid (fun W (h : Below w7.heap.size w7 W) => hmi.below h (Nat.le_refl _))
  clear hmi hbel7
  go_wp2_with fail
  refine ST.out.mono ?_; rintro e w8 ⟨v8, rfl, ho8, hb8⟩
  obtain ⟨A8, c8, rfl⟩ := own_form ho8
  have RD := Lib.hid (mround_any (HMI.out w8 hb8))
  have WK := Lib.hid (mwork_range (HM7.out.below hb8) 2 (by intro h; exact absurd h.2 (by decide)))
  obtain ⟨b8, o8, rfl, _, y0⟩ := txt_pos (own_vals ho8) (i := 0) (by decide)
  have HB8 := Lib.hid (HB7.out.trans (hb8.mono HB7.out.size))
  have z8 : ((⟨#[120, 97, 44, 121, 97]⟩ : ByteArray).toList == [120, 97, 44, 121, 97]) = true := by rw [bytes_toList [120, 97, 44, 121, 97]]; rfl
  have k2 : (roundP egT (roundP egT (startP 2 0 egX (List.replicate 2 [])))).k = 2 := rfl
  rw [show (((roundP egT (roundP egT (startP 2 0 egX (List.replicate 2 [])))).rd : Nat) : Int) = 2 from rfl] at RD
  have y0' : w8.cell? ⟨b8, o8, none⟩ = some (.string ⟨#[120, 97, 44, 121, 97]⟩) := y0
  clear ho8 hb8 y0
  go_wp2_with fail
  refine RD.out.mono ?_; rintro e w9 ⟨rfl, hw⟩; obtain rfl := hw.symm; clear hw
  go_wp2_with fail
  refine WK.out.mono ?_; rintro e w9 ⟨⟨u, rfl, hf⟩, hb9⟩
  have HB9 := Lib.hid (HB8.out.trans (hb9.mono HB8.out.size))
  have CO := Lib.hid (code_f7 hf (HG.out w9 HB9.out))
  obtain ⟨fb, s9, rfl, _⟩ := hf
  clear hb9
  go_wp2_with fail
  refine CO.out.mono ?_; rintro e w10 ⟨rfl, hb10⟩
  have HFI := Lib.hid (HB4.out.trans ((HB9.out.trans (hb10.mono HB9.out.size)).mono HB4.out.size))
  clear hb10
  go_wp2_with fail
  go_ret
  exact ⟨rfl, HFI.out⟩
end Go.Proofs.YtlopoddllfkkfaaDoor
