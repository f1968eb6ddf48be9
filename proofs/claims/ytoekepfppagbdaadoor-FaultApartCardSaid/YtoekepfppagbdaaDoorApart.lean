/- FaultApart: the walk. -/
import Derived.Test.YtoekepfppagbdaaDoorFirst
namespace Go.Proofs.YtoekepfppagbdaaDoor
open Go.RowKit Go.Extern.Stop Go.Stop Go.Extern

theorem three_cells (w : World) (x y z : Value) (i : Nat) (hi : i < 3) : (w.alloc (.cells #[x, y, z] 25)).cell? ⟨w.heap.size, 0 + i, none⟩ = some (#[x, y, z].getD i .nilIface) := by
  match i, hi with
  | 0, _ => simp
  | 1, _ => simp
  | 2, _ => simp

theorem apart_law (a b : Int) (n : Nat) (S : Nat → ByteArray) (v : Value) (w : World) (hg : ErrT w) (hs : StrsV w v n S) :
    Calls Tryd.prog 7 #[.int .i64 a, .int .i64 b, v] w fun e w' => e = .returned (.bool true) ∧ Below w.heap.size w w' := by
  have HAL := Lib.hid (alive_ok w hg)
  have HS := Lib.hid hs
  obtain ⟨ao, cap, rfl⟩ := hs.form
  clear hs
  by_cases hn : n ≤ 30
  · have d1 : decide (30 < (n : Int)) = false := decide_eq_false (by omega)
    go_enter Tryd.func7, Tryd.ntmps7
    go_wp2_with fail
    refine HAL.out.mono ?_; rintro e w1 ⟨rfl, hb1⟩
    have HX := Lib.hid (made_any n S a 0 ⟨#[]⟩ _ w1 (by omega) (HS.out.below hb1 (Nat.le_refl _)))
    go_wp2_with fail
    refine HX.out.mono ?_; rintro e w2 ⟨rfl, hX, hb2⟩
    have HY := Lib.hid (made_any n S b 0 ⟨#[]⟩ _ w2 (by omega) ((HS.out.below hb1 (Nat.le_refl _)).below hb2 (Nat.le_refl _)))
    have hX2 := Lib.hid hX
    clear hX
    obtain ⟨T1, x1, e1⟩ := mkV_form w1.heap.size n 0
    have E1 := Lib.hid e1
    rw [e1]
    clear e1
    go_wp2_with fail
    refine HY.out.mono ?_; rintro e w3 ⟨rfl, hY, hb3⟩
    obtain ⟨T2, x2, e2⟩ := mkV_form w2.heap.size n 0
    have E2 := Lib.hid e2
    rw [e2]
    have HX3 := Lib.hid (hX2.out.below hb3 (Nat.le_refl _))
    have HY3 := Lib.hid hY
    clear e2 hY
    have s3 := hb3.size
    have B3 := (hb1.trans (hb2.mono hb1.size)).trans (hb3.mono (hb1.trans (hb2.mono hb1.size)).size)
    have hg3 := hg.below B3 (Nat.le_refl _)
    have hnil1 : ∀ i, i < 1 → (fun i => #[Value.nilIface, .iface T1 x1, .iface T2 x2].getD i .nilIface) i = .nilIface := fun i hi => by
      have h0 : i = 0 := by omega
      rw [h0]; rfl
    have HF1 := Lib.hid (first_found 3 1 (fun i => #[.nilIface, .iface T1 x1, .iface T2 x2].getD i .nilIface) T1 x1 w3.heap.size 0 3 (w3.alloc (.cells #[.nilIface, .iface T1 x1, .iface T2 x2] 25)) (by omega) (by omega) (fun i hi => three_cells w3 _ _ _ i hi) hnil1 rfl)
    have HF2 := Lib.hid (fun W => first_found 3 0 (fun i => #[.iface T2 x2, .nilIface, .iface T1 x1].getD i .nilIface) T2 x2 W.heap.size 0 3 (W.alloc (.cells #[.iface T2 x2, .nilIface, .iface T1 x1] 25)) (by omega) (by omega) (fun i hi => three_cells W _ _ _ i hi) (fun i hi => (Nat.not_lt_zero i hi).elim) rfl)
    have B4 := B3.alloc B3.size (.cells #[.nilIface, .iface T1 x1, .iface T2 x2] 25)
    clear HX HY hX2 HS HAL
    go_wp2_with fail
    refine HF1.out.mono ?_; rintro e w4 ⟨rfl, hw4⟩
    rw [← hw4] at B4
    have X4 : ErrAt w4 n (mkV w1.heap.size n) (fun i => w1.heap.size + (n - i)) S w1.heap.size a 0 ⟨#[]⟩ := by
      rw [hw4]; exact HX3.out.below ((Below.refl _ _).alloc (Nat.le_refl _) _) (Nat.le_refl _)
    have Y4 : ErrAt w4 n (mkV w2.heap.size n) (fun i => w2.heap.size + (n - i)) S w2.heap.size b 0 ⟨#[]⟩ := by
      rw [hw4]; exact HY3.out.below ((Below.refl _ _).alloc (Nat.le_refl _) _) (Nat.le_refl _)
    have hg4 := hg.below B4 (Nat.le_refl _)
    have G4 := HF2.out w4
    have X5 := X4.below ((Below.refl w4.heap.size w4).alloc (Nat.le_refl _) (.cells #[.iface T2 x2, .nilIface, .iface T1 x1] 25)) (Nat.le_refl _)
    have Y5 := Y4.below ((Below.refl w4.heap.size w4).alloc (Nat.le_refl _) (.cells #[.iface T2 x2, .nilIface, .iface T1 x1] 25)) (Nat.le_refl _)
    have B5 := B4.alloc B4.size (.cells #[.iface T2 x2, .nilIface, .iface T1 x1] 25)
    have G4H := Lib.hid G4
    have X5H := Lib.hid X5
    have Y5H := Lib.hid Y5
    clear G4 X5 Y5 X4 Y4 HF1 HF2 hw4 HX3 HY3 B3 hb1 hb2 hb3 hg3
    go_wp2_with fail
    refine G4H.out.mono ?_; rintro e w5 ⟨rfl, hw5⟩
    rw [← hw5] at B5 X5H Y5H
    have hg5 := hg.below B5 (Nat.le_refl _)
    have I1 := Lib.hid (fun W (h : Below w5.heap.size w5 W) => faultIs_chain b W (X5H.out.below h (Nat.le_refl _)))
    have I2 := Lib.hid (fun W (h : Below w5.heap.size w5 W) => faultIs_chain a W (Y5H.out.below h (Nat.le_refl _)))
    have C1 := Lib.hid (fun W (h : Below w5.heap.size w5 W) => code_chain W (hg5.below h (Nat.le_refl _)) (X5H.out.below h (Nat.le_refl _)))
    have C2 := Lib.hid (fun W (h : Below w5.heap.size w5 W) => code_chain W (hg5.below h (Nat.le_refl _)) (Y5H.out.below h (Nat.le_refl _)))
    have W1 := Lib.hid (fun W (h : Below w5.heap.size w5 W) => words_chain W (hg5.below h (Nat.le_refl _)) (show n ≤ 100000 by omega) (X5H.out.below h (Nat.le_refl _)))
    rw [E1.out] at I1 C1 W1
    rw [E2.out] at I2 C2
    clear hw5 G4H hg4 B4
    obtain ⟨q, hq⟩ : ∃ q, (a == b) = q := ⟨_, rfl⟩
    have hq1 : decide (a = b) = q := by rw [← hq]; rfl
    have hq2 : decide (b = a) = q := by rw [← hq1]; simp [eq_comm]
    rw [hq1] at I1
    rw [hq2] at I2
    have dn : ((n : Int) == n) = true := by simp
    have da : (a == a) = true := by simp
    have db : (b == b) = true := by simp
    have daa : decide (a = a) = true := by simp
    clear hq1 hq2
    have EI := Lib.hid (fun W (h : Below w5.heap.size w5 W) => errorsIs_chain W.heap.size a _ (X5H.out.below (h.alloc h.size (.cells #[.int .i64 a, .int .i64 0, .string ⟨#[]⟩] 36)) (Nat.le_refl _)) (World.alloc_heap_new _ _) (by have h1 := h.size; have h2 := World.block_lt_of_cell? _ _ X5H.out.code; simp at h2; omega))
    rw [E1.out, daa] at EI
    cases q
    all_goals
      go_wp2_with fail
      refine (I1.out w5 (Below.refl _ _)).mono ?_; rintro e w6 ⟨rfl, hb6⟩
      go_wp2_with fail
      refine (I2.out w6 hb6).mono ?_; rintro e w7 ⟨rfl, hb7⟩
      have D7 := hb6.trans (hb7.mono hb6.size)
      go_wp2_with fail
      refine (C1.out w7 D7).mono ?_; rintro e w8 ⟨rfl, hb8⟩
      have D8 := D7.trans (hb8.mono D7.size)
      go_wp2_with fail
      refine (C2.out w8 D8).mono ?_; rintro e w9 ⟨rfl, hb9⟩
      have D9 := D8.trans (hb9.mono D8.size)
      go_wp2_with fail
      refine (W1.out w9 D9).mono ?_; rintro e w10 ⟨v10, rfl, hv10, hb10⟩
      obtain ⟨ao10, cap10, rfl⟩ := hv10.form
      have D10 := D9.trans (hb10.mono D9.size)
      clear hv10
      go_wp2_with fail
      refine (EI.out w10 D10).mono ?_; rintro e w11 ⟨rfl, dd, rfl⟩
      go_wp2_with fail
      go_ret
      exact ⟨rfl, below_drewN (B5.trans ((D10.alloc D10.size _).mono B5.size)) _⟩
  · have d1 : decide (30 < (n : Int)) = true := decide_eq_true (by omega)
    go_enter Tryd.func7, Tryd.ntmps7
    go_wp2_with fail
    refine HAL.out.mono ?_; rintro e w1 ⟨rfl, hb1⟩
    go_wp2_with fail
    go_ret
    exact ⟨rfl, hb1⟩
end Go.Proofs.YtoekepfppagbdaaDoor
