/- Odags: Len, row, next, Row, Links; slices.BinarySearch, sets.Has: contracts. -/
import Derived.Test.YtcmocigckcjdjaaGreatDoorTabs13
import Derived.Test.YtcmocigckcjdjaaGreatDoorShelf
import Derived.Test.YtcmocigckcjdjaaGreatDoorRow13
import Derived.Test.YtcmocigckcjdjaaGreatDoorOf13
namespace Go.Proofs.YtcmocigckcjdjaaGreatDoor
open Go.RowKit

/-- The odag of lists. -/
def OdagC (w : World) (v : Value) (n : Nat) (C : List (List Int)) : Prop := OdagV w v (rowsP n C) (allLinksP n C)
theorem OdagC.below {w w' : World} {v : Value} {n : Nat} {C : List (List Int)} (h : OdagC w v n C) {B : Nat} (hb : Below B w w') (hB : w.heap.size ≤ B) : OdagC w' v n C := OdagV.below h hb hB

theorem seqC_none (w : World) : SeqC w (.slice none 0 0) [] := ⟨seqV_nil _ _ _, _, _, rfl, Nat.zero_le _⟩
theorem len_nil (w : World) : Calls Tryz.prog 19 #[.pointer none] w fun e w' => e = .returned (.int .i64 0) ∧ w' = w := by
  go_enter Tryz.func19, Tryz.ntmps19
  go_wp2_with fail
  go_ret
  exact ⟨rfl, rfl⟩
theorem len_any {w : World} {v : Value} {n : Nat} {C : List (List Int)} (h : OdagC w v n C) : Calls Tryz.prog 19 #[v] w fun e w' => e = .returned (.int .i64 n) ∧ w' = w := by
  obtain ⟨b, vr, vk, rfl, hw, hr, _⟩ := h
  obtain ⟨A, c, rfl⟩ := hr.form
  rw [rowsP_len] at hw
  have c0 : w.cell? ⟨b, 0, none⟩ = some (.slice A n c) := hw.cell 0
  clear hw hr
  go_enter Tryz.func19, Tryz.ntmps19
  go_wp2_with fail
  go_ret
  exact ⟨rfl, rfl⟩
/-- Which row. -/
def rowAt (n : Nat) (C : List (List Int)) (i : Int) : List Int := if 0 ≤ i ∧ i < n then rowP C i.toNat else []
theorem rowAt_in {n : Nat} {C : List (List Int)} {i : Nat} (h : i < n) : rowAt n C i = rowP C i := by
  unfold rowAt
  rw [if_pos (by omega), Int.toNat_natCast]
theorem rowAt_out {n : Nat} {C : List (List Int)} {i : Int} (h : ¬ (0 ≤ i ∧ i < n)) : rowAt n C i = [] := if_neg h
theorem row_nil (i : Int) (w : World) : Calls Tryz.prog 54 #[.pointer none, .int .i64 i] w fun e w' => e = .returned (.slice none 0 0) ∧ w' = w := by
  have hc : decide (i < 0) = true ∨ (decide (i < 0) = false ∧ decide (0 ≤ i) = true) := by simp; omega
  rcases hc with t1 | ⟨t1, t2⟩
  · go_enter Tryz.func54, Tryz.ntmps54
    go_wp2_with fail
    go_ret
    exact ⟨rfl, rfl⟩
  · have HL := Lib.hid (len_nil w)
    go_enter Tryz.func54, Tryz.ntmps54
    go_wp2_with fail
    refine HL.out.mono ?_; rintro e w1 ⟨rfl, hw1⟩; obtain rfl := hw1.symm
    go_wp2_with fail
    go_ret
    exact ⟨rfl, rfl⟩
set_option maxRecDepth 100000 in
theorem row_any {w : World} {v : Value} {n : Nat} {C : List (List Int)} (h : OdagC w v n C) (i : Int) :
    Calls Tryz.prog 54 #[v, .int .i64 i] w fun e w' => ∃ u, e = .returned u ∧ SeqC w u (rowAt n C i) ∧ w' = w := by
  have HL := Lib.hid (len_any h)
  obtain ⟨b, vr, vk, rfl, hw, hr, _⟩ := h
  obtain ⟨A, c, rfl⟩ := hr.form
  rw [rowsP_len] at hw hr
  have c0 : w.cell? ⟨b, 0, none⟩ = some (.slice A n c) := hw.cell 0
  by_cases hin : 0 ≤ i ∧ i < n
  · obtain ⟨k, rfl⟩ := Int.eq_ofNat_of_zero_le hin.1
    have hk : k < n := by omega
    obtain ⟨rb, off, u, rfl, cu, hu⟩ := hr.pos (i := k) (by rw [rowsP_len]; exact hk)
    rw [show (rowsP n C)[k]'(by rw [rowsP_len]; exact hk) = rowP C k by simp [rowsP]] at hu
    rw [rowAt_in hk]
    have t1 : decide ((k : Int) < 0) = false := decide_eq_false (by omega)
    have t2 : decide ((n : Int) ≤ k) = false := decide_eq_false (by omega)
    have t2' : decide (n ≤ k) = false := decide_eq_false (by omega)
    have i1 : (k : Int) < n := by omega
    have i2 : (0 : Int) ≤ k := by omega
    obtain ⟨hus, Au, cu', rfl, hcap⟩ := id hu
    have HU := Lib.hid hu
    obtain ⟨T, hT⟩ : ∃ T, rowP C k = T := ⟨_, rfl⟩
    rw [hT] at HU cu ⊢
    clear hu hus hw hr hin hcap hk hT
    go_enter Tryz.func54, Tryz.ntmps54
    go_wp2_with fail
    refine HL.out.mono ?_; rintro e w1 ⟨rfl, hw1⟩; obtain rfl := hw1.symm
    go_wp2_with fail
    go_ret
    exact ⟨_, rfl, HU.out, rfl⟩
  · have hc : decide (i < 0) = true ∨ (decide (i < 0) = false ∧ decide ((n : Int) ≤ i) = true) := by simp; omega
    rw [rowAt_out hin]
    clear hin hw hr
    rcases hc with t1 | ⟨t1, t2⟩
    · go_enter Tryz.func54, Tryz.ntmps54
      go_wp2_with fail
      go_ret
      exact ⟨_, rfl, seqC_none w, rfl⟩
    · go_enter Tryz.func54, Tryz.ntmps54
      go_wp2_with fail
      refine HL.out.mono ?_; rintro e w1 ⟨rfl, hw1⟩; obtain rfl := hw1.symm
      go_wp2_with fail
      go_ret
      exact ⟨_, rfl, seqC_none _, rfl⟩

/-- Where a number stands, or would stand. -/
def rankL (L : List Int) (x : Int) : Nat := L.countP (· < x)
theorem rankL_le (L : List Int) (x : Int) : rankL L x ≤ L.length := List.countP_le_length
theorem rankL_at : ∀ {L : List Int} {x : Int}, Rising L → x ∈ L → rankL L x < L.length ∧ L.getD (rankL L x) 0 = x
  | a :: t, x, hr, hx => by
    obtain ⟨h1, h2⟩ := List.pairwise_cons.1 hr
    unfold rankL
    rw [List.countP_cons]
    rcases List.mem_cons.1 hx with rfl | hx
    · have h0 : t.countP (· < x) = 0 := by
        rw [List.countP_eq_zero]
        intro y hy
        have := h1 y hy
        simp
        omega
      rw [h0]
      simp
    · have := h1 x hx
      obtain ⟨k1, k2⟩ := rankL_at h2 hx
      unfold rankL at k1 k2
      simp only [this, decide_true, if_true, List.length_cons]
      exact ⟨by omega, by rw [List.getD_cons_succ]; exact k2⟩
set_option maxRecDepth 100000 in
theorem bs_any {w : World} {v : Value} {L : List Int} (h : SeqV w v L) (hr : Rising L) (hl : L.length ≤ 1000000) (x : Int) :
    Calls Tryz.prog 34 #[v, .int .i64 x] w fun e w' => e = .returned (.tuple #[.int .i64 (rankL L x), .bool (L.contains x)]) ∧ ∃ q, w' = w.drewN q := by
  obtain ⟨A, c, rfl⟩ := IntsV.form h
  rcases Nat.eq_zero_or_pos L.length with h0 | h0
  · have hL : L = [] := List.eq_nil_of_length_eq_zero h0
    subst hL
    clear h hr hl h0
    show Calls Tryz.prog 34 #[.slice A 0 c, .int .i64 x] w _
    go_enter Tryz.func34, Tryz.ntmps34
    go_wp2_with fail
    refine wp_loop_rounds 1 ?_
    rw [rounds_succ]
    go_wp2_with fail
    go_ret2
    exact ⟨rfl, 0, rfl⟩
  · obtain ⟨b, off, rfl, _⟩ := h.pos h0
    have hcells : ∀ j, j < L.length → w.cell? ⟨b, off + j, none⟩ = some (.int .i64 (L.getD j 0)) := fun j hj => by
      obtain ⟨b3, off3, e3, hc3⟩ := h.pos hj
      injection e3 with e3
      injection e3 with e3 e4
      subst e3 e4
      exact hc3
    have B := Tryz.slices_BinarySearch_int b off L.length c L x w (Nat.le_refl _) (by omega) hcells (by rw [List.take_length]; exact hr.imp fun h => by omega)
    rw [List.take_length] at B
    exact B
theorem has_any {w : World} {v : Value} {L : List Int} (h : SeqV w v L) (hr : Rising L) (hl : L.length ≤ 1000000) (x : Int) :
    Calls Tryz.prog 33 #[v, .int .i64 x] w fun e w' => e = .returned (.bool (L.contains x)) ∧ ∃ q, w' = w.drewN q := by
  have H := Lib.hid (bs_any h hr hl x)
  obtain ⟨A, c, rfl⟩ := IntsV.form h
  obtain ⟨b, hb⟩ : ∃ b, L.contains x = b := ⟨_, rfl⟩
  obtain ⟨k, hk⟩ : ∃ b, rankL L x = b := ⟨_, rfl⟩
  rw [hb, hk] at H
  rw [hb]
  clear h hr hl hb hk
  go_enter Tryz.func33, Tryz.ntmps33
  go_wp2_with fail
  refine H.out.mono ?_; rintro e w1 ⟨rfl, q, hw1⟩
  have HW := Lib.hid hw1
  clear hw1
  go_wp2_with fail
  go_ret
  exact ⟨rfl, q, HW.out⟩
end Go.Proofs.YtcmocigckcjdjaaGreatDoor
