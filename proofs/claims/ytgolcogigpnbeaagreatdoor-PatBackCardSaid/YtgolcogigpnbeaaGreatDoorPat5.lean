/- pat: slices.CompareFunc at edges. -/
import Derived.Test.YtgolcogigpnbeaaGreatDoorPat4
namespace Go.Proofs.YtgolcogigpnbeaaGreatDoor
open Go.RowKit

theorem cmpEs_step {E F : List (Int × Int)} {k : Nat} (ha : k < E.length) (hb : k < F.length) :
    cmpEs (E.drop k) (F.drop k) = if cmpE (E.getD k (0, 0)) (F.getD k (0, 0)) ≠ 0 then cmpE (E.getD k (0, 0)) (F.getD k (0, 0)) else cmpEs (E.drop (k + 1)) (F.drop (k + 1)) := by
  rw [List.drop_eq_getElem_cons ha, List.drop_eq_getElem_cons hb, cmpEs_cons]
  simp [List.getD, ha, hb]
theorem cmpEs_endA {E F : List (Int × Int)} {k : Nat} (ha : E.length ≤ k) : cmpEs (E.drop k) (F.drop k) = if k < F.length then -1 else 0 := by
  rw [List.drop_of_length_le ha]
  by_cases h : k < F.length
  · rw [if_pos h, List.drop_eq_getElem_cons h]; rfl
  · rw [if_neg h, List.drop_of_length_le (by omega)]; rfl
theorem cmpEs_endB {E F : List (Int × Int)} {k : Nat} (hb : F.length ≤ k) (ha : k < E.length) : cmpEs (E.drop k) (F.drop k) = 1 := by
  rw [List.drop_of_length_le hb, List.drop_eq_getElem_cons ha]; rfl

set_option maxRecDepth 100000 in
set_option maxHeartbeats 2000000 in
theorem cmpFunc_any (E F : List (Int × Int)) (v u : Value) (w : World) (ha : EdgesV w v E) (hb : EdgesV w u F) (hl : E.length ≤ 1000000000) (hm : F.length ≤ 1000000000) :
    Calls Tryz.prog 43 #[v, u, .func (.func 44) #[] #[]] w fun e w' => e = .returned (.int .i64 (cmpEs E F)) ∧ Below w.heap.size w w' := by
  obtain ⟨Aa, ca, rfl⟩ := ha.form
  obtain ⟨Ab, cb, rfl⟩ := hb.form
  obtain ⟨n, hn⟩ : ∃ n, E.length = n := ⟨_, rfl⟩
  obtain ⟨m, hm'⟩ : ∃ m, F.length = m := ⟨_, rfl⟩
  rw [hn] at ha hl ⊢
  rw [hm'] at hb hm ⊢
  have HA := Lib.hid ha; have HB := Lib.hid hb; have HN := Lib.hid hn; have HM := Lib.hid hm'
  clear ha hb hn hm'
  go_enter Tryz.func43, Tryz.ntmps43
  go_wp2_with fail
  go_loopg [13] n (fun g y wr => ∃ k, k ≤ n ∧ k ≤ m ∧ g = n - k ∧ y = .int .i64 (k : Nat) ∧ cmpEs E F = cmpEs (E.drop k) (F.drop k) ∧ Below w.heap.size w wr)
  case atStart => exact ⟨0, by omega, by omega, rfl, rfl, rfl, Below.refl _ _⟩
  case round =>
    obtain ⟨k, hk, hkm, rfl, rfl, heq, hB⟩ := hrel
    have HE := Lib.hid heq
    clear heq
    by_cases hlt : k < n
    · obtain ⟨b, off, rfl, d0, d1⟩ := (HA.out.below hB (Nat.le_refl _)).pos (i := k) (by rw [HN.out]; exact hlt)
      obtain ⟨x, hx⟩ : ∃ x, E.getD k (0, 0) = x := ⟨_, rfl⟩
      rw [hx] at d0 d1
      have HX := Lib.hid hx
      obtain ⟨x1, x2⟩ := x
      have t3 : decide (k < n) = true := decide_eq_true hlt
      have i1 : (k : Int) < n := by omega
      have i2 : (0 : Int) ≤ k := by omega
      have HLT := Lib.hid hlt
      have hb1 : Below w.heap.size w (wr.alloc (.cells #[.int .i64 x1, .int .i64 x2] 62)) := hB.alloc hB.size _
      simp only at d0 d1
      by_cases hltm : k < m
      · obtain ⟨b', off', rfl, f0, f1⟩ := (HB.out.below hb1 (Nat.le_refl _)).pos (i := k) (by rw [HM.out]; exact hltm)
        obtain ⟨y, hy⟩ : ∃ y, F.getD k (0, 0) = y := ⟨_, rfl⟩
        rw [hy] at f0 f1
        have HY := Lib.hid hy
        obtain ⟨y1, y2⟩ := y
        simp only at f0 f1
        have t4 : decide (m ≤ k) = false := decide_eq_false (by omega)
        have t4' : decide ((m : Int) ≤ k) = false := decide_eq_false (by omega)
        have i3 : (k : Int) < m := by omega
        have hb2 : Below w.heap.size w ((wr.alloc (.cells #[.int .i64 x1, .int .i64 x2] 62)).alloc (.cells #[.int .i64 y1, .int .i64 y2] 62)) := hb1.alloc hb1.size _
        have HC := Lib.hid (cmpEdges_below (x1, x2) (y1, y2) ((wr.alloc (.cells #[.int .i64 x1, .int .i64 x2] 62)).alloc (.cells #[.int .i64 y1, .int .i64 y2] 62)))
        obtain ⟨r, hr⟩ : ∃ r, cmpE (x1, x2) (y1, y2) = r := ⟨_, rfl⟩
        have HST : Hid (cmpEs E F = if r ≠ 0 then r else cmpEs (E.drop (k + 1)) (F.drop (k + 1))) := Lib.hid (by
          rw [HE.out, cmpEs_step (by rw [HN.out]; exact HLT.out) (by rw [HM.out]; exact hltm), HX.out, hy, hr])
        rw [hr] at HC
        have HB2 := Lib.hid hb2; have HLM := Lib.hid hltm
        clear hB hx hlt hb1 hltm hy hb2 hr
        go_wp2_with fail
        refine HC.out.mono ?_; rintro e w1 ⟨rfl, hw1⟩
        have HB3 := Lib.hid (HB2.out.trans (hw1.mono HB2.out.size))
        clear hw1
        by_cases h1 : r = 0
        · have t5 : (r != 0) = false := by simp [h1]
          have HF : Hid (cmpEs E F = cmpEs (E.drop (k + 1)) (F.drop (k + 1))) := Lib.hid (by rw [HST.out, if_neg (by simpa using h1)])
          clear h1
          go_wp2_with fail
          go_roundg (n - (k + 1))
          case rel => exact ⟨k + 1, HLT.out, HLM.out, rfl, by go_num, HF.out, HB3.out⟩
          case measure => have := HLT.out; omega
        · have t5 : (r != 0) = true := by simpa using h1
          have HF : Hid (cmpEs E F = r) := Lib.hid (by rw [HST.out, if_pos h1])
          clear h1
          go_wp2_with fail
          go_ret
          exact ⟨by rw [HF.out]; rfl, HB3.out⟩
      · have t2 : decide (m ≤ k) = true := decide_eq_true (by omega)
        have t2' : decide ((m : Int) ≤ k) = true := decide_eq_true (by omega)
        have HF : Hid (cmpEs E F = 1) := Lib.hid (by rw [HE.out, cmpEs_endB (by rw [HM.out]; omega) (by rw [HN.out]; exact HLT.out)])
        have HB1 := Lib.hid hb1
        clear hltm hb1 hB hx hlt
        go_wp2_with fail
        go_ret
        exact ⟨by rw [HF.out]; rfl, HB1.out⟩
    · obtain rfl : k = n := by omega
      have t1 : decide (k < k) = false := by simp
      have HF : Hid (cmpEs E F = if k < m then -1 else 0) := Lib.hid (by rw [HE.out, cmpEs_endA (by rw [HN.out]; omega), HM.out])
      have HBB := Lib.hid hB
      clear hlt hB
      by_cases hkm2 : k < m
      · have t2 : decide (k < m) = true := decide_eq_true hkm2
        have HG : Hid (cmpEs E F = -1) := Lib.hid (by rw [HF.out, if_pos hkm2])
        clear hkm2
        go_wp2_with fail
        go_ret
        exact ⟨by rw [HG.out]; rfl, HBB.out⟩
      · have t2 : decide (k < m) = false := decide_eq_false hkm2
        have HG : Hid (cmpEs E F = 0) := Lib.hid (by rw [HF.out, if_neg hkm2])
        clear hkm2
        go_wp2_with fail
        go_ret
        exact ⟨by rw [HG.out]; rfl, HBB.out⟩
end Go.Proofs.YtgolcogigpnbeaaGreatDoor
