/- ConfProgs: the law's walk. Written by gen_progsl22.py. -/
import Derived.Test.YtbbdammdiplagaaGreatDoorConc22
import Derived.Test.YtbbdammdiplagaaGreatDoorOf22
import Derived.Test.YtbbdammdiplagaaGreatDoorRefR22
import Derived.Test.YtbbdammdiplagaaGreatDoorAlive22K
import Derived.Test.YtbbdammdiplagaaGreatDoorKeepsA17
namespace Go.Proofs.YtbbdammdiplagaaGreatDoor
open Go.RowKit

/-- All pairs whose first is below a; a row of pairs. -/
def rowTo (a k : Nat) : List (Int × Int) := (List.range k).map fun j => ((a : Int), ((a + 1 + j : Nat) : Int))
def allTo (n : Nat) : Nat → List (Int × Int)
  | 0 => []
  | a + 1 => allTo n a ++ rowTo a (n - (a + 1))
theorem rowTo_succ (a k : Nat) : rowTo a (k + 1) = rowTo a k ++ [((a : Int), ((a + 1 + k : Nat) : Int))] := by
  unfold rowTo
  rw [List.range_succ, List.map_append]
  rfl
theorem rowTo_len (a k : Nat) : (rowTo a k).length = k := by simp [rowTo]
theorem allTo_len (n : Nat) : ∀ a, (allTo n a).length ≤ a * n
  | 0 => by simp [allTo]
  | a + 1 => by
    have := allTo_len n a
    show (allTo n a ++ rowTo a (n - (a + 1))).length ≤ _
    rw [List.length_append, rowTo_len, Nat.succ_mul]
    omega
theorem allTo_full {n : Nat} (h : n ≤ 8) : (allTo n n).length = n * (n - 1) / 2 := by
  rcases (by omega : n = 0 ∨ n = 1 ∨ n = 2 ∨ n = 3 ∨ n = 4 ∨ n = 5 ∨ n = 6 ∨ n = 7 ∨ n = 8) with rfl | rfl | rfl | rfl | rfl | rfl | rfl | rfl | rfl <;> decide
theorem Tryz.infoAE22 : (Tryz.prog.info? 54).map (fun i => (i.zero, i.size, i.bytes)) = some (some (.agg #[.int .i64 0, .int .i64 0]), 2, 16) := by kernel_rfl
theorem clique_one {L : List Int} {E : List (Int × Int)} (hr : rightF L E = none) : keepsB [(1, 0)] L E = decide (E.length = L.length * (L.length - 1) / 2) := by
  rw [Bool.eq_iff_iff, keepsB_iff, decide_eq_true_iff]
  constructor
  · rintro ⟨_, _, h⟩
    have := (testB_iff.1 (h (1, 0) (by simp))).2.2
    unfold testR at this
    rw [if_pos rfl] at this
    exact of_decide_eq_true this
  · intro h
    refine ⟨by decide, hr, fun o ho => ?_⟩
    obtain rfl := List.mem_singleton.1 ho
    refine testB_iff.2 ⟨by decide, hr, ?_⟩
    unfold testR
    rw [if_pos rfl]
    exact decide_eq_true h
theorem keeps_wrong {O : List (Int × Int)} {L : List Int} {E : List (Int × Int)} (hr : rightF L E ≠ none) : keepsB O L E = false := by
  cases h : keepsB O L E with
  | false => rfl
  | true => exact absurd (keepsB_iff.1 h).2.1 hr
theorem progK_keeps {kd : Int} {O : List (Int × Int)} (h : progF O = none) (h5 : O.length ≤ 15) (L : List Int) (E : List (Int × Int)) : keepsB (progK kd O) L E = if kd = 2 then (decide (E.length = L.length * (L.length - 1) / 2) && keepsB O L E) else keepsB O L E := by
  unfold progK
  by_cases hk : kd = 2
  · rw [if_pos hk, if_pos hk]
    by_cases hr : rightF L E = none
    · rw [show (1, 0) :: O = [(1, 0)] ++ O from rfl, keepsB_app (by decide) h (by simp; omega), clique_one hr]
    · rw [keeps_wrong hr, keeps_wrong hr, Bool.and_false]
  · rw [if_neg hk, if_neg hk]
theorem one_two {n : Nat} : decide (0 = n * (n - 1) / 2) = decide (n < 2) := by
  refine decide_eq_decide.2 ⟨fun h => ?_, fun h => ?_⟩
  · rcases Nat.lt_or_ge n 2 with h2 | h2
    · exact h2
    · have h3 : 2 * 1 ≤ n * (n - 1) := Nat.mul_le_mul h2 (by omega)
      omega
  · rcases (by omega : n = 0 ∨ n = 1) with rfl | rfl <;> rfl
set_option maxRecDepth 100000 in
set_option maxHeartbeats 16000000 in
theorem progsBad_law (kd sz su wk cp : Int) (O : List (Int × Int)) (kv : Value) (L : List Int) (vl : Value) (w : World) (hg : GT w) (hk : EdgesV w kv O) (hl : O.length ≤ 9000000000000) (hL : SeqV w vl L) (hr : rightKB ⟨⟨kd, sz, su, wk, cp⟩, O⟩ = false) :
    Calls Tryz.prog 6 #[.agg (cV ⟨kd, sz, su, wk, cp⟩ kv), vl] w fun e w' => e = .returned (.bool true) ∧ Below w.heap.size w w' := by
  obtain ⟨Ak, ck, rfl⟩ := hk.form
  obtain ⟨Al, cl, rfl⟩ := IntsV.form hL
  obtain ⟨n, hn⟩ : ∃ n, L.length = n := ⟨_, rfl⟩
  have AL := Lib.hid (fun W (h : Below w.heap.size w W) => alive_ok W (hg.below h (Nat.le_refl _)))
  have HRR : Hid (∀ W, Below w.heap.size w W → Calls Tryz.prog 10 #[.agg (#[.int .i64 kd, .int .i64 sz, .int .i64 su, .int .i64 wk, .int .i64 cp, .slice Ak O.length ck])] W fun e w' => e = .returned (.bool false) ∧ Below W.heap.size W w') := Lib.hid (fun W h => by
    have k := refRight22 kd sz su wk cp O _ W (hk.below h (Nat.le_refl _)) hl
    rw [hr] at k
    exact k)
  generalize O.length = q at *
  generalize L.length = n at *
  have hb1 : Below w.heap.size w (w.alloc (.cells (#[.int .i64 kd, .int .i64 sz, .int .i64 su, .int .i64 wk, .int .i64 cp, .slice Ak q ck]) 24)) := (Below.refl _ _).alloc (Nat.le_refl _) _
  have hx := Whole.new w 24 (#[.int .i64 kd, .int .i64 sz, .int .i64 su, .int .i64 wk, .int .i64 cp, .slice Ak q ck])
  obtain ⟨w1, hw1⟩ : ∃ W, w.alloc (.cells (#[.int .i64 kd, .int .i64 sz, .int .i64 su, .int .i64 wk, .int .i64 cp, .slice Ak q ck]) 24) = W := ⟨_, rfl⟩
  obtain ⟨xb, hxb⟩ : ∃ g, w.heap.size = g := ⟨_, rfl⟩
  rw [hw1] at hb1 hx
  rw [hxb] at hx
  have HB1 := Lib.hid hb1; have HX := Lib.hid hx; have HW1 := Lib.hid hw1; have HXB := Lib.hid hxb
  clear hb1 hx hw1 hxb hg hk hl hr hL hn
  unfold cV
  go_enter Tryz.func6, Tryz.ntmps6
  go_upto_region 1 with fail
  rw [HW1.out, HXB.out]
  go_wp2_with fail
  refine (AL.out _ HB1.out).mono ?_; rintro e w2 ⟨rfl, hb2⟩
  have hx2 := HX.out.below hb2 HX.out.lt
  have HX2 := Lib.hid hx2
  have HB2 := Lib.hid (HB1.out.trans (hb2.mono HB1.out.size))
  have HR2 := Lib.hid (HRR.out w2 HB2.out)
  have x0 : w2.cell? ⟨xb, 0, none⟩ = some (.int .i64 kd) := hx2.cell 0
  have x1 : w2.cell? ⟨xb, 1, none⟩ = some (.int .i64 sz) := hx2.cell 1
  have x2 : w2.cell? ⟨xb, 2, none⟩ = some (.int .i64 su) := hx2.cell 2
  have x3 : w2.cell? ⟨xb, 3, none⟩ = some (.int .i64 wk) := hx2.cell 3
  have x4 : w2.cell? ⟨xb, 4, none⟩ = some (.int .i64 cp) := hx2.cell 4
  have x5 : w2.cell? ⟨xb, 5, none⟩ = some (.slice Ak q ck) := hx2.cell 5
  clear hb2 hx2
  go_wp2_with fail
  refine HR2.out.mono ?_; rintro e w3 ⟨rfl, hb3⟩
  have HB3 := Lib.hid (HB2.out.trans (hb3.mono HB2.out.size))
  clear hb3
  go_wp2_with fail
  go_ret
  exact ⟨rfl, HB3.out⟩
set_option maxRecDepth 100000 in
set_option maxHeartbeats 16000000 in
theorem progsBig_law (kd sz su wk cp : Int) (O : List (Int × Int)) (kv : Value) (L : List Int) (vl : Value) (w : World) (hg : GT w) (hk : EdgesV w kv O) (hl : O.length ≤ 9000000000000) (hL : SeqV w vl L) (hr : rightKB ⟨⟨kd, sz, su, wk, cp⟩, O⟩ = true) (h8 : 8 < L.length) :
    Calls Tryz.prog 6 #[.agg (cV ⟨kd, sz, su, wk, cp⟩ kv), vl] w fun e w' => e = .returned (.bool true) ∧ Below w.heap.size w w' := by
  obtain ⟨Ak, ck, rfl⟩ := hk.form
  obtain ⟨Al, cl, rfl⟩ := IntsV.form hL
  obtain ⟨n, hn⟩ : ∃ n, L.length = n := ⟨_, rfl⟩
  have AL := Lib.hid (fun W (h : Below w.heap.size w W) => alive_ok W (hg.below h (Nat.le_refl _)))
  have HRR : Hid (∀ W, Below w.heap.size w W → Calls Tryz.prog 10 #[.agg (#[.int .i64 kd, .int .i64 sz, .int .i64 su, .int .i64 wk, .int .i64 cp, .slice Ak O.length ck])] W fun e w' => e = .returned (.bool true) ∧ Below W.heap.size W w') := Lib.hid (fun W h => by
    have k := refRight22 kd sz su wk cp O _ W (hk.below h (Nat.le_refl _)) hl
    rw [hr] at k
    exact k)
  rw [hn] at h8 ⊢
  have t8 : decide (8 < n) = true := decide_eq_true h8
  have t8' : decide ((8 : Int) < (n : Int)) = true := decide_eq_true (by omega)
  generalize O.length = q at *
  have hb1 : Below w.heap.size w (w.alloc (.cells (#[.int .i64 kd, .int .i64 sz, .int .i64 su, .int .i64 wk, .int .i64 cp, .slice Ak q ck]) 24)) := (Below.refl _ _).alloc (Nat.le_refl _) _
  have hx := Whole.new w 24 (#[.int .i64 kd, .int .i64 sz, .int .i64 su, .int .i64 wk, .int .i64 cp, .slice Ak q ck])
  obtain ⟨w1, hw1⟩ : ∃ W, w.alloc (.cells (#[.int .i64 kd, .int .i64 sz, .int .i64 su, .int .i64 wk, .int .i64 cp, .slice Ak q ck]) 24) = W := ⟨_, rfl⟩
  obtain ⟨xb, hxb⟩ : ∃ g, w.heap.size = g := ⟨_, rfl⟩
  rw [hw1] at hb1 hx
  rw [hxb] at hx
  have HB1 := Lib.hid hb1; have HX := Lib.hid hx; have HW1 := Lib.hid hw1; have HXB := Lib.hid hxb
  clear hb1 hx hw1 hxb hg hk hl hr hL hn h8
  unfold cV
  go_enter Tryz.func6, Tryz.ntmps6
  go_upto_region 1 with fail
  rw [HW1.out, HXB.out]
  go_wp2_with fail
  refine (AL.out _ HB1.out).mono ?_; rintro e w2 ⟨rfl, hb2⟩
  have hx2 := HX.out.below hb2 HX.out.lt
  have HX2 := Lib.hid hx2
  have HB2 := Lib.hid (HB1.out.trans (hb2.mono HB1.out.size))
  have HR2 := Lib.hid (HRR.out w2 HB2.out)
  have x0 : w2.cell? ⟨xb, 0, none⟩ = some (.int .i64 kd) := hx2.cell 0
  have x1 : w2.cell? ⟨xb, 1, none⟩ = some (.int .i64 sz) := hx2.cell 1
  have x2 : w2.cell? ⟨xb, 2, none⟩ = some (.int .i64 su) := hx2.cell 2
  have x3 : w2.cell? ⟨xb, 3, none⟩ = some (.int .i64 wk) := hx2.cell 3
  have x4 : w2.cell? ⟨xb, 4, none⟩ = some (.int .i64 cp) := hx2.cell 4
  have x5 : w2.cell? ⟨xb, 5, none⟩ = some (.slice Ak q ck) := hx2.cell 5
  clear hb2 hx2
  go_wp2_with fail
  refine HR2.out.mono ?_; rintro e w3 ⟨rfl, hb3⟩
  have HB3 := Lib.hid (HB2.out.trans (hb3.mono HB2.out.size))
  clear hb3
  go_wp2_with fail
  go_ret
  exact ⟨rfl, HB3.out⟩
set_option maxRecDepth 100000 in
set_option maxHeartbeats 16000000 in
theorem progsGood_law (kd sz su wk cp : Int) (O : List (Int × Int)) (kv : Value) (L : List Int) (vl : Value) (w : World) (hg : GT w) (hk : EdgesV w kv O) (hl : O.length ≤ 9000000000000) (hL : SeqV w vl L) (hr : rightKB ⟨⟨kd, sz, su, wk, cp⟩, O⟩ = true) (h8 : L.length ≤ 8) :
    Calls Tryz.prog 6 #[.agg (cV ⟨kd, sz, su, wk, cp⟩ kv), vl] w fun e w' => e = .returned (.bool true) ∧ Below w.heap.size w w' := by
  obtain ⟨Ak, ck, rfl⟩ := hk.form
  obtain ⟨Al, cl, rfl⟩ := IntsV.form hL
  obtain ⟨n, hn⟩ : ∃ n, L.length = n := ⟨_, rfl⟩
  have AL := Lib.hid (fun W (h : Below w.heap.size w W) => alive_ok W (hg.below h (Nat.le_refl _)))
  have HRR : Hid (∀ W, Below w.heap.size w W → Calls Tryz.prog 10 #[.agg (#[.int .i64 kd, .int .i64 sz, .int .i64 su, .int .i64 wk, .int .i64 cp, .slice Ak O.length ck])] W fun e w' => e = .returned (.bool true) ∧ Below W.heap.size W w') := Lib.hid (fun W h => by
    have k := refRight22 kd sz su wk cp O _ W (hk.below h (Nat.le_refl _)) hl
    rw [hr] at k
    exact k)
  obtain ⟨_, _, _, _, _, b5, b6⟩ := rightKB_iff.1 hr
  have HOF : Hid (∀ W, Below w.heap.size w W → Calls Tryz.prog 8 #[.agg (#[.int .i64 kd, .int .i64 sz, .int .i64 su, .int .i64 wk, .int .i64 cp, .slice Ak O.length ck])] W (OfTo22 ⟨kd, sz, su, wk, cp⟩ O W)) := Lib.hid (fun W h => of22_any kd sz su wk cp O _ W (hk.below h (Nat.le_refl _)) (by omega))
  have HPG : Hid (∀ W v, EdgesV W v O → Calls Tryz.prog 14 #[.agg (#[.int .i64 kd, .int .i64 sz, .int .i64 su, .int .i64 wk, .int .i64 cp, v])] W fun e w' => ∃ A c, e = .returned (.slice A (progK kd O).length c) ∧ EdgesV w' (.slice A (progK kd O).length c) (progK kd O) ∧ (kd = 2 → (progK kd O).length ≤ c) ∧ Below W.heap.size W w') := Lib.hid (fun W v h => confProg_any kd sz su wk cp O v W h (by omega))
  have hmk : (progK kd O).length ≤ 16 := by unfold progK; split <;> (try rw [List.length_cons]) <;> omega
  have HKP : Hid (∀ W v ve E, Below w.heap.size w W → EdgesV W v (progK kd O) → EdgesV W ve E → E.length ≤ 100 → Calls Tryz.prog 20 #[v, .agg #[.slice Al L.length cl, ve]] W fun e w' => e = .returned (.bool (keepsB (progK kd O) L E)) ∧ Below W.heap.size W w') := Lib.hid (fun W v ve E hb h1 h2 h3 => keeps_all h1 (by omega) (hL.below hb (Nat.le_refl _)) h2 (by omega) (by omega))
  have HKO : Hid (∀ W v ve E, Below w.heap.size w W → EdgesV W v O → EdgesV W ve E → E.length ≤ 100 → Calls Tryz.prog 20 #[v, .agg #[.slice Al L.length cl, ve]] W fun e w' => e = .returned (.bool (keepsB O L E)) ∧ Below W.heap.size W w') := Lib.hid (fun W v ve E hb h1 h2 h3 => keeps_all h1 (by omega) (hL.below hb (Nat.le_refl _)) h2 (by omega) (by omega))
  have hka : keepsB (progK kd O) L (allTo L.length L.length) = keepsB O L (allTo L.length L.length) := by
    rw [progK_keeps b6 b5, allTo_full h8, decide_eq_true rfl, Bool.true_and, ite_self]
  have hk1 : kd = 2 → keepsB (progK kd O) L [] = (decide (L.length < 2) && keepsB O L []) := fun h => by
    rw [progK_keeps b6 b5, if_pos h, List.length_nil, one_two]
  have hk2 : kd ≠ 2 → keepsB (progK kd O) L [] = keepsB O L [] := fun h => by
    rw [progK_keeps b6 b5, if_neg h]
  rw [hn] at HKP HKO hka hk1 h8 ⊢
  obtain ⟨q, hq⟩ : ∃ q, O.length = q := ⟨_, rfl⟩
  obtain ⟨m, hm⟩ : ∃ m, (progK kd O).length = m := ⟨_, rfl⟩
  rw [hq] at HOF HRR ⊢
  rw [hm] at HPG hmk
  have HQ := Lib.hid hq; have HM := Lib.hid hm; have HKA := Lib.hid hka; have HK1 := Lib.hid hk1; have HK2 := Lib.hid hk2
  have t8 : decide (8 < n) = false := decide_eq_false (by omega)
  have t8' : decide ((8 : Int) < (n : Int)) = false := decide_eq_false (by omega)
  have t16 : decide (16 < m) = false := decide_eq_false (by omega)
  have t16' : decide ((16 : Int) < (m : Int)) = false := decide_eq_false (by omega)
  obtain ⟨j0, hj0, hz0, hz1, hz2⟩ := info_parts Tryz.infoAE22
  have hb1 : Below w.heap.size w (w.alloc (.cells (#[.int .i64 kd, .int .i64 sz, .int .i64 su, .int .i64 wk, .int .i64 cp, .slice Ak q ck]) 24)) := (Below.refl _ _).alloc (Nat.le_refl _) _
  have hx := Whole.new w 24 (#[.int .i64 kd, .int .i64 sz, .int .i64 su, .int .i64 wk, .int .i64 cp, .slice Ak q ck])
  obtain ⟨w1, hw1⟩ : ∃ W, w.alloc (.cells (#[.int .i64 kd, .int .i64 sz, .int .i64 su, .int .i64 wk, .int .i64 cp, .slice Ak q ck]) 24) = W := ⟨_, rfl⟩
  obtain ⟨xb, hxb⟩ : ∃ g, w.heap.size = g := ⟨_, rfl⟩
  rw [hw1] at hb1 hx
  rw [hxb] at hx
  have HB1 := Lib.hid hb1; have HX := Lib.hid hx; have HW1 := Lib.hid hw1; have HXB := Lib.hid hxb
  clear hb1 hx hw1 hxb hg hk hl hr hL hn hq hm hka hk1 hk2 b5 b6 hmk
  unfold cV
  go_enter Tryz.func6, Tryz.ntmps6
  go_upto_region 1 with fail
  rw [HW1.out, HXB.out]
  go_wp2_with fail
  refine (AL.out _ HB1.out).mono ?_; rintro e w2 ⟨rfl, hb2⟩
  have hx2 := HX.out.below hb2 HX.out.lt
  have HX2 := Lib.hid hx2
  have HB2 := Lib.hid (HB1.out.trans (hb2.mono HB1.out.size))
  have HR2 := Lib.hid (HRR.out w2 HB2.out)
  have x0 : w2.cell? ⟨xb, 0, none⟩ = some (.int .i64 kd) := hx2.cell 0
  have x1 : w2.cell? ⟨xb, 1, none⟩ = some (.int .i64 sz) := hx2.cell 1
  have x2 : w2.cell? ⟨xb, 2, none⟩ = some (.int .i64 su) := hx2.cell 2
  have x3 : w2.cell? ⟨xb, 3, none⟩ = some (.int .i64 wk) := hx2.cell 3
  have x4 : w2.cell? ⟨xb, 4, none⟩ = some (.int .i64 cp) := hx2.cell 4
  have x5 : w2.cell? ⟨xb, 5, none⟩ = some (.slice Ak q ck) := hx2.cell 5
  clear hb2 hx2
  go_wp2_with fail
  refine HR2.out.mono ?_; rintro e w3 ⟨rfl, hb3⟩
  have HB3 := Lib.hid (HB2.out.trans (hb3.mono HB2.out.size))
  have hx3 := HX2.out.below hb3 HX2.out.lt
  have HX3 := Lib.hid hx3
  have HOF3 := Lib.hid (HOF.out w3 HB3.out)
  clear x0 x1 x2 x3 x4 x5
  have x0 : w3.cell? ⟨xb, 0, none⟩ = some (.int .i64 kd) := hx3.cell 0
  have x1 : w3.cell? ⟨xb, 1, none⟩ = some (.int .i64 sz) := hx3.cell 1
  have x2 : w3.cell? ⟨xb, 2, none⟩ = some (.int .i64 su) := hx3.cell 2
  have x3 : w3.cell? ⟨xb, 3, none⟩ = some (.int .i64 wk) := hx3.cell 3
  have x4 : w3.cell? ⟨xb, 4, none⟩ = some (.int .i64 cp) := hx3.cell 4
  have x5 : w3.cell? ⟨xb, 5, none⟩ = some (.slice Ak q ck) := hx3.cell 5
  clear hb3 hx3
  go_wp2_with fail
  refine HOF3.out.mono ?_; rintro e w4 ⟨A2, c2, rfl, hown, hb4⟩
  rw [HQ.out] at hown ⊢
  obtain ⟨w5, hw5⟩ : ∃ W, w4.alloc (.cells (#[.int .i64 kd, .int .i64 sz, .int .i64 su, .int .i64 wk, .int .i64 cp, .slice A2 q c2]) 29) = W := ⟨_, rfl⟩
  have hb5 : Below w4.heap.size w4 w5 := by rw [← hw5]; exact (Below.refl _ _).alloc (Nat.le_refl _) _
  have hc5 := Whole.new w4 29 (#[.int .i64 kd, .int .i64 sz, .int .i64 su, .int .i64 wk, .int .i64 cp, .slice A2 q c2])
  rw [hw5] at hc5
  obtain ⟨cb, hcb⟩ : ∃ g, w4.heap.size = g := ⟨_, rfl⟩
  rw [hcb] at hc5
  have hb45 := hb4.trans (hb5.mono hb4.size)
  have HB5 := Lib.hid (HB3.out.trans (hb45.mono HB3.out.size))
  have HE5 := Lib.hid ((own_edges hown).below hb5 (Nat.le_refl _))
  have HC5 := Lib.hid hc5; have HX5 := Lib.hid (HX3.out.below hb45 HX3.out.lt); have HW5 := Lib.hid hw5; have HCB := Lib.hid hcb
  have HP5 := Lib.hid (HPG.out w5 (.slice A2 q c2) HE5.out)
  have c0 : w5.cell? ⟨cb, 0, none⟩ = some (.int .i64 kd) := hc5.cell 0
  have c1 : w5.cell? ⟨cb, 1, none⟩ = some (.int .i64 sz) := hc5.cell 1
  have c2' : w5.cell? ⟨cb, 2, none⟩ = some (.int .i64 su) := hc5.cell 2
  have c3 : w5.cell? ⟨cb, 3, none⟩ = some (.int .i64 wk) := hc5.cell 3
  have c4 : w5.cell? ⟨cb, 4, none⟩ = some (.int .i64 cp) := hc5.cell 4
  have c5 : w5.cell? ⟨cb, 5, none⟩ = some (.slice A2 q c2) := hc5.cell 5
  clear hown hb4 hw5 hb5 hc5 hcb hb45 x0 x1 x2 x3 x4 x5
  unfold cV
  go_upto_region 6 with fail
  rw [HW5.out, HCB.out]
  go_wp2_with fail
  refine HP5.out.mono ?_; rintro e w6 ⟨Ap, cq, rfl, hep, -, hb6⟩
  have HB6 := Lib.hid (HB5.out.trans (hb6.mono HB5.out.size))
  have hone : Below w6.heap.size w6 (w6.alloc (.cells #[.slice Al n cl, .slice none 0 0] 52)) := (Below.refl _ _).alloc (Nat.le_refl _) _
  obtain ⟨w7, hw7⟩ : ∃ W, w6.alloc (.cells #[.slice Al n cl, .slice none 0 0] 52) = W := ⟨_, rfl⟩
  have ho7 := Whole.new w6 52 #[.slice Al n cl, .slice none 0 0]
  rw [hw7] at hone ho7
  obtain ⟨ob, hob⟩ : ∃ g, w6.heap.size = g := ⟨_, rfl⟩
  rw [hob] at ho7
  have hb57 := hb6.trans (hone.mono hb6.size)
  have HB7 := Lib.hid (HB6.out.trans (hone.mono HB6.out.size))
  have HE7 := Lib.hid (HE5.out.below hb57 (Nat.le_refl _))
  have HP7 := Lib.hid (hep.below hone (Nat.le_refl _))
  have HC7 := Lib.hid (HC5.out.below hb57 HC5.out.lt); have HX7 := Lib.hid (HX5.out.below hb57 HX5.out.lt); have HO7 := Lib.hid ho7
  have HW7 := Lib.hid hw7; have HOB := Lib.hid hob
  obtain ⟨w8, hw8⟩ : ∃ W, w7.alloc (.cells #[.slice Al n cl, .slice none 0 0] 52) = W := ⟨_, rfl⟩
  have hb8 : Below w7.heap.size w7 w8 := by rw [← hw8]; exact (Below.refl _ _).alloc (Nat.le_refl _) _
  have ht8 := Whole.new w7 52 #[.slice Al n cl, .slice none 0 0]
  rw [hw8] at ht8
  obtain ⟨tb, htb⟩ : ∃ g, w7.heap.size = g := ⟨_, rfl⟩
  have htl : w7.heap.size ≤ tb := by omega
  rw [htb] at ht8
  have HT8 := Lib.hid ht8; have HB8 := Lib.hid hb8; have HW8 := Lib.hid hw8; have HTB := Lib.hid htb; have HTL := Lib.hid htl
  clear hep hb6 hone hw7 ho7 hob hb57 hw8 hb8 ht8 htb htl c0 c1 c2' c3 c4 c5
  go_upto_region 8 with fail
  rw [HW7.out, HOB.out]
  go_upto_region 9 with fail
  rw [HW8.out, HTB.out]
  go_wp2_with fail
  go_loopg [9] n (fun g av wr => ∃ a Ae ce, a ≤ n ∧ g = n - a ∧ av = .int .i64 (a : Nat) ∧ Whole wr tb 52 #[.slice Al n cl, .slice Ae (allTo n a).length ce] ∧ wr.ownsRow w7.heap.size 54 2 (.slice Ae (allTo n a).length ce) (allTo n a).length (eL (allTo n a)) ∧ Below w7.heap.size w7 wr)
  case atStart => exact ⟨0, none, 0, Nat.zero_le _, rfl, rfl, HT8.out, World.ownsRow_nil _ _ _ 2, HB8.out⟩
  case round =>
    obtain ⟨a, Ae, ce, ha, rfl, rfl, hp, hown, hB⟩ := hrel
    by_cases han : a < n
    · have i1 : (a : Int) < n := by omega
      have t2 : decide (a < n) = true := decide_eq_true han
      have t2' : decide ((a : Int) < (n : Int)) = true := decide_eq_true (by omega)
      have HP0 := Lib.hid hp; have HO0 := Lib.hid hown; have HB0 := Lib.hid hB
      clear hp hown hB
      go_wp2_with fail
      go_loopg [10] (n - (a + 1)) (fun g bv wr => ∃ k Ae ce, k ≤ n - (a + 1) ∧ g = n - (a + 1) - k ∧ bv = .int .i64 ((a + 1 + k : Nat)) ∧ Whole wr tb 52 #[.slice Al n cl, .slice Ae ((allTo n a) ++ rowTo a k).length ce] ∧ wr.ownsRow w7.heap.size 54 2 (.slice Ae ((allTo n a) ++ rowTo a k).length ce) ((allTo n a) ++ rowTo a k).length (eL ((allTo n a) ++ rowTo a k)) ∧ Below w7.heap.size w7 wr)
      case atStart => exact ⟨0, Ae, ce, Nat.zero_le _, rfl, by go_num, by rw [show allTo n a ++ rowTo a 0 = allTo n a from List.append_nil _]; exact HP0.out, by rw [show allTo n a ++ rowTo a 0 = allTo n a from List.append_nil _]; exact HO0.out, HB0.out⟩
      case round =>
        obtain ⟨k, Ae, ce, hk, rfl, rfl, hp, hown, hB⟩ := hrel
        have hlen := allTo_len n a
        have han2 : a * n ≤ 64 := Nat.mul_le_mul (show a ≤ 8 by omega) h8
        have hln : ((allTo n a) ++ rowTo a k).length ≤ 100 := by rw [List.length_append, rowTo_len]; omega
        have hne : Hid ((allTo n a) ++ rowTo a (k + 1) = ((allTo n a) ++ rowTo a k) ++ [((a : Int), ((a + 1 + k : Nat) : Int))]) := Lib.hid (by rw [rowTo_succ, List.append_assoc])
        obtain ⟨E, hE⟩ : ∃ E, (allTo n a) ++ rowTo a k = E := ⟨_, rfl⟩
        rw [hE] at hp hown hln hne
        have HE := Lib.hid hE
        obtain ⟨le, hle⟩ : ∃ l, E.length = l := ⟨_, rfl⟩
        rw [hle] at hp hown hln
        have HLE := Lib.hid hle
        obtain ⟨b, hb⟩ : ∃ b, a + 1 + k = b := ⟨_, rfl⟩
        rw [hb] at hne ⊢
        have HBE := Lib.hid hb
        clear hlen han2 hE hle
        by_cases hkn : k < n - (a + 1)
        · have hbn : b < n := by omega
          have t3 : decide (b < n) = true := decide_eq_true hbn
          have t3' : decide ((b : Int) < (n : Int)) = true := decide_eq_true (by omega)
          have y1 : wr.cell? ⟨tb, 1, none⟩ = some (.slice Ae le ce) := hp.cell 1
          have HOW := Lib.hid (hown.alloc (.cells #[.int .i64 (a : Nat), .int .i64 (b : Nat)] 54))
          have hb2 : Below w7.heap.size w7 (wr.alloc (.cells #[.int .i64 (a : Nat), .int .i64 (b : Nat)] 54)) := hB.alloc hB.size _
          have hs2 := hb2.size
          have HB2' := Lib.hid hb2
          have HN2 := Lib.hid (edges_new wr 54 (a : Nat) (b : Nat) 1)
          have HPA := Lib.hid (hp.alloc (.cells #[.int .i64 (a : Nat), .int .i64 (b : Nat)] 54))
          have hlt : tb < wr.heap.size := hp.lt
          clear hown hB hb2 hp
          go_wp2_with (at_builtin; refine wpList_appEdges _ rfl _ _ 50 54 rfl w7.heap.size j0 (.agg #[.int .i64 0, .int .i64 0]) Tryz.underlying50 hj0 hz0 rfl hz1 hz2 _ le _ rfl HOW.out _ [((a : Int), (b : Int))] rfl HN2.out (by simp; omega) hs2 ?_)
          intro A3 c3 w9 hown3 hgrow3
          have hp9 := hgrow3.whole HPA.out HOW.out (by decide)
          have hB9 := hgrow3.below HOW.out HB2'.out (Nat.le_refl _) hs2
          have f1 : w9.frozen? ⟨tb, 1, none⟩ = false := hp9.free 1
          have y9 : w9.cell? ⟨tb, 1, none⟩ = some (.slice Ae le ce) := hp9.cell 1
          have HP9 := Lib.hid (hp9.put 1 (.slice A3 (le + [((a : Int), (b : Int))].length) c3))
          have HO9 := Lib.hid (own_put hown3 (p := ⟨tb, 1, none⟩) (own_ne hown3 hp9 (by decide)) (.slice A3 (le + [((a : Int), (b : Int))].length) c3))
          have HB9 := Lib.hid (hB9.setCell (p := ⟨tb, 1, none⟩) HTL.out (.slice A3 (le + [((a : Int), (b : Int))].length) c3))
          clear hown3 hgrow3 hp9 hB9
          go_wp2_with fail
          go_roundg (n - (a + 1) - (k + 1))
          case rel =>
            refine ⟨k + 1, A3, c3, hkn, rfl, by rw [← HBE.out]; go_num, ?_, ?_, HB9.out⟩
            · rw [hne.out, List.length_append, HLE.out]; exact HP9.out
            · rw [hne.out, List.length_append, HLE.out, eL_app]; exact HO9.out
          case measure => omega
        · have hbn : b = n := by omega
          have t3 : decide (b < n) = false := decide_eq_false (by omega)
          have t3' : decide ((b : Int) < (n : Int)) = false := decide_eq_false (by omega)
          have HNX : Hid (allTo n (a + 1) = E) := Lib.hid (by show allTo n a ++ rowTo a (n - (a + 1)) = E; rw [← HE.out, show k = n - (a + 1) by omega])
          have HP9 := Lib.hid hp; have HO9 := Lib.hid hown; have HB9 := Lib.hid hB
          clear hp hown hB hbn hb
          go_wp2_with fail
          go_roundg (n - (a + 1))
          case rel => exact ⟨a + 1, Ae, ce, han, rfl, by go_num, by rw [HNX.out, HLE.out]; exact HP9.out, by rw [HNX.out, HLE.out]; exact HO9.out, HB9.out⟩
          case measure => omega
    · obtain rfl : n = a := by omega
      obtain ⟨wf, hwf⟩ : ∃ W, W = wr := ⟨_, rfl⟩
      subst hwf
      have t2 : decide (n < n) = false := by simp
      have t2' : decide ((n : Int) < (n : Int)) = false := by simp
      have hlen := allTo_full h8
      have hl64 := allTo_len n n
      have hl64' : n * n ≤ 64 := Nat.mul_le_mul h8 h8
      have hEv := own_edges hown
      obtain ⟨E, hE⟩ : ∃ E, allTo n n = E := ⟨_, rfl⟩
      rw [hE] at HKA hp hEv hl64
      obtain ⟨le, hle⟩ : ∃ l, E.length = l := ⟨_, rfl⟩
      rw [hle] at hp hEv
      have hle100 : E.length ≤ 100 := by omega
      have HBF := Lib.hid (HB7.out.trans (hB.mono HB7.out.size))
      have HTF := Lib.hid hp; have HXF := Lib.hid (HX7.out.below hB HX7.out.lt); have HCF := Lib.hid (HC7.out.below hB HC7.out.lt); have HOF := Lib.hid (HO7.out.below hB HO7.out.lt)
      have HEF := Lib.hid (HE7.out.below hB (Nat.le_refl _)); have HPF := Lib.hid (HP7.out.below hB (Nat.le_refl _)); have HEV := Lib.hid hEv
      obtain ⟨z, hz⟩ : ∃ z, keepsB O L E = z := ⟨_, rfl⟩
      rw [hz] at HKA
      have HC1 : Hid (∀ W, Below wf.heap.size wf W → Calls Tryz.prog 20 #[.slice Ap m cq, .agg #[.slice Al n cl, .slice Ae le ce]] W fun e w' => e = .returned (.bool z) ∧ Below wf.heap.size wf w') := Lib.hid (fun W h => by
        have k := HKP.out W _ _ E (HBF.out.trans (h.mono HBF.out.size)) (HPF.out.below h (Nat.le_refl _)) (HEV.out.below h (Nat.le_refl _)) hle100
        rw [HKA.out] at k
        exact k.mono fun e w' ⟨g1, g2⟩ => ⟨g1, h.trans (g2.mono h.size)⟩)
      have HC2 : Hid (∀ W, Below wf.heap.size wf W → Calls Tryz.prog 20 #[.slice A2 q c2, .agg #[.slice Al n cl, .slice Ae le ce]] W fun e w' => e = .returned (.bool z) ∧ Below wf.heap.size wf w') := Lib.hid (fun W h => by
        have k := HKO.out W _ _ E (HBF.out.trans (h.mono HBF.out.size)) (HEF.out.below h (Nat.le_refl _)) (HEV.out.below h (Nat.le_refl _)) hle100
        rw [hz] at k
        exact k.mono fun e w' ⟨g1, g2⟩ => ⟨g1, h.trans (g2.mono h.size)⟩)
      obtain ⟨z1, hz1⟩ : ∃ z, keepsB (progK kd O) L [] = z := ⟨_, rfl⟩
      obtain ⟨z2, hz2'⟩ : ∃ z, keepsB O L [] = z := ⟨_, rfl⟩
      have HC3 : Hid (∀ W, Below wf.heap.size wf W → Calls Tryz.prog 20 #[.slice Ap m cq, .agg #[.slice Al n cl, .slice none 0 0]] W fun e w' => e = .returned (.bool z1) ∧ Below wf.heap.size wf w') := Lib.hid (fun W h => by
        have k := HKP.out W _ (.slice none 0 0) [] (HBF.out.trans (h.mono HBF.out.size)) (HPF.out.below h (Nat.le_refl _)) (Or.inl ⟨rfl, _, _, rfl⟩) (by simp)
        rw [hz1] at k
        exact k.mono fun e w' ⟨g1, g2⟩ => ⟨g1, h.trans (g2.mono h.size)⟩)
      have HC4 : Hid (∀ W, Below wf.heap.size wf W → Calls Tryz.prog 20 #[.slice A2 q c2, .agg #[.slice Al n cl, .slice none 0 0]] W fun e w' => e = .returned (.bool z2) ∧ Below wf.heap.size wf w') := Lib.hid (fun W h => by
        have k := HKO.out W _ (.slice none 0 0) [] (HBF.out.trans (h.mono HBF.out.size)) (HEF.out.below h (Nat.le_refl _)) (Or.inl ⟨rfl, _, _, rfl⟩) (by simp)
        rw [hz2'] at k
        exact k.mono fun e w' ⟨g1, g2⟩ => ⟨g1, h.trans (g2.mono h.size)⟩)
      rw [hz1, hz2'] at HK1 HK2
      have KS := Lib.hid (fun (W : World) (hb : Below wf.heap.size wf W) => (show W.cell? ⟨tb, 0, none⟩ = some (.slice Al n cl) ∧ W.cell? ⟨tb, 1, none⟩ = some (.slice Ae le ce) ∧ W.cell? ⟨cb, 5, none⟩ = some (.slice A2 q c2) ∧ W.cell? ⟨ob, 0, none⟩ = some (.slice Al n cl) ∧ W.cell? ⟨ob, 1, none⟩ = some (.slice none 0 0) ∧ W.cell? ⟨xb, 0, none⟩ = some (.int .i64 kd) from
        ⟨(HTF.out.below hb HTF.out.lt).cell 0, (HTF.out.below hb HTF.out.lt).cell 1, (HCF.out.below hb HCF.out.lt).cell 5, (HOF.out.below hb HOF.out.lt).cell 0, (HOF.out.below hb HOF.out.lt).cell 1, (HXF.out.below hb HXF.out.lt).cell 0⟩))
      have tz : (z != z) = false := by simp
      clear hp hown hB hlen hl64 hl64' hEv hE hle hz hz1 hz2' han ha
      go_upto_region 18 with fail
      go_region_held3 (fun W => W.cell? ⟨tb, 0, none⟩ = some (.slice Al n cl) ∧ W.cell? ⟨tb, 1, none⟩ = some (.slice Ae le ce) ∧ W.cell? ⟨cb, 5, none⟩ = some (.slice A2 q c2) ∧ W.cell? ⟨ob, 0, none⟩ = some (.slice Al n cl) ∧ W.cell? ⟨ob, 1, none⟩ = some (.slice none 0 0) ∧ W.cell? ⟨xb, 0, none⟩ = some (.int .i64 kd))
        (refine KS.out _ (by first | assumption | exact below_drewN' (Below.refl _ _) _))
        (first
          | (go_at_call 20; refine (HC2.out _ hb1).mono ?_; rintro e' v2 ⟨rfl, hb2⟩)
          | (go_at_call 20; refine (HC1.out _ (by first | assumption | exact below_drewN' (Below.refl _ _) _)).mono ?_; rintro e' v1 ⟨rfl, hb1⟩))
      obtain ⟨d0, d1, d5, o0, o1, x0⟩ := KS.out v2 hb2
      have HV2 := Lib.hid hb2
      clear hb1 hb2 HC1 HC2
      by_cases hkd : kd = 2
      · have tk : (kd == 2) = true := by simpa using hkd
        have hzz := HK1.out hkd
        have HC3' := Lib.hid (HC3.out v2 HV2.out)
        clear hkd
        go_wp2_with fail
        refine HC3'.out.mono ?_; rintro e' v3 ⟨rfl, hb3⟩
        have HV3 := Lib.hid hb3
        have HC4' := Lib.hid (HC4.out v3 hb3)
        clear d0 d1 d5 o0 o1 x0
        obtain ⟨d0, d1, d5, o0, o1, x0⟩ := KS.out v3 hb3
        clear hb3
        by_cases hn2 : n < 2
        · have t5 : decide (n < 2) = true := decide_eq_true hn2
          have t5' : decide ((n : Int) < 2) = true := decide_eq_true (by omega)
          rw [t5, Bool.true_and] at hzz
          subst hzz
          have tq : (z1 == z1) = true := by simp
          clear hn2
          go_wp2_with fail
          refine HC4'.out.mono ?_; rintro e' v4 ⟨rfl, hb4⟩
          have HV4 := Lib.hid (HBF.out.trans (hb4.mono HBF.out.size))
          clear hb4
          go_wp2_with fail
          go_ret
          exact ⟨rfl, HV4.out⟩
        · have t5 : decide (n < 2) = false := decide_eq_false hn2
          have t5' : decide ((n : Int) < 2) = false := decide_eq_false (by omega)
          rw [t5, Bool.false_and] at hzz
          subst hzz
          have HV4 := Lib.hid (HBF.out.trans (HV3.out.mono HBF.out.size))
          clear hn2
          go_wp2_with fail
          go_ret
          exact ⟨rfl, HV4.out⟩
      · have tk : (kd == 2) = false := by simpa using hkd
        have hzz := HK2.out hkd
        subst hzz
        have tq : (z1 == z1) = true := by simp
        clear hkd
        go_upto_region 22 with fail
        go_region_held3 (fun W => W.cell? ⟨tb, 0, none⟩ = some (.slice Al n cl) ∧ W.cell? ⟨tb, 1, none⟩ = some (.slice Ae le ce) ∧ W.cell? ⟨cb, 5, none⟩ = some (.slice A2 q c2) ∧ W.cell? ⟨ob, 0, none⟩ = some (.slice Al n cl) ∧ W.cell? ⟨ob, 1, none⟩ = some (.slice none 0 0) ∧ W.cell? ⟨xb, 0, none⟩ = some (.int .i64 kd))
          (refine KS.out _ (by first | assumption | exact below_drewN' HV2.out _))
          (first
            | (go_at_call 20; refine (HC4.out _ hb3).mono ?_; rintro e' v4 ⟨rfl, hb4⟩)
            | (go_at_call 20; refine (HC3.out _ (by first | assumption | exact below_drewN' HV2.out _)).mono ?_; rintro e' v3 ⟨rfl, hb3⟩))
        have HV4 := Lib.hid (HBF.out.trans (hb4.mono HBF.out.size))
        clear hb3 hb4
        go_wp2_with fail
        go_ret
        exact ⟨rfl, HV4.out⟩
theorem progs22_law (kd sz su wk cp : Int) (O : List (Int × Int)) (kv : Value) (L : List Int) (vl : Value) (w : World) (hg : GT w) (hk : EdgesV w kv O) (hl : O.length * 16 ≤ 140737488351232) (hL : SeqV w vl L) :
    Calls Tryz.prog 6 #[.agg (cV ⟨kd, sz, su, wk, cp⟩ kv), vl] w fun e w' => e = .returned (.bool true) ∧ Below w.heap.size w w' := by
  cases hr : rightKB ⟨⟨kd, sz, su, wk, cp⟩, O⟩ with
  | false => exact progsBad_law kd sz su wk cp O kv L vl w hg hk (by omega) hL hr
  | true =>
    rcases Nat.lt_or_ge 8 L.length with h8 | h8
    · exact progsBig_law kd sz su wk cp O kv L vl w hg hk (by omega) hL hr h8
    · exact progsGood_law kd sz su wk cp O kv L vl w hg hk (by omega) hL hr h8
end Go.Proofs.YtbbdammdiplagaaGreatDoor
