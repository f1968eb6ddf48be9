/- FaultNil: what nothing tells; the walk. -/
import Derived.Test.YtoekepfppagbdaaDoorEsn
import Derived.Test.YtoekepfppagbdaaDoorMade
import Derived.Test.YtoekepfppagbdaaDoorFirst
namespace Go.Proofs.YtoekepfppagbdaaDoor
open Go.RowKit Go.Extern.Stop Go.Stop Go.Extern

theorem find_nil (w : World) : Calls Tryd.prog 24 #[.nilIface] w fun e w' => e = .returned (.pointer none) ∧ Below w.heap.size w w' := by
  go_enter Tryd.func24, Tryd.ntmps24
  go_wp2_with fail
  refine (stp.as_nil _ _).mono ?_; rintro e w1 ⟨rfl, rfl⟩
  go_wp2_with fail
  go_ret
  exact ⟨rfl, (Below.refl _ _).alloc (Nat.le_refl _) _⟩
theorem at_nil (w : World) : Calls Tryd.prog 12 #[.nilIface] w fun e w' => e = .returned (.int .i64 0) ∧ Below w.heap.size w w' := by
  go_enter Tryd.func12, Tryd.ntmps12
  go_wp2_with fail
  refine (find_nil _).mono ?_; rintro e w1 ⟨rfl, hb⟩
  go_wp2_with fail
  go_ret
  exact ⟨rfl, hb⟩
theorem unroll_nil (w : World) : Calls Tryd.prog 23 #[.nilIface] w fun e w' => e = .returned (.tuple #[.slice none 0 0, .nilIface]) ∧ Below w.heap.size w w' := by
  go_enter Tryd.func23, Tryd.ntmps23
  go_wp2
  refine wp_loop_rounds 1 ?_
  rw [rounds_succ]
  go_wp2_with fail
  refine (stp.as_nil _ _).mono ?_; rintro e w1 ⟨rfl, rfl⟩
  go_wp2_with fail
  refine wp_loop_rounds 1 ?_
  rw [rounds_succ]
  go_wp2_with fail
  go_ret2
  exact ⟨rfl, (Below.refl _ _).alloc (Nat.le_refl _) _⟩
theorem words_nil (w : World) : Calls Tryd.prog 10 #[.nilIface] w fun e w' => e = .returned (.slice none 0 0) ∧ Below w.heap.size w w' := by
  go_enter Tryd.func10, Tryd.ntmps10
  go_wp2_with fail
  refine (unroll_nil _).mono ?_; rintro e w1 ⟨rfl, hb⟩
  go_wp2_with fail
  go_ret
  exact ⟨rfl, hb⟩
theorem text_nil (w : World) : Calls Tryd.prog 14 #[.nilIface] w fun e w' => e = .returned (.string ⟨#[]⟩) ∧ Below w.heap.size w w' := by
  go_enter Tryd.func14, Tryd.ntmps14
  go_wp2_with fail
  go_ret
  exact ⟨rfl, Below.refl _ _⟩
set_option maxRecDepth 100000 in
theorem errorsIs_nil (T : TypeId) (x : Value) (w : World) : Calls Tryd.prog 22 #[.nilIface, .iface T x] w fun e w' => e = .returned (.bool false) ∧ ∃ d, w' = w.drewN d := by
  have hl := run_eql_iface_nil_left (P := Tryd.prog) w T x Tryd.underlying25
  go_enter Tryd.func22, Tryd.ntmps22
  go_wp2_with fail
  go_ret
  exact ⟨rfl, 0, rfl⟩
theorem is_nil (c : Int) (w : World) : Calls Tryd.prog 13 #[.nilIface, .int .i64 c] w fun e w' => e = .returned (.bool false) ∧ Below w.heap.size w w' := by
  go_enter Tryd.func13, Tryd.ntmps13
  go_wp2_with fail
  refine (errorsIs_nil _ _ _).mono ?_; rintro e w1 ⟨rfl, d, rfl⟩
  go_wp2_with fail
  go_ret
  exact ⟨rfl, below_drewN ((Below.refl _ _).alloc (Nat.le_refl _) _) _⟩
theorem new_es (s : ByteArray) (w : World) : Calls Tryd.prog 17 #[.string s] w fun e w' => e = .returned (.iface 72 (.pointer (some ⟨w.heap.size, 0, none⟩))) ∧ w.alloc (.cells #[.string s] 74) = w' := by
  go_enter Tryd.func17, Tryd.ntmps17
  go_wp2
  go_ret
  exact ⟨rfl, rfl⟩
def oneV (g b : Nat) (i : Nat) : Value := if i = 0 then .iface 75 (.pointer (some ⟨g, 0, none⟩)) else .iface 72 (.pointer (some ⟨b, 0, none⟩))
theorem one_at (s t : ByteArray) (w : World) : EsAt ((w.alloc (.cells #[.string t] 74)).alloc (.cells #[.string s, .iface 72 (.pointer (some ⟨w.heap.size, 0, none⟩))] 77)) 1 (oneV (w.heap.size + 1) w.heap.size) (fun _ => w.heap.size + 1) (fun _ => s) w.heap.size t := by
  refine ⟨⟨fun i hi => ?_, fun i hi => ?_, fun i hi => ?_⟩, rfl, ?_⟩
  · obtain rfl : i = 0 := by omega
    rfl
  · simp
  · obtain rfl : i = 0 := by omega
    simp [oneV]
  · simp
theorem zero_at {s t : ByteArray} {w : World} {g b : Nat} (h : EsAt w 1 (oneV g b) (fun _ => g) (fun _ => s) b t) : EsAt w 0 (fun _ => .iface 72 (.pointer (some ⟨b, 0, none⟩))) (fun _ => g) (fun _ => s) b t :=
  ⟨⟨fun i hi => by omega, fun i hi => by omega, fun i hi => by omega⟩, rfl, h.text⟩

set_option maxRecDepth 100000 in
set_option maxHeartbeats 4000000 in
theorem nil_law (s t : ByteArray) (w : World) (hg : ErrT w) (hs : s.size ≤ 200) (ht : t.size ≤ 200) :
    Calls Tryd.prog 4 #[.string s, .string t] w fun e w' => e = .returned (.bool true) ∧ Below w.heap.size w w' := by
  have d1 : decide (200 < (s.size : Int)) = false := decide_eq_false (by omega)
  have d2 : decide (200 < (t.size : Int)) = false := decide_eq_false (by omega)
  have HAL := Lib.hid (alive_ok w hg)
  go_enter Tryd.func4, Tryd.ntmps4
  go_wp2_with fail
  refine HAL.out.mono ?_; rintro e w1 ⟨rfl, hb1⟩
  have B1 := Lib.hid hb1
  clear hb1
  go_wp2_with fail
  refine (new_es t _).mono ?_; rintro e w2 ⟨rfl, hw2⟩
  have HW2 := Lib.hid hw2
  clear hw2
  go_wp2_with fail
  refine (in_any s _ _ _).mono ?_; rintro e w3 ⟨rfl, hw3⟩
  have hz2 : w2.heap.size = w1.heap.size + 1 := by rw [← HW2.out]; simp
  have hone : EsAt w3 1 (oneV (w1.heap.size + 1) w1.heap.size) (fun _ => w1.heap.size + 1) (fun _ => s) w1.heap.size t := by
    rw [← hw3, ← HW2.out]
    exact one_at s t w1
  have hb3 : Below w1.heap.size w1 w3 := by
    rw [← hw3, ← HW2.out]
    exact ((Below.refl _ _).alloc (Nat.le_refl _) _).alloc (by simp) _
  rw [hz2]
  have B3 := Lib.hid (B1.out.trans (hb3.mono B1.out.size))
  have HO := Lib.hid hone
  have HG := Lib.hid hg
  clear hw3 hz2 hone hb3 hg HAL HW2
  have adv : ∀ (a b : World), Below w3.heap.size w3 a → Below a.heap.size a b → Below w3.heap.size w3 b := fun a b h1 h2 => h1.trans (h2.mono h1.size)
  have ADV := Lib.hid adv
  have hgx : ∀ (a : World), Below w3.heap.size w3 a → ErrT a := fun a h => HG.out.below (B3.out.trans (h.mono B3.out.size)) (Nat.le_refl _)
  have HGX := Lib.hid hgx
  clear adv hgx
  go_wp2_with fail
  refine (in_nil _ _).mono ?_; rintro e w4 ⟨rfl, rfl⟩
  go_wp2_with fail
  refine (code_nil _).mono ?_; rintro e w4 ⟨rfl, rfl⟩
  go_wp2_with fail
  refine (at_nil _).mono ?_; rintro e w4 ⟨rfl, hb4⟩
  have B4 := Lib.hid hb4
  clear hb4
  go_wp2_with fail
  refine (words_nil _).mono ?_; rintro e w5 ⟨rfl, hb5⟩
  have B5 := Lib.hid (ADV.out _ _ B4.out hb5)
  clear hb5
  go_wp2_with fail
  refine (is_nil _ _).mono ?_; rintro e w6 ⟨rfl, hb6⟩
  have B6 := Lib.hid (ADV.out _ _ B5.out hb6)
  clear hb6
  go_wp2_with fail
  refine (text_nil _).mono ?_; rintro e w7 ⟨rfl, hb7⟩
  have B7 := Lib.hid (ADV.out _ _ B6.out hb7)
  clear hb7
  go_wp2_with fail
  refine (first_none 0 (fun _ => .nilIface) _ _ (by omega) (Or.inl ⟨rfl, _, _, rfl⟩) (fun _ _ => rfl)).mono ?_; rintro e w8 ⟨rfl, rfl⟩
  go_wp2_with fail
  refine (first_none 2 (fun _ => .nilIface) _ _ (by omega) (Or.inr ⟨w8.heap.size, 0, 2, rfl, fun i hi => by
    match i, hi with
    | 0, _ => simp
    | 1, _ => simp⟩) (fun _ _ => rfl)).mono ?_; rintro e w9 ⟨rfl, hw9⟩
  have B9 : Hid (Below w3.heap.size w3 w9) := Lib.hid (by rw [hw9]; exact B7.out.alloc B7.out.size _)
  clear hw9
  have O9 := Lib.hid (HO.out.below B9.out (Nat.le_refl _))
  have K1 := Lib.hid (code_es w9 (HGX.out _ B9.out) O9.out)
  have K2 := Lib.hid (fun W (h : Below w9.heap.size w9 W) => at_es W ((HGX.out _ B9.out).below h (Nat.le_refl _)) (O9.out.below h (Nat.le_refl _)))
  have K3 := Lib.hid (fun W (h : Below w9.heap.size w9 W) => faultIs_es (-1) W (O9.out.below h (Nat.le_refl _)))
  have K4 := Lib.hid (fun W (h : Below w9.heap.size w9 W) => text_es W ((HGX.out _ B9.out).below h (Nat.le_refl _)) (by omega) (O9.out.below h (Nat.le_refl _)) (by have e : s.data.toList.length = s.size := Array.length_toList; simp only [lead, List.length_append, List.length_cons, List.length_nil, e]; omega))
  have K5 := Lib.hid (fun W (h : Below w9.heap.size w9 W) => words_es W ((HGX.out _ B9.out).below h (Nat.le_refl _)) (by omega) (zero_at (O9.out.below h (Nat.le_refl _))))
  have htx : Hid ((⟨(lead (fun _ => s) 1 ++ t.data.toList).toArray⟩ : ByteArray) = (s ++ ⟨#[58, 32]⟩) ++ t) := Lib.hid (by apply ByteArray.ext; simp [lead])
  obtain ⟨tx, htx2⟩ : ∃ tx : ByteArray, (⟨(lead (fun _ => s) 1 ++ t.data.toList).toArray⟩ : ByteArray) = tx := ⟨_, rfl⟩
  rw [htx2] at htx K4
  have HTX := htx
  have hq1 : ¬ 9223372036854775807 < s.size + 2 := by omega
  have hq2 : ¬ 9223372036854775807 < s.size + 2 + t.size := by omega
  clear htx htx2
  go_wp2_with fail
  refine K1.out.mono ?_; rintro e w10 ⟨rfl, hb10⟩
  have B10 := Lib.hid hb10
  clear hb10
  go_wp2_with fail
  refine (K2.out _ B10.out).mono ?_; rintro e w11 ⟨rfl, hb11⟩
  have B11 := Lib.hid (B10.out.trans (hb11.mono B10.out.size))
  clear hb11
  go_wp2_with fail
  refine (K3.out _ B11.out).mono ?_; rintro e w12 ⟨rfl, hb12⟩
  have B12 := Lib.hid (B11.out.trans (hb12.mono B11.out.size))
  clear hb12
  go_wp2_with fail
  refine (K4.out _ B12.out).mono ?_; rintro e w13 ⟨rfl, hb13⟩
  have B13 := Lib.hid (B12.out.trans (hb13.mono B12.out.size))
  clear hb13
  rw [HTX.out]
  go_wp2_with fail
  refine (K5.out _ B13.out).mono ?_; rintro e w14 ⟨v14, rfl, hv14, hb14⟩
  have B14 := Lib.hid (B13.out.trans (hb14.mono B13.out.size))
  obtain ⟨ao, cap, rfl⟩ := hv14.form
  clear hb14 hv14
  go_wp2_with fail
  go_ret
  exact ⟨rfl, B3.out.trans ((ADV.out _ _ B9.out B14.out).mono B3.out.size)⟩
theorem nil_long (s t : ByteArray) (w : World) (hg : ErrT w) (hs : 200 < s.size ∨ 200 < t.size) :
    Calls Tryd.prog 4 #[.string s, .string t] w fun e w' => e = .returned (.bool true) ∧ Below w.heap.size w w' := by
  have HAL := Lib.hid (alive_ok w hg)
  by_cases h1 : 200 < s.size
  · have d1 : decide (200 < (s.size : Int)) = true := decide_eq_true (by omega)
    go_enter Tryd.func4, Tryd.ntmps4
    go_wp2_with fail
    refine HAL.out.mono ?_; rintro e w1 ⟨rfl, hb1⟩
    go_wp2
    go_ret
    exact ⟨rfl, hb1⟩
  · have d1 : decide (200 < (s.size : Int)) = false := decide_eq_false (by omega)
    have d2 : decide (200 < (t.size : Int)) = true := decide_eq_true (by omega)
    go_enter Tryd.func4, Tryd.ntmps4
    go_wp2_with fail
    refine HAL.out.mono ?_; rintro e w1 ⟨rfl, hb1⟩
    go_wp2
    go_ret
    exact ⟨rfl, hb1⟩
end Go.Proofs.YtoekepfppagbdaaDoor
