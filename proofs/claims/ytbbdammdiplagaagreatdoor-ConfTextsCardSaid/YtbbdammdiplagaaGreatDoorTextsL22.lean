/- ConfTexts: the law's walk. Written by gen_textsl22.py. -/
import Derived.Test.YtbbdammdiplagaaGreatDoorConc22
import Derived.Test.YtbbdammdiplagaaGreatDoorRefZ22
import Derived.Test.YtbbdammdiplagaaGreatDoorParsesL22
import Derived.Laws.Slices
namespace Go.Proofs.YtbbdammdiplagaaGreatDoor
open Go.RowKit

theorem prog_from (A : Option Addr) (n c : Nat) (x : Int) (h0 : 0 ≤ x) (h1 : x ≤ n) (W : World) : (Instr.slice 27 (.slice A n c) (some (.int .i64 x)) none none).run Tryz.prog W = .ok (.slice (if c = x.toNat then A else A.map (·.add (x.toNat * 2))) (n - x.toNat) (c - x.toNat)) W := by
  rw [run_slice_l (P := Tryz.prog) W 27 A n c (by kernel_rfl) .i64 x h0 h1]
  have e : Tryz.prog.elem 27 = 44 := by kernel_rfl
  rw [e]
  simp [go_sem, sliced]
/-- What stands behind the job's own test. -/
theorem prog_tail {w : World} {A : Option Addr} {c : Nat} {kd : Int} {O : List (Int × Int)} (h : EdgesV w (.slice A (progK kd O).length c) (progK kd O)) (hc : kd = 2 → (progK kd O).length ≤ c) (x : Int) (hx : x = ((progK kd O).length : Int) - O.length) :
    ∃ A' c', (∀ W, (Instr.slice 27 (.slice A (progK kd O).length c) (some (.int .i64 x)) none none).run Tryz.prog W = .ok (.slice A' O.length c') W) ∧ EdgesV w (.slice A' O.length c') O := by
  by_cases hk : kd = 2
  · have hp : progK kd O = (1, 0) :: O := if_pos hk
    have hc := hc hk
    rw [hp, List.length_cons] at h hx hc ⊢
    obtain rfl : x = 1 := by omega
    rcases h with ⟨h, _⟩ | ⟨_, b, off, cap, e, hcell⟩
    · cases h
    · injection e with e1 e2 e3
      subst e1 e3
      by_cases h1 : c = 1
      · subst h1
        have h0 : O = [] := List.eq_nil_of_length_eq_zero (by omega)
        subst h0
        exact ⟨_, _, fun W => prog_from _ _ _ 1 (by decide) (by simp) W, Or.inl ⟨rfl, _, _, rfl⟩⟩
      · refine ⟨some ⟨b, off + 2, none⟩, c - 1, fun W => ?_, ?_⟩
        · rw [prog_from _ _ _ 1 (by decide) (by omega) W, if_neg (show ¬ c = (1 : Int).toNat from h1)]
          rfl
        · by_cases h0 : O = []
          · subst h0
            exact Or.inl ⟨rfl, _, _, rfl⟩
          · refine Or.inr ⟨List.length_pos_iff.2 h0, b, off + 2, c - 1, rfl, fun i hi => ?_⟩
            have h := hcell (i + 1) (by rw [List.length_cons]; omega)
            rw [show off + 2 + i * 2 = off + (i + 1) * 2 by omega]
            exact h
  · have hp : progK kd O = O := if_neg hk
    rw [hp] at h hx ⊢
    obtain rfl : x = 0 := by omega
    refine ⟨A, c, fun W => ?_, h⟩
    rw [prog_from _ _ _ 0 (by decide) (by omega) W]
    have e : (A.map fun a : Addr => a.add ((0 : Int).toNat * 2)) = A := by cases A <;> rfl
    simp only [e, ite_self]
    rfl
theorem prog_first {w : World} {A : Option Addr} {c : Nat} {kd : Int} {O : List (Int × Int)} (hk : kd = 2) (h : EdgesV w (.slice A (progK kd O).length c) (progK kd O)) : ∃ b off, A = some ⟨b, off, none⟩ ∧ w.cell? ⟨b, off, none⟩ = some (.int .i64 1) := by
  subst hk
  obtain ⟨b, off, rfl, h0, _⟩ := h.pos (i := 0) (by simp [progK])
  exact ⟨b, off, rfl, by simpa [progK] using h0⟩
set_option maxRecDepth 100000 in
set_option maxHeartbeats 16000000 in
theorem textsBad_law (kd sz su wk cp : Int) (O : List (Int × Int)) (kv : Value) (w : World) (hg : GT w) (hk : EdgesV w kv O) (hl : O.length * 16 ≤ 140737488351232) (hr : rightKB ⟨⟨kd, sz, su, wk, cp⟩, O⟩ = false) :
    Calls Tryz.prog 3 #[.agg (cV ⟨kd, sz, su, wk, cp⟩ kv)] w fun e w' => e = .returned (.bool true) ∧ Below w.heap.size w w' := by
  obtain ⟨Ak, ck, rfl⟩ := hk.form
  have AL := Lib.hid (fun W (h : Below w.heap.size w W) => alive_ok W (hg.below h (Nat.le_refl _)))
  obtain ⟨q, hq⟩ : ∃ q, O.length = q := ⟨_, rfl⟩
  have HG := Lib.hid hg
  have HK := Lib.hid hk
  have HOF : Hid (∀ W, Below w.heap.size w W → Calls Tryz.prog 8 #[.agg (#[.int .i64 kd, .int .i64 sz, .int .i64 su, .int .i64 wk, .int .i64 cp, .slice Ak O.length ck])] W (OfTo22 ⟨kd, sz, su, wk, cp⟩ O W)) := Lib.hid (fun W h => of22_any kd sz su wk cp O _ W (hk.below h (Nat.le_refl _)) hl)
  have HRC : Hid (∀ W v, O.length ≤ 30 → EdgesV W v O → Calls Tryz.prog 9 #[.agg (#[.int .i64 kd, .int .i64 sz, .int .i64 su, .int .i64 wk, .int .i64 cp, v])] W (ErrTo (some (12, 0)) W)) := Lib.hid (fun W v h1 h => by
    have k := confRight_any ⟨⟨kd, sz, su, wk, cp⟩, O⟩ v W h (by show O.length ≤ _; omega)
    rw [rightC_no hr] at k
    exact k)
  have HRR : Hid (∀ W, O.length ≤ 30 → Below w.heap.size w W → Calls Tryz.prog 10 #[.agg (#[.int .i64 kd, .int .i64 sz, .int .i64 su, .int .i64 wk, .int .i64 cp, .slice Ak O.length ck])] W fun e w' => e = .returned (.bool false) ∧ Below W.heap.size W w') := Lib.hid (fun W h1 h => by
    have k := refRight22 kd sz su wk cp O _ W (hk.below h (Nat.le_refl _)) (by omega)
    rw [hr] at k
    exact k)
  rw [hq] at HOF HRC HRR hl ⊢
  have HQ := Lib.hid hq
  have hb1 : Below w.heap.size w (w.alloc (.cells (#[.int .i64 kd, .int .i64 sz, .int .i64 su, .int .i64 wk, .int .i64 cp, .slice Ak q ck]) 24)) := (Below.refl _ _).alloc (Nat.le_refl _) _
  have hx := Whole.new w 24 (#[.int .i64 kd, .int .i64 sz, .int .i64 su, .int .i64 wk, .int .i64 cp, .slice Ak q ck])
  obtain ⟨w1, hw1⟩ : ∃ W, w.alloc (.cells (#[.int .i64 kd, .int .i64 sz, .int .i64 su, .int .i64 wk, .int .i64 cp, .slice Ak q ck]) 24) = W := ⟨_, rfl⟩
  obtain ⟨xb, hxb⟩ : ∃ g, w.heap.size = g := ⟨_, rfl⟩
  rw [hw1] at hb1 hx
  rw [hxb] at hx
  have HB1 := Lib.hid hb1; have HX := Lib.hid hx; have HW1 := Lib.hid hw1; have HXB := Lib.hid hxb
  clear hq hr hl
  clear hb1 hx hw1 hxb hg hk
  unfold cV
  go_enter Tryz.func3, Tryz.ntmps3
  go_upto_region 1 with fail
  rw [HW1.out, HXB.out]
  go_wp2_with fail
  refine (AL.out _ HB1.out).mono ?_; rintro e w2 ⟨rfl, hb2⟩
  have hx2 := HX.out.below hb2 HX.out.lt
  have HX2 := Lib.hid hx2
  have HB2 := Lib.hid (HB1.out.trans (hb2.mono HB1.out.size))
  have HOF2 := Lib.hid (HOF.out w2 HB2.out)
  have x5 : w2.cell? ⟨xb, 5, none⟩ = some (.slice Ak q ck) := hx2.cell 5
  have x0 : w2.cell? ⟨xb, 0, none⟩ = some (.int .i64 kd) := hx2.cell 0
  have x1 : w2.cell? ⟨xb, 1, none⟩ = some (.int .i64 sz) := hx2.cell 1
  have x2 : w2.cell? ⟨xb, 2, none⟩ = some (.int .i64 su) := hx2.cell 2
  have x3 : w2.cell? ⟨xb, 3, none⟩ = some (.int .i64 wk) := hx2.cell 3
  have x4 : w2.cell? ⟨xb, 4, none⟩ = some (.int .i64 cp) := hx2.cell 4
  clear hb2 hx2
  by_cases h30 : 30 < q
  · have t1 : decide (30 < q) = true := decide_eq_true h30
    have t1' : decide ((30 : Int) < (q : Int)) = true := decide_eq_true (by omega)
    clear h30
    go_wp2_with fail
    go_ret
    exact ⟨rfl, HB2.out⟩
  have t1 : decide (30 < q) = false := decide_eq_false h30
  have t1' : decide ((30 : Int) < (q : Int)) = false := decide_eq_false (by omega)
  have HQ30 : Hid (q ≤ 30) := Lib.hid (by omega)
  clear h30
  go_wp2_with fail
  refine HOF2.out.mono ?_; rintro e w3 ⟨A2, c2, rfl, hown, hb3⟩
  rw [HQ.out] at hown ⊢
  obtain ⟨w4, hw4⟩ : ∃ W, w3.alloc (.cells (#[.int .i64 kd, .int .i64 sz, .int .i64 su, .int .i64 wk, .int .i64 cp, .slice A2 q c2]) 29) = W := ⟨_, rfl⟩
  have hb4 : Below w3.heap.size w3 w4 := by rw [← hw4]; exact (Below.refl _ _).alloc (Nat.le_refl _) _
  have hc4 := Whole.new w3 29 (#[.int .i64 kd, .int .i64 sz, .int .i64 su, .int .i64 wk, .int .i64 cp, .slice A2 q c2])
  rw [hw4] at hc4
  obtain ⟨cb, hcb⟩ : ∃ g, w3.heap.size = g := ⟨_, rfl⟩
  rw [hcb] at hc4
  have hb24 := hb3.trans (hb4.mono hb3.size)
  have HB4 := Lib.hid (HB2.out.trans (hb24.mono HB2.out.size))
  have HE4 := Lib.hid ((own_edges hown).below hb4 (Nat.le_refl _))
  have HX4 := Lib.hid (HX2.out.below hb24 HX2.out.lt)
  have HC4 := Lib.hid hc4; have HW4 := Lib.hid hw4; have HCB := Lib.hid hcb
  have HR4 := Lib.hid (HRC.out w4 (.slice A2 q c2) HQ30.out HE4.out)
  have c0 : w4.cell? ⟨cb, 0, none⟩ = some (.int .i64 kd) := hc4.cell 0
  have c1 : w4.cell? ⟨cb, 1, none⟩ = some (.int .i64 sz) := hc4.cell 1
  have c2' : w4.cell? ⟨cb, 2, none⟩ = some (.int .i64 su) := hc4.cell 2
  have c3 : w4.cell? ⟨cb, 3, none⟩ = some (.int .i64 wk) := hc4.cell 3
  have c4 : w4.cell? ⟨cb, 4, none⟩ = some (.int .i64 cp) := hc4.cell 4
  have c5 : w4.cell? ⟨cb, 5, none⟩ = some (.slice A2 q c2) := hc4.cell 5
  clear hown hb3 hw4 hb4 hc4 hcb hb24 x0 x1 x2 x3 x4 x5
  unfold cV
  go_upto_region 6 with fail
  rw [HW4.out, HCB.out]
  go_wp2_with fail
  refine HR4.out.mono ?_; rintro e w5 hto
  obtain ⟨fb, rfl, ⟨b, sx, hbe, hf⟩, hb5⟩ := hto.err rfl
  obtain rfl : fb = b := by
    have h := hbe
    injection h with _ h
    injection h with h
    injection h with h
    injection h
  have hb5' := HB4.out.trans (hb5.mono HB4.out.size)
  have hx5 := HX4.out.below hb5 HX4.out.lt
  have HRR5 := Lib.hid (HRR.out w5 HQ30.out hb5')
  have HF5 := Lib.hid hf; have HB5 := Lib.hid hb5'
  have x0 : w5.cell? ⟨xb, 0, none⟩ = some (.int .i64 kd) := hx5.cell 0
  have x1 : w5.cell? ⟨xb, 1, none⟩ = some (.int .i64 sz) := hx5.cell 1
  have x2 : w5.cell? ⟨xb, 2, none⟩ = some (.int .i64 su) := hx5.cell 2
  have x3 : w5.cell? ⟨xb, 3, none⟩ = some (.int .i64 wk) := hx5.cell 3
  have x4 : w5.cell? ⟨xb, 4, none⟩ = some (.int .i64 cp) := hx5.cell 4
  have x5 : w5.cell? ⟨xb, 5, none⟩ = some (.slice Ak q ck) := hx5.cell 5
  clear hto hbe hf hb5 hb5' hx5 c0 c1 c2' c3 c4 c5
  go_wp2_with fail
  refine HRR5.out.mono ?_; rintro e w6 ⟨rfl, hb6⟩
  have hb6' := HB5.out.trans (hb6.mono HB5.out.size)
  have HCD := Lib.hid (code_hit fb 12 w6 (HG.out.below hb6' (Nat.le_refl _)).et (by rw [(HF5.out.below hb6 HF5.out.lt).cell 0]; rfl))
  have HB6 := Lib.hid hb6'
  clear hb6 hb6' x0 x1 x2 x3 x4 x5
  go_wp2_with fail
  refine HCD.out.mono ?_; rintro e w7 ⟨rfl, hb7⟩
  have HB7 := Lib.hid (HB6.out.trans (hb7.mono HB6.out.size))
  clear hb7
  go_wp2_with fail
  go_ret
  exact ⟨rfl, HB7.out⟩
set_option maxRecDepth 100000 in
set_option maxHeartbeats 32000000 in
theorem textsGood_law (kd : Int) (k sz su wk cp : Nat) (hkk : ((k : Nat) : Int) = kd) (O : List (Int × Int)) (kv : Value) (w : World) (hg : GT w) (hk : EdgesV w kv O) (hr : rightKB ⟨⟨kd, sz, su, wk, cp⟩, O⟩ = true) (hkd : k = 1 ∨ k = 2 ∨ k = 3) (b1 : sz ≤ 8) (b2 : su ≤ 1000000) (b3 : wk ≤ 64) (b4 : cp ≤ 1000000) (b5 : O.length ≤ 15) (b6 : progF O = none) :
    Calls Tryz.prog 3 #[.agg (cV ⟨kd, sz, su, wk, cp⟩ kv)] w fun e w' => e = .returned (.bool true) ∧ Below w.heap.size w w' := by
  obtain ⟨Ak, ck, rfl⟩ := hk.form
  have AL := Lib.hid (fun W (h : Below w.heap.size w W) => alive_ok W (hg.below h (Nat.le_refl _)))
  have HG := Lib.hid hg
  have HK := Lib.hid hk
  have hkd' : kd = 1 ∨ kd = 2 ∨ kd = 3 := by omega
  have HOF : Hid (∀ W, Below w.heap.size w W → Calls Tryz.prog 8 #[.agg (#[.int .i64 kd, .int .i64 (sz : Nat), .int .i64 (su : Nat), .int .i64 (wk : Nat), .int .i64 (cp : Nat), .slice Ak O.length ck])] W (OfTo22 ⟨kd, sz, su, wk, cp⟩ O W)) := Lib.hid (fun W h => of22_any kd sz su wk cp O _ W (hk.below h (Nat.le_refl _)) (by omega))
  have HRC : Hid (∀ W v, EdgesV W v O → Calls Tryz.prog 9 #[.agg (#[.int .i64 kd, .int .i64 (sz : Nat), .int .i64 (su : Nat), .int .i64 (wk : Nat), .int .i64 (cp : Nat), v])] W (ErrTo none W)) := Lib.hid (fun W v h => by
    have k := confRight_any ⟨⟨kd, sz, su, wk, cp⟩, O⟩ v W h (by show O.length ≤ _; omega)
    rw [rightC_yes hr] at k
    exact k)
  have HRR : Hid (∀ W, Below w.heap.size w W → Calls Tryz.prog 10 #[.agg (#[.int .i64 kd, .int .i64 (sz : Nat), .int .i64 (su : Nat), .int .i64 (wk : Nat), .int .i64 (cp : Nat), .slice Ak O.length ck])] W fun e w' => e = .returned (.bool true) ∧ Below W.heap.size W w') := Lib.hid (fun W h => by
    have k := refRight22 kd sz su wk cp O _ W (hk.below h (Nat.le_refl _)) (by omega)
    rw [hr] at k
    exact k)
  obtain ⟨T, hT⟩ : ∃ T, str (confT ⟨⟨kd, sz, su, wk, cp⟩, O⟩) = T := ⟨_, rfl⟩
  have HTX : Hid (∀ W v, Below w.heap.size w W → EdgesV W v O → Calls Tryz.prog 12 #[.agg (#[.int .i64 kd, .int .i64 (sz : Nat), .int .i64 (su : Nat), .int .i64 (wk : Nat), .int .i64 (cp : Nat), v])] W fun e w' => e = .returned (.string T) ∧ Below W.heap.size W w') := Lib.hid (fun W v h he => by rw [← hT]; exact confText_any kd sz su wk cp O v W (hg.below h (Nat.le_refl _)) he hr hkd' b1 b2 b3 b4 b5 b6)
  have HRX : Hid (∀ W, Below w.heap.size w W → Calls Tryz.prog 15 #[.agg (#[.int .i64 kd, .int .i64 (sz : Nat), .int .i64 (su : Nat), .int .i64 (wk : Nat), .int .i64 (cp : Nat), .slice Ak O.length ck])] W fun e w' => e = .returned (.string T) ∧ Below W.heap.size W w') := Lib.hid (fun W h => by
    have k := refText22_any k sz su wk cp O _ W (hk.below h (Nat.le_refl _)) hkd b1 b2 b3 b4 b5 b6
    rw [hkk, hT] at k
    exact k)
  have HPX : Hid (∀ W, Below w.heap.size w W → Calls Tryz.prog 13 #[.string T] W fun e w' => Below W.heap.size W w' ∧ ∃ kv, e = .returned (.tuple #[.agg (#[.int .i64 kd, .int .i64 (sz : Nat), .int .i64 (su : Nat), .int .i64 (wk : Nat), .int .i64 (cp : Nat), kv]), .nilIface]) ∧ EdgesV w' kv O) := Lib.hid (fun W h => by
    rw [← hT]
    refine (confParseK_any _ (confT_len kd b1 b2 b3 b4 b5 b6) W (hg.below h (Nat.le_refl _))).mono ?_
    rintro e w' ⟨hb, ⟨i', hti, _⟩ | ⟨x, kv', hti, rfl, hkv'⟩⟩
    · rw [tell_text hr] at hti; cases hti
    · rw [tell_text hr] at hti
      injection hti with hti
      subst hti
      exact ⟨hb, kv', rfl, hkv'⟩)
  have HPG : Hid (∀ W v, EdgesV W v O → Calls Tryz.prog 14 #[.agg (#[.int .i64 kd, .int .i64 (sz : Nat), .int .i64 (su : Nat), .int .i64 (wk : Nat), .int .i64 (cp : Nat), v])] W fun e w' => ∃ A c, e = .returned (.slice A (progK kd O).length c) ∧ EdgesV w' (.slice A (progK kd O).length c) (progK kd O) ∧ (kd = 2 → (progK kd O).length ≤ c) ∧ Below W.heap.size W w') := Lib.hid (fun W v h => confProg_any kd sz su wk cp O v W h (by omega))
  have HSM : Hid (∀ W v v', Below w.heap.size w W → EdgesV W v O → EdgesV W v' O → Calls Tryz.prog 16 #[.agg (#[.int .i64 kd, .int .i64 (sz : Nat), .int .i64 (su : Nat), .int .i64 (wk : Nat), .int .i64 (cp : Nat), v]), .agg (#[.int .i64 kd, .int .i64 (sz : Nat), .int .i64 (su : Nat), .int .i64 (wk : Nat), .int .i64 (cp : Nat), v'])] W fun e w' => e = .returned (.bool true) ∧ Below W.heap.size W w') := Lib.hid (fun W v v' hb h1 h2 => same22_yes kd sz su wk cp O v v' W (hg.below hb (Nat.le_refl _)) h1 h2 b5 b6)
  have HED : Hid (∀ W v, Calls Tryz.prog 17 #[.agg (#[.int .i64 kd, .int .i64 (sz : Nat), .int .i64 (su : Nat), .int .i64 (wk : Nat), .int .i64 (cp : Nat), v])] W fun e w' => e = .returned (.bool (kd == 3)) ∧ Below W.heap.size W w') := Lib.hid (fun W v => edges_any22 kd sz su wk cp v W)
  obtain ⟨pt, hpt⟩ : ∃ T, str (progT O) = T := ⟨_, rfl⟩
  have hsm : ∀ o ∈ O, 0 ≤ o.2 ∧ o.2 < 1000000 := fun o ho => by have := wrongF_zero ((progF_none.1 b6).2 o ho); omega
  have HPT : Hid (∀ W v, Below w.heap.size w W → EdgesV W v O → Calls Tryz.prog 18 #[v] W fun e w' => e = .returned (.string pt) ∧ Below W.heap.size W w') := Lib.hid (fun W v h he => by rw [← hpt]; exact progText_any (hg.below h (Nat.le_refl _)) he (by omega) hsm)
  have HTAIL : Hid (∀ (w : World) (A : Option Addr) (c : Nat), EdgesV w (.slice A (progK kd O).length c) (progK kd O) → (kd = 2 → (progK kd O).length ≤ c) → ∀ (x : Int), x = ((progK kd O).length : Int) - O.length →
    ∃ A' c', (∀ W, (Instr.slice 27 (.slice A (progK kd O).length c) (some (.int .i64 x)) none none).run Tryz.prog W = .ok (.slice A' O.length c') W) ∧ EdgesV w (.slice A' O.length c') O) := Lib.hid (fun w A c h1 h2 x hx => prog_tail h1 h2 x hx)
  obtain ⟨q, hq⟩ : ∃ q, O.length = q := ⟨_, rfl⟩
  obtain ⟨m, hm⟩ : ∃ m, (progK kd O).length = m := ⟨_, rfl⟩
  have hmq : (kd = 2 → m = q + 1) ∧ (kd ≠ 2 → m = q) := ⟨fun h => by rw [← hm, ← hq]; subst h; rfl, fun h => by rw [← hm, ← hq]; unfold progK; rw [if_neg h]⟩
  have HMQ := Lib.hid hmq
  rw [hq] at HOF HRR HRX HTAIL b5 ⊢
  rw [hm] at HPG HTAIL
  have HQ := Lib.hid hq; have HM := Lib.hid hm
  have HQ15 := Lib.hid b5
  have hb1 : Below w.heap.size w (w.alloc (.cells (#[.int .i64 kd, .int .i64 (sz : Nat), .int .i64 (su : Nat), .int .i64 (wk : Nat), .int .i64 (cp : Nat), .slice Ak q ck]) 24)) := (Below.refl _ _).alloc (Nat.le_refl _) _
  have hx := Whole.new w 24 (#[.int .i64 kd, .int .i64 (sz : Nat), .int .i64 (su : Nat), .int .i64 (wk : Nat), .int .i64 (cp : Nat), .slice Ak q ck])
  obtain ⟨w1, hw1⟩ : ∃ W, w.alloc (.cells (#[.int .i64 kd, .int .i64 (sz : Nat), .int .i64 (su : Nat), .int .i64 (wk : Nat), .int .i64 (cp : Nat), .slice Ak q ck]) 24) = W := ⟨_, rfl⟩
  obtain ⟨xb, hxb⟩ : ∃ g, w.heap.size = g := ⟨_, rfl⟩
  rw [hw1] at hb1 hx
  rw [hxb] at hx
  have HB1 := Lib.hid hb1; have HX := Lib.hid hx; have HW1 := Lib.hid hw1; have HXB := Lib.hid hxb
  clear hq hr hkd hkd' hkk b1 b2 b3 b4 b5 b6 hT hpt hsm hm hmq
  clear hb1 hx hw1 hxb hg hk
  unfold cV
  go_enter Tryz.func3, Tryz.ntmps3
  go_upto_region 1 with fail
  rw [HW1.out, HXB.out]
  go_wp2_with fail
  refine (AL.out _ HB1.out).mono ?_; rintro e w2 ⟨rfl, hb2⟩
  have hx2 := HX.out.below hb2 HX.out.lt
  have HX2 := Lib.hid hx2
  have HB2 := Lib.hid (HB1.out.trans (hb2.mono HB1.out.size))
  have HOF2 := Lib.hid (HOF.out w2 HB2.out)
  have x0 : w2.cell? ⟨xb, 0, none⟩ = some (.int .i64 kd) := hx2.cell 0
  have x1 : w2.cell? ⟨xb, 1, none⟩ = some (.int .i64 (sz : Nat)) := hx2.cell 1
  have x2 : w2.cell? ⟨xb, 2, none⟩ = some (.int .i64 (su : Nat)) := hx2.cell 2
  have x3 : w2.cell? ⟨xb, 3, none⟩ = some (.int .i64 (wk : Nat)) := hx2.cell 3
  have x4 : w2.cell? ⟨xb, 4, none⟩ = some (.int .i64 (cp : Nat)) := hx2.cell 4
  have x5 : w2.cell? ⟨xb, 5, none⟩ = some (.slice Ak q ck) := hx2.cell 5
  clear hb2 hx2
  have t1 : decide (30 < q) = false := decide_eq_false (by have := HQ15.out; omega)
  have t1' : decide ((30 : Int) < (q : Int)) = false := decide_eq_false (by have := HQ15.out; omega)
  go_wp2_with fail
  refine HOF2.out.mono ?_; rintro e w3 ⟨A2, c2, rfl, hown, hb3⟩
  rw [HQ.out] at hown ⊢
  obtain ⟨w4, hw4⟩ : ∃ W, w3.alloc (.cells (#[.int .i64 kd, .int .i64 (sz : Nat), .int .i64 (su : Nat), .int .i64 (wk : Nat), .int .i64 (cp : Nat), .slice A2 q c2]) 29) = W := ⟨_, rfl⟩
  have hbw4 : Below w3.heap.size w3 w4 := by rw [← hw4]; exact (Below.refl _ _).alloc (Nat.le_refl _) _
  have hcw4 := Whole.new w3 29 (#[.int .i64 kd, .int .i64 (sz : Nat), .int .i64 (su : Nat), .int .i64 (wk : Nat), .int .i64 (cp : Nat), .slice A2 q c2])
  rw [hw4] at hcw4
  obtain ⟨cb, hcb⟩ : ∃ g, w3.heap.size = g := ⟨_, rfl⟩
  rw [hcb] at hcw4
  have HWw4 := Lib.hid hw4; have HHcb := Lib.hid hcb
  have hb24 := hb3.trans (hbw4.mono hb3.size)
  have HB4 := Lib.hid (HB2.out.trans (hb24.mono HB2.out.size))
  have HE4 := Lib.hid ((own_edges hown).below hbw4 (Nat.le_refl _))
  have HX4 := Lib.hid (HX2.out.below hb24 HX2.out.lt)
  have HC4 := Lib.hid hcw4
  have HR4 := Lib.hid (HRC.out w4 (.slice A2 q c2) HE4.out)
  have c0 : w4.cell? ⟨cb, 0, none⟩ = some (.int .i64 kd) := hcw4.cell 0
  have c1 : w4.cell? ⟨cb, 1, none⟩ = some (.int .i64 (sz : Nat)) := hcw4.cell 1
  have c2' : w4.cell? ⟨cb, 2, none⟩ = some (.int .i64 (su : Nat)) := hcw4.cell 2
  have c3 : w4.cell? ⟨cb, 3, none⟩ = some (.int .i64 (wk : Nat)) := hcw4.cell 3
  have c4 : w4.cell? ⟨cb, 4, none⟩ = some (.int .i64 (cp : Nat)) := hcw4.cell 4
  have c5 : w4.cell? ⟨cb, 5, none⟩ = some (.slice A2 q c2) := hcw4.cell 5
  clear hown hb3 hw4 hbw4 hcw4 hcb hb24 x0 x1 x2 x3 x4 x5
  unfold cV
  go_upto_region 6 with fail
  rw [HWw4.out, HHcb.out]
  go_wp2_with fail
  refine HR4.out.mono ?_; rintro e w5 hto
  obtain ⟨rfl, hb5⟩ := hto.nil rfl
  have hx5 := HX4.out.below hb5 HX4.out.lt
  have hc5 := HC4.out.below hb5 HC4.out.lt
  have HX5 := Lib.hid hx5; have HC5 := Lib.hid hc5
  have HE5 := Lib.hid (HE4.out.below hb5 (Nat.le_refl _))
  have HB5 := Lib.hid (HB4.out.trans (hb5.mono HB4.out.size))
  have HRR5 := Lib.hid (HRR.out w5 HB5.out)
  clear c0 c1 c2' c3 c4 c5
  have x0 : w5.cell? ⟨xb, 0, none⟩ = some (.int .i64 kd) := hx5.cell 0
  have x1 : w5.cell? ⟨xb, 1, none⟩ = some (.int .i64 (sz : Nat)) := hx5.cell 1
  have x2 : w5.cell? ⟨xb, 2, none⟩ = some (.int .i64 (su : Nat)) := hx5.cell 2
  have x3 : w5.cell? ⟨xb, 3, none⟩ = some (.int .i64 (wk : Nat)) := hx5.cell 3
  have x4 : w5.cell? ⟨xb, 4, none⟩ = some (.int .i64 (cp : Nat)) := hx5.cell 4
  have x5 : w5.cell? ⟨xb, 5, none⟩ = some (.slice Ak q ck) := hx5.cell 5
  clear hto hb5 hx5 hc5
  go_wp2_with fail
  refine HRR5.out.mono ?_; rintro e w6 ⟨rfl, hb6⟩
  have hc6 := HC5.out.below hb6 HC5.out.lt
  have HX6 := Lib.hid (HX5.out.below hb6 HX5.out.lt); have HC6 := Lib.hid hc6
  have HE6 := Lib.hid (HE5.out.below hb6 (Nat.le_refl _))
  have HB6 := Lib.hid (HB5.out.trans (hb6.mono HB5.out.size))
  have HT6 := Lib.hid (HTX.out w6 (.slice A2 q c2) HB6.out HE6.out)
  clear x0 x1 x2 x3 x4 x5
  have c0 : w6.cell? ⟨cb, 0, none⟩ = some (.int .i64 kd) := hc6.cell 0
  have c1 : w6.cell? ⟨cb, 1, none⟩ = some (.int .i64 (sz : Nat)) := hc6.cell 1
  have c2' : w6.cell? ⟨cb, 2, none⟩ = some (.int .i64 (su : Nat)) := hc6.cell 2
  have c3 : w6.cell? ⟨cb, 3, none⟩ = some (.int .i64 (wk : Nat)) := hc6.cell 3
  have c4 : w6.cell? ⟨cb, 4, none⟩ = some (.int .i64 (cp : Nat)) := hc6.cell 4
  have c5 : w6.cell? ⟨cb, 5, none⟩ = some (.slice A2 q c2) := hc6.cell 5
  clear hb6 hc6
  go_wp2_with fail
  refine HT6.out.mono ?_; rintro e w7 ⟨rfl, hb7⟩
  have HX7 := Lib.hid (HX6.out.below hb7 HX6.out.lt); have HC7 := Lib.hid (HC6.out.below hb7 HC6.out.lt)
  have HE7 := Lib.hid (HE6.out.below hb7 (Nat.le_refl _))
  have HB7 := Lib.hid (HB6.out.trans (hb7.mono HB6.out.size))
  have HP7 := Lib.hid (HPX.out w7 HB7.out)
  clear hb7 c0 c1 c2' c3 c4 c5
  go_wp2_with fail
  refine HP7.out.mono ?_; rintro e w8 ⟨hb8, kv3, rfl, hkv3⟩
  obtain ⟨A3, c3, rfl⟩ := hkv3.form
  rw [HQ.out] at hkv3 ⊢
  obtain ⟨w9, hw9⟩ : ∃ W, w8.alloc (.cells (#[.int .i64 kd, .int .i64 (sz : Nat), .int .i64 (su : Nat), .int .i64 (wk : Nat), .int .i64 (cp : Nat), .slice A3 q c3]) 29) = W := ⟨_, rfl⟩
  have hbw9 : Below w8.heap.size w8 w9 := by rw [← hw9]; exact (Below.refl _ _).alloc (Nat.le_refl _) _
  have hcw9 := Whole.new w8 29 (#[.int .i64 kd, .int .i64 (sz : Nat), .int .i64 (su : Nat), .int .i64 (wk : Nat), .int .i64 (cp : Nat), .slice A3 q c3])
  rw [hw9] at hcw9
  obtain ⟨db, hdb⟩ : ∃ g, w8.heap.size = g := ⟨_, rfl⟩
  rw [hdb] at hcw9
  have HWw9 := Lib.hid hw9; have HHdb := Lib.hid hdb
  have hb79 := hb8.trans (hbw9.mono hb8.size)
  have hc9 := HC7.out.below hb79 HC7.out.lt
  have HX9 := Lib.hid (HX7.out.below hb79 HX7.out.lt); have HC9 := Lib.hid hc9; have HD9 := Lib.hid hcw9
  have HE9 := Lib.hid (HE7.out.below hb79 (Nat.le_refl _))
  have HF9 := Lib.hid (hkv3.below hbw9 (Nat.le_refl _))
  have HB9 := Lib.hid (HB7.out.trans (hb79.mono HB7.out.size))
  have HP9 := Lib.hid (HPG.out w9 (.slice A2 q c2) HE9.out)
  have c0 : w9.cell? ⟨cb, 0, none⟩ = some (.int .i64 kd) := hc9.cell 0
  have c1 : w9.cell? ⟨cb, 1, none⟩ = some (.int .i64 (sz : Nat)) := hc9.cell 1
  have c2' : w9.cell? ⟨cb, 2, none⟩ = some (.int .i64 (su : Nat)) := hc9.cell 2
  have c3' : w9.cell? ⟨cb, 3, none⟩ = some (.int .i64 (wk : Nat)) := hc9.cell 3
  have c4 : w9.cell? ⟨cb, 4, none⟩ = some (.int .i64 (cp : Nat)) := hc9.cell 4
  have c5 : w9.cell? ⟨cb, 5, none⟩ = some (.slice A2 q c2) := hc9.cell 5
  clear hb8 hkv3 hw9 hbw9 hcw9 hdb hb79 hc9
  go_upto_region 11 with fail
  rw [HWw9.out, HHdb.out]
  go_wp2_with fail
  refine HP9.out.mono ?_; rintro e wf ⟨Ap, cq, rfl, hep, hcap, hbf⟩
  have hxf := HX9.out.below hbf HX9.out.lt
  have HXF := Lib.hid hxf; have HCF := Lib.hid (HC9.out.below hbf HC9.out.lt); have HDF := Lib.hid (HD9.out.below hbf HD9.out.lt)
  have HEF := Lib.hid (HE9.out.below hbf (Nat.le_refl _)); have HFF := Lib.hid (HF9.out.below hbf (Nat.le_refl _))
  have HBF := Lib.hid (HB9.out.trans (hbf.mono HB9.out.size))
  clear c0 c1 c2' c3' c4 c5 hbf
  obtain ⟨At, ct, hsl, htl⟩ := HTAIL.out wf Ap cq (by have h := hep; rw [← HM.out]; rw [← HM.out] at h; exact h) hcap ((m : Int) - q) rfl
  have HTL := Lib.hid htl; have HSL := Lib.hid hsl
  have HCA : Hid (∀ W, Below wf.heap.size wf W → Calls Tryz.prog 15 #[.agg (#[.int .i64 kd, .int .i64 (sz : Nat), .int .i64 (su : Nat), .int .i64 (wk : Nat), .int .i64 (cp : Nat), .slice Ak q ck])] W fun e w' => e = .returned (.string T) ∧ Below wf.heap.size wf w') := Lib.hid (fun W h => (HRX.out W (HBF.out.trans (h.mono HBF.out.size))).mono fun e w' ⟨g1, g2⟩ => ⟨g1, h.trans (g2.mono h.size)⟩)
  have HCB' : Hid (∀ W, Below wf.heap.size wf W → Calls Tryz.prog 16 #[.agg (#[.int .i64 kd, .int .i64 (sz : Nat), .int .i64 (su : Nat), .int .i64 (wk : Nat), .int .i64 (cp : Nat), .slice A2 q c2]), .agg (#[.int .i64 kd, .int .i64 (sz : Nat), .int .i64 (su : Nat), .int .i64 (wk : Nat), .int .i64 (cp : Nat), .slice A3 q c3])] W fun e w' => e = .returned (.bool true) ∧ Below wf.heap.size wf w') := Lib.hid (fun W h => (HSM.out W _ _ (HBF.out.trans (h.mono HBF.out.size)) (HEF.out.below h (Nat.le_refl _)) (HFF.out.below h (Nat.le_refl _))).mono fun e w' ⟨g1, g2⟩ => ⟨g1, h.trans (g2.mono h.size)⟩)
  obtain ⟨z3, hz3⟩ : ∃ z, (kd == 3) = z := ⟨_, rfl⟩
  have HCC : Hid (∀ W, Below wf.heap.size wf W → Calls Tryz.prog 17 #[.agg (#[.int .i64 kd, .int .i64 (sz : Nat), .int .i64 (su : Nat), .int .i64 (wk : Nat), .int .i64 (cp : Nat), .slice A2 q c2])] W fun e w' => e = .returned (.bool z3) ∧ Below wf.heap.size wf w') := Lib.hid (fun W h => by rw [← hz3]; exact (HED.out W _).mono fun e w' ⟨g1, g2⟩ => ⟨g1, h.trans (g2.mono h.size)⟩)
  have HCD : Hid (∀ W, Below wf.heap.size wf W → Calls Tryz.prog 18 #[.slice At q ct] W fun e w' => e = .returned (.string pt) ∧ Below wf.heap.size wf w') := Lib.hid (fun W h => (HPT.out W _ (HBF.out.trans (h.mono HBF.out.size)) (HTL.out.below h (Nat.le_refl _))).mono fun e w' ⟨g1, g2⟩ => ⟨g1, h.trans (g2.mono h.size)⟩)
  have HCE : Hid (∀ W, Below wf.heap.size wf W → Calls Tryz.prog 18 #[.slice A2 q c2] W fun e w' => e = .returned (.string pt) ∧ Below wf.heap.size wf w') := Lib.hid (fun W h => (HPT.out W _ (HBF.out.trans (h.mono HBF.out.size)) (HEF.out.below h (Nat.le_refl _))).mono fun e w' ⟨g1, g2⟩ => ⟨g1, h.trans (g2.mono h.size)⟩)
  have HCB := HCB'
  have KX := Lib.hid (fun (W : World) (hb : Below wf.heap.size wf W) => (show W.cell? ⟨xb, 0, none⟩ = some (.int .i64 kd) ∧ W.cell? ⟨xb, 1, none⟩ = some (.int .i64 (sz : Nat)) ∧ W.cell? ⟨xb, 2, none⟩ = some (.int .i64 (su : Nat)) ∧ W.cell? ⟨xb, 3, none⟩ = some (.int .i64 (wk : Nat)) ∧ W.cell? ⟨xb, 4, none⟩ = some (.int .i64 (cp : Nat)) ∧ W.cell? ⟨xb, 5, none⟩ = some (.slice Ak q ck) ∧ W.cell? ⟨cb, 0, none⟩ = some (.int .i64 kd) ∧ W.cell? ⟨cb, 1, none⟩ = some (.int .i64 (sz : Nat)) ∧ W.cell? ⟨cb, 2, none⟩ = some (.int .i64 (su : Nat)) ∧ W.cell? ⟨cb, 3, none⟩ = some (.int .i64 (wk : Nat)) ∧ W.cell? ⟨cb, 4, none⟩ = some (.int .i64 (cp : Nat)) ∧ W.cell? ⟨cb, 5, none⟩ = some (.slice A2 q c2) ∧ W.cell? ⟨db, 0, none⟩ = some (.int .i64 kd) ∧ W.cell? ⟨db, 1, none⟩ = some (.int .i64 (sz : Nat)) ∧ W.cell? ⟨db, 2, none⟩ = some (.int .i64 (su : Nat)) ∧ W.cell? ⟨db, 3, none⟩ = some (.int .i64 (wk : Nat)) ∧ W.cell? ⟨db, 4, none⟩ = some (.int .i64 (cp : Nat)) ∧ W.cell? ⟨db, 5, none⟩ = some (.slice A3 q c3) from
    have h := HXF.out.below hb HXF.out.lt
    have k := HCF.out.below hb HCF.out.lt
    have l := HDF.out.below hb HDF.out.lt
    ⟨h.cell 0, h.cell 1, h.cell 2, h.cell 3, h.cell 4, h.cell 5, k.cell 0, k.cell 1, k.cell 2, k.cell 3, k.cell 4, k.cell 5, l.cell 0, l.cell 1, l.cell 2, l.cell 3, l.cell 4, l.cell 5⟩))
  have te : (T.toList == T.toList) = true := by simp
  have tp : (pt.toList == pt.toList) = true := by simp
  have tz : (z3 == z3) = true := by simp
  have x0 : wf.cell? ⟨xb, 0, none⟩ = some (.int .i64 kd) := hxf.cell 0
  have x5 : wf.cell? ⟨xb, 5, none⟩ = some (.slice Ak q ck) := hxf.cell 5
  have HEP := Lib.hid hep
  clear htl hsl hxf hep hcap HCB'
  by_cases h2 : kd = 2
  · have t2 : (kd == 2) = true := by simpa using h2
    have t2' : (kd != 2) = false := by simpa using h2
    obtain rfl := HMQ.out.1 h2
    obtain ⟨pb, po, rfl, hpc⟩ := prog_first (O := O) h2 (by have h := HEP.out; rw [← HM.out] at h; exact h)
    have hpl := World.block_lt_of_cell? _ _ hpc
    have KS := Lib.hid (fun (W : World) (hb : Below wf.heap.size wf W) => (show W.cell? ⟨xb, 0, none⟩ = some (.int .i64 kd) ∧ W.cell? ⟨xb, 1, none⟩ = some (.int .i64 (sz : Nat)) ∧ W.cell? ⟨xb, 2, none⟩ = some (.int .i64 (su : Nat)) ∧ W.cell? ⟨xb, 3, none⟩ = some (.int .i64 (wk : Nat)) ∧ W.cell? ⟨xb, 4, none⟩ = some (.int .i64 (cp : Nat)) ∧ W.cell? ⟨xb, 5, none⟩ = some (.slice Ak q ck) ∧ W.cell? ⟨cb, 0, none⟩ = some (.int .i64 kd) ∧ W.cell? ⟨cb, 1, none⟩ = some (.int .i64 (sz : Nat)) ∧ W.cell? ⟨cb, 2, none⟩ = some (.int .i64 (su : Nat)) ∧ W.cell? ⟨cb, 3, none⟩ = some (.int .i64 (wk : Nat)) ∧ W.cell? ⟨cb, 4, none⟩ = some (.int .i64 (cp : Nat)) ∧ W.cell? ⟨cb, 5, none⟩ = some (.slice A2 q c2) ∧ W.cell? ⟨db, 0, none⟩ = some (.int .i64 kd) ∧ W.cell? ⟨db, 1, none⟩ = some (.int .i64 (sz : Nat)) ∧ W.cell? ⟨db, 2, none⟩ = some (.int .i64 (su : Nat)) ∧ W.cell? ⟨db, 3, none⟩ = some (.int .i64 (wk : Nat)) ∧ W.cell? ⟨db, 4, none⟩ = some (.int .i64 (cp : Nat)) ∧ W.cell? ⟨db, 5, none⟩ = some (.slice A3 q c3) ∧ W.cell? ⟨pb, po, none⟩ = some (.int .i64 1) from
      have h := KX.out W hb
      ⟨h.1, h.2.1, h.2.2.1, h.2.2.2.1, h.2.2.2.2.1, h.2.2.2.2.2.1, h.2.2.2.2.2.2.1, h.2.2.2.2.2.2.2.1, h.2.2.2.2.2.2.2.2.1, h.2.2.2.2.2.2.2.2.2.1, h.2.2.2.2.2.2.2.2.2.2.1, h.2.2.2.2.2.2.2.2.2.2.2.1, h.2.2.2.2.2.2.2.2.2.2.2.2.1, h.2.2.2.2.2.2.2.2.2.2.2.2.2.1, h.2.2.2.2.2.2.2.2.2.2.2.2.2.2.1, h.2.2.2.2.2.2.2.2.2.2.2.2.2.2.2.1, h.2.2.2.2.2.2.2.2.2.2.2.2.2.2.2.2.1, h.2.2.2.2.2.2.2.2.2.2.2.2.2.2.2.2.2, (hb.cell (p := ⟨pb, po, none⟩) hpl).trans hpc⟩))
    have hsl : ∀ W, (Instr.slice 27 (.slice (some ⟨pb, po, none⟩) (q + 1) cq) (some (.int .i64 1)) none none).run Tryz.prog W = .ok (.slice At q ct) W := fun W => by
      have h := HSL.out W
      rw [show (((q + 1 : Nat) : Int)) - q = 1 by omega] at h
      exact h
    have hws : IntKind.i64.wrap ((q : Int) + 1 - q) = 1 := by rw [show (q : Int) + 1 - q = 1 by omega]; decide
    have hw1 : IntKind.i64.wrap 1 = 1 := by decide
    have q15 := HQ15.out
    have tq : ((q : Int) + 1 == (q : Int) + 1) = true := by simp
    have tq' : (q + 1 == q + 1) = true := by simp
    have k0 : (0 : Int) < (q : Int) + 1 := by omega
    have hwa : IntKind.i64.wrap ((q : Int) + 1) = (q : Int) + 1 := by rw [IntKind.wrap_i64]; omega
    clear hpc hpl KX h2
    go_upto_region 15 with fail
    clear x0 x5
    refine wp_region_held_drew (S := fun W => W.cell? ⟨xb, 0, none⟩ = some (.int .i64 kd) ∧ W.cell? ⟨xb, 1, none⟩ = some (.int .i64 (sz : Nat)) ∧ W.cell? ⟨xb, 2, none⟩ = some (.int .i64 (su : Nat)) ∧ W.cell? ⟨xb, 3, none⟩ = some (.int .i64 (wk : Nat)) ∧ W.cell? ⟨xb, 4, none⟩ = some (.int .i64 (cp : Nat)) ∧ W.cell? ⟨xb, 5, none⟩ = some (.slice Ak q ck) ∧ W.cell? ⟨cb, 0, none⟩ = some (.int .i64 kd) ∧ W.cell? ⟨cb, 1, none⟩ = some (.int .i64 (sz : Nat)) ∧ W.cell? ⟨cb, 2, none⟩ = some (.int .i64 (su : Nat)) ∧ W.cell? ⟨cb, 3, none⟩ = some (.int .i64 (wk : Nat)) ∧ W.cell? ⟨cb, 4, none⟩ = some (.int .i64 (cp : Nat)) ∧ W.cell? ⟨cb, 5, none⟩ = some (.slice A2 q c2) ∧ W.cell? ⟨db, 0, none⟩ = some (.int .i64 kd) ∧ W.cell? ⟨db, 1, none⟩ = some (.int .i64 (sz : Nat)) ∧ W.cell? ⟨db, 2, none⟩ = some (.int .i64 (su : Nat)) ∧ W.cell? ⟨db, 3, none⟩ = some (.int .i64 (wk : Nat)) ∧ W.cell? ⟨db, 4, none⟩ = some (.int .i64 (cp : Nat)) ∧ W.cell? ⟨db, 5, none⟩ = some (.slice A3 q c3) ∧ W.cell? ⟨pb, po, none⟩ = some (.int .i64 1)) (by kernel_rfl) ?_ (fun hHeld => ?_)
    · (try dsimp only); exact KS.out _ (below_drewN' (Below.refl _ _) 1)
    refine wpAnyH_take (i := 0) (oi := ({ dst := some 43, op := Op.move (Operand.tmp 4), type := 32, pos := "law.go:50", after := #[], guard := none } : Oper)) (v := ?vg1) rfl (by kernel_rfl) (by kernel_rfl) (by kernel_rfl) (fun _ _ _ h => h) (Or.inl ⟨by rfl, ?hyg1⟩) (by assumption) ?restg1
    case hyg1 => intro w hSw; (try dsimp only at hSw); go_simp; all_goals (with_reducible rfl)
    try simp only [Act.put, List.setIfInBounds_toArray, List.set_cons_zero, List.set_cons_succ]
    refine wpAnyH_take (i := 1) (oi := ({ dst := some 44, op := Op.binOp BinOp.eql 32 (Operand.tmp 43) (Operand.const Value.nilIface) 32, type := 4, pos := "law.go:50", after := #[{ on := 0, ground := Ground.data }], guard := none } : Oper)) (v := ?vg2) rfl (by kernel_rfl) (by kernel_rfl) (by kernel_rfl) (fun _ _ _ h => h) (Or.inl ⟨by rfl, ?hyg2⟩) (by assumption) ?restg2
    case hyg2 => intro w hSw; (try dsimp only at hSw); go_simp; all_goals (with_reducible rfl)
    try simp only [Act.put, List.setIfInBounds_toArray, List.set_cons_zero, List.set_cons_succ]
    refine wpAnyH_take (i := 2) (oi := ({ dst := some 45, op := Op.move (Operand.tmp 44), type := 4, pos := "law.go:50", after := #[{ on := 1, ground := Ground.data }], guard := none } : Oper)) (v := ?vg3) rfl (by kernel_rfl) (by kernel_rfl) (by kernel_rfl) (fun _ _ _ h => h) (Or.inl ⟨by rfl, ?hyg3⟩) (by assumption) ?restg3
    case hyg3 => intro w hSw; (try dsimp only at hSw); go_simp; all_goals (with_reducible rfl)
    try simp only [Act.put, List.setIfInBounds_toArray, List.set_cons_zero, List.set_cons_succ]
    refine wpAnyH_take (i := 3) (oi := ({ dst := some 46, op := Op.move (Operand.tmp 7), type := 32, pos := "law.go:50", after := #[{ on := 2, ground := Ground.guard }], guard := some (2, true) } : Oper)) (v := ?vg4) rfl (by kernel_rfl) (by kernel_rfl) (by kernel_rfl) (fun _ _ _ h => h) (Or.inl ⟨by rfl, ?hyg4⟩) (by assumption) ?restg4
    case hyg4 => intro w hSw; (try dsimp only at hSw); go_simp; all_goals (with_reducible rfl)
    try simp only [Act.put, List.setIfInBounds_toArray, List.set_cons_zero, List.set_cons_succ]
    refine wpAnyH_take (i := 4) (oi := ({ dst := some 47, op := Op.binOp BinOp.eql 32 (Operand.tmp 46) (Operand.const Value.nilIface) 32, type := 4, pos := "law.go:50", after := #[{ on := 3, ground := Ground.data }, { on := 2, ground := Ground.guard }], guard := some (2, true) } : Oper)) (v := ?vg5) rfl (by kernel_rfl) (by kernel_rfl) (by kernel_rfl) (fun _ _ _ h => h) (Or.inl ⟨by rfl, ?hyg5⟩) (by assumption) ?restg5
    case hyg5 => intro w hSw; (try dsimp only at hSw); go_simp; all_goals (with_reducible rfl)
    try simp only [Act.put, List.setIfInBounds_toArray, List.set_cons_zero, List.set_cons_succ]
    refine wpAnyH_take (i := 5) (oi := ({ dst := some 48, op := Op.pick (Operand.tmp 45) (Operand.tmp 47) (Operand.const (Value.bool false)), type := 4, pos := "law.go:50", after := #[{ on := 2, ground := Ground.data }, { on := 4, ground := Ground.data }], guard := none } : Oper)) (v := ?vg6) rfl (by kernel_rfl) (by kernel_rfl) (by kernel_rfl) (fun _ _ _ h => h) (Or.inl ⟨by rfl, ?hyg6⟩) (by assumption) ?restg6
    case hyg6 => intro w hSw; (try dsimp only at hSw); go_simp; all_goals (with_reducible rfl)
    try simp only [Act.put, List.setIfInBounds_toArray, List.set_cons_zero, List.set_cons_succ]
    refine wpAnyH_take (i := 6) (oi := ({ dst := some 49, op := Op.move (Operand.tmp 48), type := 4, pos := "law.go:50", after := #[{ on := 5, ground := Ground.data }, { on := 2, ground := Ground.chain }], guard := none } : Oper)) (v := ?vg7) rfl (by kernel_rfl) (by kernel_rfl) (by kernel_rfl) (fun _ _ _ h => h) (Or.inl ⟨by rfl, ?hyg7⟩) (by assumption) ?restg7
    case hyg7 => intro w hSw; (try dsimp only at hSw); go_simp; all_goals (with_reducible rfl)
    try simp only [Act.put, List.setIfInBounds_toArray, List.set_cons_zero, List.set_cons_succ]
    refine wpAnyH_take (i := 7) (oi := ({ dst := some 50, op := Op.move (Operand.tmp 5), type := 9, pos := "law.go:50", after := #[{ on := 6, ground := Ground.guard }], guard := some (6, true) } : Oper)) (v := ?vg8) rfl (by kernel_rfl) (by kernel_rfl) (by kernel_rfl) (fun _ _ _ h => h) (Or.inl ⟨by rfl, ?hyg8⟩) (by assumption) ?restg8
    case hyg8 => intro w hSw; (try dsimp only at hSw); go_simp; all_goals (with_reducible rfl)
    try simp only [Act.put, List.setIfInBounds_toArray, List.set_cons_zero, List.set_cons_succ]
    refine wpAnyH_take (i := 8) (oi := ({ dst := some 51, op := Op.load 24 (Operand.tmp 1), type := 24, pos := "law.go:50", after := #[{ on := 6, ground := Ground.guard }], guard := some (6, true) } : Oper)) (v := ?vg9) rfl (by kernel_rfl) (by kernel_rfl) (by kernel_rfl) (fun _ _ _ h => h) (Or.inl ⟨by rfl, ?hyg9⟩) (by assumption) ?restg9
    case hyg9 => intro w hSw; (try dsimp only at hSw); go_simp; all_goals (with_reducible rfl)
    try simp only [Act.put, List.setIfInBounds_toArray, List.set_cons_zero, List.set_cons_succ]
    refine wpAnyH_ready (rs := [9]) (by kernel_rfl) (by simp) ?_
    refine (AllReadyH.cons (o := ({ dst := some 52, op := Op.call { callee := Callee.value (Operand.func 15), args := #[Operand.tmp 51], argTypes := #[24] }, type := 9, pos := "law.go:50", after := #[{ on := 8, ground := Ground.data }, { on := 6, ground := Ground.chain }, { on := 6, ground := Ground.guard }], guard := some (6, true) } : Oper)) rfl (fun K hK => ?_) AllReadyH.nil)
    go_simp
    refine (HCA.out _ (below_drewN' (Below.refl wf.heap.size wf) 1)).mono ?_; rintro e' v1 ⟨rfl, hb1⟩
    refine hK.out _ _ ?_ (fun hHeld => ?_)
    · (try dsimp only); exact KS.out _ hb1
    clear hK K
    try simp only [Act.put, List.setIfInBounds_toArray, List.set_cons_zero, List.set_cons_succ]
    refine wpAnyH_take (i := 10) (oi := ({ dst := some 53, op := Op.binOp BinOp.eql 9 (Operand.tmp 50) (Operand.tmp 52) 9, type := 4, pos := "law.go:50", after := #[{ on := 7, ground := Ground.data }, { on := 9, ground := Ground.data }, { on := 6, ground := Ground.guard }], guard := some (6, true) } : Oper)) (v := ?vg10) rfl (by kernel_rfl) (by kernel_rfl) (by kernel_rfl) (fun _ _ _ h => h) (Or.inl ⟨by rfl, ?hyg10⟩) (by assumption) ?restg10
    case hyg10 => intro w hSw; (try dsimp only at hSw); go_simp; all_goals (with_reducible rfl)
    try simp only [Act.put, List.setIfInBounds_toArray, List.set_cons_zero, List.set_cons_succ]
    refine wpAnyH_take (i := 11) (oi := ({ dst := some 54, op := Op.pick (Operand.tmp 49) (Operand.tmp 53) (Operand.const (Value.bool false)), type := 4, pos := "law.go:50", after := #[{ on := 6, ground := Ground.data }, { on := 10, ground := Ground.data }], guard := none } : Oper)) (v := ?vg11) rfl (by kernel_rfl) (by kernel_rfl) (by kernel_rfl) (fun _ _ _ h => h) (Or.inl ⟨by rfl, ?hyg11⟩) (by assumption) ?restg11
    case hyg11 => intro w hSw; (try dsimp only at hSw); go_simp; all_goals (with_reducible rfl)
    try simp only [Act.put, List.setIfInBounds_toArray, List.set_cons_zero, List.set_cons_succ]
    refine wpAnyH_take (i := 12) (oi := ({ dst := some 55, op := Op.move (Operand.tmp 54), type := 4, pos := "law.go:50", after := #[{ on := 11, ground := Ground.data }, { on := 9, ground := Ground.chain }], guard := none } : Oper)) (v := ?vg12) rfl (by kernel_rfl) (by kernel_rfl) (by kernel_rfl) (fun _ _ _ h => h) (Or.inl ⟨by rfl, ?hyg12⟩) (by assumption) ?restg12
    case hyg12 => intro w hSw; (try dsimp only at hSw); go_simp; all_goals (with_reducible rfl)
    try simp only [Act.put, List.setIfInBounds_toArray, List.set_cons_zero, List.set_cons_succ]
    refine wpAnyH_take (i := 13) (oi := ({ dst := some 56, op := Op.load 29 (Operand.tmp 3), type := 29, pos := "law.go:50", after := #[{ on := 12, ground := Ground.guard }], guard := some (12, true) } : Oper)) (v := ?vg13) rfl (by kernel_rfl) (by kernel_rfl) (by kernel_rfl) (fun _ _ _ h => h) (Or.inl ⟨by rfl, ?hyg13⟩) (by assumption) ?restg13
    case hyg13 => intro w hSw; (try dsimp only at hSw); go_simp; all_goals (with_reducible rfl)
    try simp only [Act.put, List.setIfInBounds_toArray, List.set_cons_zero, List.set_cons_succ]
    refine wpAnyH_take (i := 14) (oi := ({ dst := some 57, op := Op.load 29 (Operand.tmp 6), type := 29, pos := "law.go:50", after := #[{ on := 12, ground := Ground.guard }], guard := some (12, true) } : Oper)) (v := ?vg14) rfl (by kernel_rfl) (by kernel_rfl) (by kernel_rfl) (fun _ _ _ h => h) (Or.inl ⟨by rfl, ?hyg14⟩) (by assumption) ?restg14
    case hyg14 => intro w hSw; (try dsimp only at hSw); go_simp; all_goals (with_reducible rfl)
    try simp only [Act.put, List.setIfInBounds_toArray, List.set_cons_zero, List.set_cons_succ]
    refine wpAnyH_ready (rs := [15]) (by kernel_rfl) (by simp) ?_
    refine (AllReadyH.cons (o := ({ dst := some 58, op := Op.call { callee := Callee.value (Operand.func 16), args := #[Operand.tmp 56, Operand.tmp 57], argTypes := #[29, 29] }, type := 4, pos := "law.go:50", after := #[{ on := 13, ground := Ground.data }, { on := 14, ground := Ground.data }, { on := 12, ground := Ground.chain }, { on := 12, ground := Ground.guard }], guard := some (12, true) } : Oper)) rfl (fun K hK => ?_) AllReadyH.nil)
    go_simp
    refine (HCB.out _ hb1).mono ?_; rintro e' v2 ⟨rfl, hb2⟩
    refine hK.out _ _ ?_ (fun hHeld => ?_)
    · (try dsimp only); exact KS.out _ hb2
    clear hK K
    try simp only [Act.put, List.setIfInBounds_toArray, List.set_cons_zero, List.set_cons_succ]
    refine wpAnyH_take (i := 16) (oi := ({ dst := some 59, op := Op.pick (Operand.tmp 55) (Operand.tmp 58) (Operand.const (Value.bool false)), type := 4, pos := "law.go:50", after := #[{ on := 12, ground := Ground.data }, { on := 15, ground := Ground.data }], guard := none } : Oper)) (v := ?vg15) rfl (by kernel_rfl) (by kernel_rfl) (by kernel_rfl) (fun _ _ _ h => h) (Or.inl ⟨by rfl, ?hyg15⟩) (by assumption) ?restg15
    case hyg15 => intro w hSw; (try dsimp only at hSw); go_simp; all_goals (with_reducible rfl)
    try simp only [Act.put, List.setIfInBounds_toArray, List.set_cons_zero, List.set_cons_succ]
    refine wpAnyH_take (i := 17) (oi := ({ dst := some 60, op := Op.move (Operand.tmp 59), type := 4, pos := "law.go:50", after := #[{ on := 16, ground := Ground.data }, { on := 15, ground := Ground.chain }], guard := none } : Oper)) (v := ?vg16) rfl (by kernel_rfl) (by kernel_rfl) (by kernel_rfl) (fun _ _ _ h => h) (Or.inl ⟨by rfl, ?hyg16⟩) (by assumption) ?restg16
    case hyg16 => intro w hSw; (try dsimp only at hSw); go_simp; all_goals (with_reducible rfl)
    try simp only [Act.put, List.setIfInBounds_toArray, List.set_cons_zero, List.set_cons_succ]
    refine wpAnyH_take (i := 18) (oi := ({ dst := some 61, op := Op.load 29 (Operand.tmp 3), type := 29, pos := "law.go:50", after := #[{ on := 17, ground := Ground.guard }], guard := some (17, true) } : Oper)) (v := ?vg17) rfl (by kernel_rfl) (by kernel_rfl) (by kernel_rfl) (fun _ _ _ h => h) (Or.inl ⟨by rfl, ?hyg17⟩) (by assumption) ?restg17
    case hyg17 => intro w hSw; (try dsimp only at hSw); go_simp; all_goals (with_reducible rfl)
    try simp only [Act.put, List.setIfInBounds_toArray, List.set_cons_zero, List.set_cons_succ]
    refine wpAnyH_take (i := 20) (oi := ({ dst := some 63, op := Op.fieldAddr 24 (Operand.tmp 1) 0, type := 0, pos := "law.go:50", after := #[{ on := 17, ground := Ground.guard }], guard := some (17, true) } : Oper)) (v := ?vg18) rfl (by kernel_rfl) (by kernel_rfl) (by kernel_rfl) (fun _ _ _ h => h) (Or.inl ⟨by rfl, ?hyg18⟩) (by assumption) ?restg18
    case hyg18 => intro w hSw; (try dsimp only at hSw); go_simp; all_goals (with_reducible rfl)
    try simp only [Act.put, List.setIfInBounds_toArray, List.set_cons_zero, List.set_cons_succ]
    refine wpAnyH_take (i := 21) (oi := ({ dst := some 64, op := Op.load 3 (Operand.tmp 63), type := 3, pos := "law.go:50", after := #[{ on := 20, ground := Ground.data }, { on := 17, ground := Ground.guard }], guard := some (17, true) } : Oper)) (v := ?vg19) rfl (by kernel_rfl) (by kernel_rfl) (by kernel_rfl) (fun _ _ _ h => h) (Or.inl ⟨by rfl, ?hyg19⟩) (by assumption) ?restg19
    case hyg19 => intro w hSw; (try dsimp only at hSw); go_simp; all_goals (with_reducible rfl)
    try simp only [Act.put, List.setIfInBounds_toArray, List.set_cons_zero, List.set_cons_succ]
    refine wpAnyH_take (i := 22) (oi := ({ dst := some 65, op := Op.binOp BinOp.eql 3 (Operand.tmp 64) (Operand.const (Value.int IntKind.i64 3)) 3, type := 4, pos := "law.go:50", after := #[{ on := 21, ground := Ground.data }, { on := 17, ground := Ground.guard }], guard := some (17, true) } : Oper)) (v := ?vg20) rfl (by kernel_rfl) (by kernel_rfl) (by kernel_rfl) (fun _ _ _ h => h) (Or.inl ⟨by rfl, ?hyg20⟩) (by assumption) ?restg20
    case hyg20 => intro w hSw; (try dsimp only at hSw); go_simp; all_goals (with_reducible rfl)
    try simp only [Act.put, List.setIfInBounds_toArray, List.set_cons_zero, List.set_cons_succ]
    refine wpAnyH_ready (rs := [19]) (by kernel_rfl) (by simp) ?_
    refine (AllReadyH.cons (o := ({ dst := some 62, op := Op.call { callee := Callee.value (Operand.func 17), args := #[Operand.tmp 61], argTypes := #[29] }, type := 4, pos := "law.go:50", after := #[{ on := 18, ground := Ground.data }, { on := 17, ground := Ground.chain }, { on := 17, ground := Ground.guard }], guard := some (17, true) } : Oper)) rfl (fun K hK => ?_) AllReadyH.nil)
    go_simp
    refine (HCC.out _ hb2).mono ?_; rintro e' v3 ⟨rfl, hb3⟩
    refine hK.out _ _ ?_ (fun hHeld => ?_)
    · (try dsimp only); exact KS.out _ hb3
    clear hK K
    try simp only [Act.put, List.setIfInBounds_toArray, List.set_cons_zero, List.set_cons_succ]
    refine wpAnyH_take (i := 23) (oi := ({ dst := some 66, op := Op.binOp BinOp.eql 4 (Operand.tmp 62) (Operand.tmp 65) 4, type := 4, pos := "law.go:50", after := #[{ on := 19, ground := Ground.data }, { on := 22, ground := Ground.data }, { on := 17, ground := Ground.guard }], guard := some (17, true) } : Oper)) (v := ?vg21) rfl (by kernel_rfl) (by kernel_rfl) (by kernel_rfl) (fun _ _ _ h => h) (Or.inl ⟨by rfl, ?hyg21⟩) (by assumption) ?restg21
    case hyg21 => intro w hSw; (try dsimp only at hSw); go_simp; all_goals (with_reducible rfl)
    try simp only [Act.put, List.setIfInBounds_toArray, List.set_cons_zero, List.set_cons_succ]
    refine wpAnyH_take (i := 24) (oi := ({ dst := some 67, op := Op.pick (Operand.tmp 60) (Operand.tmp 66) (Operand.const (Value.bool false)), type := 4, pos := "law.go:50", after := #[{ on := 17, ground := Ground.data }, { on := 23, ground := Ground.data }], guard := none } : Oper)) (v := ?vg22) rfl (by kernel_rfl) (by kernel_rfl) (by kernel_rfl) (fun _ _ _ h => h) (Or.inl ⟨by rfl, ?hyg22⟩) (by assumption) ?restg22
    case hyg22 => intro w hSw; (try dsimp only at hSw); go_simp; all_goals (with_reducible rfl)
    try simp only [Act.put, List.setIfInBounds_toArray, List.set_cons_zero, List.set_cons_succ]
    refine wpAnyH_take (i := 25) (oi := ({ dst := some 68, op := Op.move (Operand.tmp 67), type := 4, pos := "law.go:50", after := #[{ on := 24, ground := Ground.data }, { on := 19, ground := Ground.chain }], guard := none } : Oper)) (v := ?vg23) rfl (by kernel_rfl) (by kernel_rfl) (by kernel_rfl) (fun _ _ _ h => h) (Or.inl ⟨by rfl, ?hyg23⟩) (by assumption) ?restg23
    case hyg23 => intro w hSw; (try dsimp only at hSw); go_simp; all_goals (with_reducible rfl)
    try simp only [Act.put, List.setIfInBounds_toArray, List.set_cons_zero, List.set_cons_succ]
    refine wpAnyH_take (i := 26) (oi := ({ dst := some 69, op := Op.move (Operand.tmp 8), type := 27, pos := "law.go:50", after := #[{ on := 25, ground := Ground.guard }], guard := some (25, true) } : Oper)) (v := ?vg24) rfl (by kernel_rfl) (by kernel_rfl) (by kernel_rfl) (fun _ _ _ h => h) (Or.inl ⟨by rfl, ?hyg24⟩) (by assumption) ?restg24
    case hyg24 => intro w hSw; (try dsimp only at hSw); go_simp; all_goals (with_reducible rfl)
    try simp only [Act.put, List.setIfInBounds_toArray, List.set_cons_zero, List.set_cons_succ]
    refine wpAnyH_take (i := 27) (oi := ({ dst := some 70, op := Op.call { callee := Callee.builtin Builtin.len, args := #[Operand.tmp 69], argTypes := #[27] }, type := 3, pos := "law.go:50", after := #[{ on := 26, ground := Ground.data }, { on := 25, ground := Ground.guard }], guard := some (25, true) } : Oper)) (v := ?vg25) rfl (by kernel_rfl) (by kernel_rfl) (by kernel_rfl) (fun _ _ _ h => h) (Or.inl ⟨by rfl, ?hyg25⟩) (by assumption) ?restg25
    case hyg25 => intro w hSw; (try dsimp only at hSw); go_simp; all_goals (with_reducible rfl)
    try simp only [Act.put, List.setIfInBounds_toArray, List.set_cons_zero, List.set_cons_succ]
    refine wpAnyH_take (i := 28) (oi := ({ dst := some 71, op := Op.move (Operand.tmp 9), type := 3, pos := "law.go:50", after := #[{ on := 25, ground := Ground.guard }], guard := some (25, true) } : Oper)) (v := ?vg26) rfl (by kernel_rfl) (by kernel_rfl) (by kernel_rfl) (fun _ _ _ h => h) (Or.inl ⟨by rfl, ?hyg26⟩) (by assumption) ?restg26
    case hyg26 => intro w hSw; (try dsimp only at hSw); go_simp; all_goals (with_reducible rfl)
    try simp only [Act.put, List.setIfInBounds_toArray, List.set_cons_zero, List.set_cons_succ]
    refine wpAnyH_take (i := 29) (oi := ({ dst := some 72, op := Op.binOp BinOp.eql 3 (Operand.tmp 70) (Operand.tmp 71) 3, type := 4, pos := "law.go:50", after := #[{ on := 27, ground := Ground.data }, { on := 28, ground := Ground.data }, { on := 25, ground := Ground.guard }], guard := some (25, true) } : Oper)) (v := ?vg27) rfl (by kernel_rfl) (by kernel_rfl) (by kernel_rfl) (fun _ _ _ h => h) (Or.inl ⟨by rfl, ?hyg27⟩) (by assumption) ?restg27
    case hyg27 => intro w hSw; (try dsimp only at hSw); go_simp; all_goals (with_reducible rfl)
    try simp only [Act.put, List.setIfInBounds_toArray, List.set_cons_zero, List.set_cons_succ]
    refine wpAnyH_take (i := 30) (oi := ({ dst := some 73, op := Op.pick (Operand.tmp 68) (Operand.tmp 72) (Operand.const (Value.bool false)), type := 4, pos := "law.go:50", after := #[{ on := 25, ground := Ground.data }, { on := 29, ground := Ground.data }], guard := none } : Oper)) (v := ?vg28) rfl (by kernel_rfl) (by kernel_rfl) (by kernel_rfl) (fun _ _ _ h => h) (Or.inl ⟨by rfl, ?hyg28⟩) (by assumption) ?restg28
    case hyg28 => intro w hSw; (try dsimp only at hSw); go_simp; all_goals (with_reducible rfl)
    try simp only [Act.put, List.setIfInBounds_toArray, List.set_cons_zero, List.set_cons_succ]
    refine wpAnyH_take (i := 31) (oi := ({ dst := some 74, op := Op.move (Operand.tmp 73), type := 4, pos := "law.go:50", after := #[{ on := 30, ground := Ground.data }, { on := 25, ground := Ground.chain }], guard := none } : Oper)) (v := ?vg29) rfl (by kernel_rfl) (by kernel_rfl) (by kernel_rfl) (fun _ _ _ h => h) (Or.inl ⟨by rfl, ?hyg29⟩) (by assumption) ?restg29
    case hyg29 => intro w hSw; (try dsimp only at hSw); go_simp; all_goals (with_reducible rfl)
    try simp only [Act.put, List.setIfInBounds_toArray, List.set_cons_zero, List.set_cons_succ]
    refine wpAnyH_take (i := 32) (oi := ({ dst := some 75, op := Op.fieldAddr 24 (Operand.tmp 1) 0, type := 0, pos := "law.go:50", after := #[{ on := 31, ground := Ground.guard }], guard := some (31, true) } : Oper)) (v := ?vg30) rfl (by kernel_rfl) (by kernel_rfl) (by kernel_rfl) (fun _ _ _ h => h) (Or.inl ⟨by rfl, ?hyg30⟩) (by assumption) ?restg30
    case hyg30 => intro w hSw; (try dsimp only at hSw); go_simp; all_goals (with_reducible rfl)
    try simp only [Act.put, List.setIfInBounds_toArray, List.set_cons_zero, List.set_cons_succ]
    refine wpAnyH_take (i := 33) (oi := ({ dst := some 76, op := Op.load 3 (Operand.tmp 75), type := 3, pos := "law.go:50", after := #[{ on := 32, ground := Ground.data }, { on := 31, ground := Ground.guard }], guard := some (31, true) } : Oper)) (v := ?vg31) rfl (by kernel_rfl) (by kernel_rfl) (by kernel_rfl) (fun _ _ _ h => h) (Or.inl ⟨by rfl, ?hyg31⟩) (by assumption) ?restg31
    case hyg31 => intro w hSw; (try dsimp only at hSw); go_simp; all_goals (with_reducible rfl)
    try simp only [Act.put, List.setIfInBounds_toArray, List.set_cons_zero, List.set_cons_succ]
    refine wpAnyH_take (i := 34) (oi := ({ dst := some 77, op := Op.binOp BinOp.neq 3 (Operand.tmp 76) (Operand.const (Value.int IntKind.i64 2)) 3, type := 4, pos := "law.go:50", after := #[{ on := 33, ground := Ground.data }, { on := 31, ground := Ground.guard }], guard := some (31, true) } : Oper)) (v := ?vg32) rfl (by kernel_rfl) (by kernel_rfl) (by kernel_rfl) (fun _ _ _ h => h) (Or.inl ⟨by rfl, ?hyg32⟩) (by assumption) ?restg32
    case hyg32 => intro w hSw; (try dsimp only at hSw); go_simp; all_goals (with_reducible rfl)
    try simp only [Act.put, List.setIfInBounds_toArray, List.set_cons_zero, List.set_cons_succ]
    refine wpAnyH_take (i := 35) (oi := ({ dst := some 78, op := Op.move (Operand.tmp 77), type := 4, pos := "law.go:50", after := #[{ on := 34, ground := Ground.data }, { on := 31, ground := Ground.chain }, { on := 31, ground := Ground.guard }], guard := some (31, true) } : Oper)) (v := ?vg33) rfl (by kernel_rfl) (by kernel_rfl) (by kernel_rfl) (fun _ _ _ h => h) (Or.inl ⟨by rfl, ?hyg33⟩) (by assumption) ?restg33
    case hyg33 => intro w hSw; (try dsimp only at hSw); go_simp; all_goals (with_reducible rfl)
    try simp only [Act.put, List.setIfInBounds_toArray, List.set_cons_zero, List.set_cons_succ]
    refine wpAnyH_take (i := 36) (oi := ({ dst := some 79, op := Op.move (Operand.tmp 8), type := 27, pos := "law.go:50", after := #[{ on := 35, ground := Ground.guard }], guard := some (35, false) } : Oper)) (v := ?vg34) rfl (by kernel_rfl) (by kernel_rfl) (by kernel_rfl) (fun _ _ _ h => h) (Or.inl ⟨by rfl, ?hyg34⟩) (by assumption) ?restg34
    case hyg34 => intro w hSw; (try dsimp only at hSw); go_simp; all_goals (with_reducible rfl)
    try simp only [Act.put, List.setIfInBounds_toArray, List.set_cons_zero, List.set_cons_succ]
    refine wpAnyH_take (i := 37) (oi := ({ dst := some 80, op := Op.indexAddr 27 (Operand.tmp 79) (Operand.const (Value.int IntKind.i64 0)), type := 0, pos := "law.go:50", after := #[{ on := 36, ground := Ground.data }, { on := 35, ground := Ground.guard }], guard := some (35, false) } : Oper)) (v := ?vg35) rfl (by kernel_rfl) (by kernel_rfl) (by kernel_rfl) (fun _ _ _ h => h) (Or.inl ⟨by rfl, ?hyg35⟩) (by assumption) ?restg35
    case hyg35 => intro w hSw; (try dsimp only at hSw); go_simp; all_goals (with_reducible rfl)
    try simp only [Act.put, List.setIfInBounds_toArray, List.set_cons_zero, List.set_cons_succ]
    refine wpAnyH_take (i := 38) (oi := ({ dst := some 81, op := Op.fieldAddr 44 (Operand.tmp 80) 0, type := 0, pos := "law.go:50", after := #[{ on := 37, ground := Ground.data }, { on := 35, ground := Ground.guard }], guard := some (35, false) } : Oper)) (v := ?vg36) rfl (by kernel_rfl) (by kernel_rfl) (by kernel_rfl) (fun _ _ _ h => h) (Or.inl ⟨by rfl, ?hyg36⟩) (by assumption) ?restg36
    case hyg36 => intro w hSw; (try dsimp only at hSw); go_simp; all_goals (with_reducible rfl)
    try simp only [Act.put, List.setIfInBounds_toArray, List.set_cons_zero, List.set_cons_succ]
    refine wpAnyH_take (i := 39) (oi := ({ dst := some 82, op := Op.load 3 (Operand.tmp 81), type := 3, pos := "law.go:50", after := #[{ on := 38, ground := Ground.data }, { on := 35, ground := Ground.guard }], guard := some (35, false) } : Oper)) (v := ?vg37) rfl (by kernel_rfl) (by kernel_rfl) (by kernel_rfl) (fun _ _ _ h => h) (Or.inl ⟨by rfl, ?hyg37⟩) (by assumption) ?restg37
    case hyg37 => intro w hSw; (try dsimp only at hSw); go_simp; all_goals (with_reducible rfl)
    try simp only [Act.put, List.setIfInBounds_toArray, List.set_cons_zero, List.set_cons_succ]
    refine wpAnyH_take (i := 40) (oi := ({ dst := some 83, op := Op.binOp BinOp.eql 3 (Operand.tmp 82) (Operand.const (Value.int IntKind.i64 1)) 3, type := 4, pos := "law.go:50", after := #[{ on := 39, ground := Ground.data }, { on := 35, ground := Ground.guard }], guard := some (35, false) } : Oper)) (v := ?vg38) rfl (by kernel_rfl) (by kernel_rfl) (by kernel_rfl) (fun _ _ _ h => h) (Or.inl ⟨by rfl, ?hyg38⟩) (by assumption) ?restg38
    case hyg38 => intro w hSw; (try dsimp only at hSw); go_simp; all_goals (with_reducible rfl)
    try simp only [Act.put, List.setIfInBounds_toArray, List.set_cons_zero, List.set_cons_succ]
    refine wpAnyH_take (i := 41) (oi := ({ dst := some 84, op := Op.pick (Operand.tmp 78) (Operand.const (Value.bool true)) (Operand.tmp 83), type := 4, pos := "law.go:50", after := #[{ on := 35, ground := Ground.data }, { on := 40, ground := Ground.data }, { on := 31, ground := Ground.guard }], guard := some (31, true) } : Oper)) (v := ?vg39) rfl (by kernel_rfl) (by kernel_rfl) (by kernel_rfl) (fun _ _ _ h => h) (Or.inl ⟨by rfl, ?hyg39⟩) (by assumption) ?restg39
    case hyg39 => intro w hSw; (try dsimp only at hSw); go_simp; all_goals (with_reducible rfl)
    try simp only [Act.put, List.setIfInBounds_toArray, List.set_cons_zero, List.set_cons_succ]
    refine wpAnyH_take (i := 42) (oi := ({ dst := some 85, op := Op.pick (Operand.tmp 74) (Operand.tmp 84) (Operand.const (Value.bool false)), type := 4, pos := "law.go:50", after := #[{ on := 31, ground := Ground.data }, { on := 41, ground := Ground.data }], guard := none } : Oper)) (v := ?vg40) rfl (by kernel_rfl) (by kernel_rfl) (by kernel_rfl) (fun _ _ _ h => h) (Or.inl ⟨by rfl, ?hyg40⟩) (by assumption) ?restg40
    case hyg40 => intro w hSw; (try dsimp only at hSw); go_simp; all_goals (with_reducible rfl)
    try simp only [Act.put, List.setIfInBounds_toArray, List.set_cons_zero, List.set_cons_succ]
    refine wpAnyH_take (i := 43) (oi := ({ dst := some 86, op := Op.move (Operand.tmp 85), type := 4, pos := "law.go:50", after := #[{ on := 42, ground := Ground.data }, { on := 35, ground := Ground.chain }], guard := none } : Oper)) (v := ?vg41) rfl (by kernel_rfl) (by kernel_rfl) (by kernel_rfl) (fun _ _ _ h => h) (Or.inl ⟨by rfl, ?hyg41⟩) (by assumption) ?restg41
    case hyg41 => intro w hSw; (try dsimp only at hSw); go_simp; all_goals (with_reducible rfl)
    try simp only [Act.put, List.setIfInBounds_toArray, List.set_cons_zero, List.set_cons_succ]
    refine wpAnyH_take (i := 44) (oi := ({ dst := some 87, op := Op.move (Operand.tmp 8), type := 27, pos := "law.go:50", after := #[{ on := 43, ground := Ground.guard }], guard := some (43, true) } : Oper)) (v := ?vg42) rfl (by kernel_rfl) (by kernel_rfl) (by kernel_rfl) (fun _ _ _ h => h) (Or.inl ⟨by rfl, ?hyg42⟩) (by assumption) ?restg42
    case hyg42 => intro w hSw; (try dsimp only at hSw); go_simp; all_goals (with_reducible rfl)
    try simp only [Act.put, List.setIfInBounds_toArray, List.set_cons_zero, List.set_cons_succ]
    refine wpAnyH_take (i := 45) (oi := ({ dst := some 88, op := Op.move (Operand.tmp 9), type := 3, pos := "law.go:50", after := #[{ on := 43, ground := Ground.guard }], guard := some (43, true) } : Oper)) (v := ?vg43) rfl (by kernel_rfl) (by kernel_rfl) (by kernel_rfl) (fun _ _ _ h => h) (Or.inl ⟨by rfl, ?hyg43⟩) (by assumption) ?restg43
    case hyg43 => intro w hSw; (try dsimp only at hSw); go_simp; all_goals (with_reducible rfl)
    try simp only [Act.put, List.setIfInBounds_toArray, List.set_cons_zero, List.set_cons_succ]
    refine wpAnyH_take (i := 46) (oi := ({ dst := some 89, op := Op.fieldAddr 24 (Operand.tmp 1) 5, type := 0, pos := "law.go:50", after := #[{ on := 43, ground := Ground.guard }], guard := some (43, true) } : Oper)) (v := ?vg44) rfl (by kernel_rfl) (by kernel_rfl) (by kernel_rfl) (fun _ _ _ h => h) (Or.inl ⟨by rfl, ?hyg44⟩) (by assumption) ?restg44
    case hyg44 => intro w hSw; (try dsimp only at hSw); go_simp; all_goals (with_reducible rfl)
    try simp only [Act.put, List.setIfInBounds_toArray, List.set_cons_zero, List.set_cons_succ]
    refine wpAnyH_take (i := 47) (oi := ({ dst := some 90, op := Op.load 22 (Operand.tmp 89), type := 22, pos := "law.go:50", after := #[{ on := 46, ground := Ground.data }, { on := 43, ground := Ground.guard }], guard := some (43, true) } : Oper)) (v := ?vg45) rfl (by kernel_rfl) (by kernel_rfl) (by kernel_rfl) (fun _ _ _ h => h) (Or.inl ⟨by rfl, ?hyg45⟩) (by assumption) ?restg45
    case hyg45 => intro w hSw; (try dsimp only at hSw); go_simp; all_goals (with_reducible rfl)
    try simp only [Act.put, List.setIfInBounds_toArray, List.set_cons_zero, List.set_cons_succ]
    refine wpAnyH_take (i := 48) (oi := ({ dst := some 91, op := Op.call { callee := Callee.builtin Builtin.len, args := #[Operand.tmp 90], argTypes := #[22] }, type := 3, pos := "law.go:50", after := #[{ on := 47, ground := Ground.data }, { on := 43, ground := Ground.guard }], guard := some (43, true) } : Oper)) (v := ?vg46) rfl (by kernel_rfl) (by kernel_rfl) (by kernel_rfl) (fun _ _ _ h => h) (Or.inl ⟨by rfl, ?hyg46⟩) (by assumption) ?restg46
    case hyg46 => intro w hSw; (try dsimp only at hSw); go_simp; all_goals (with_reducible rfl)
    try simp only [Act.put, List.setIfInBounds_toArray, List.set_cons_zero, List.set_cons_succ]
    refine wpAnyH_take (i := 49) (oi := ({ dst := some 92, op := Op.binOp BinOp.sub 3 (Operand.tmp 88) (Operand.tmp 91) 3, type := 3, pos := "law.go:50", after := #[{ on := 45, ground := Ground.data }, { on := 48, ground := Ground.data }, { on := 43, ground := Ground.guard }], guard := some (43, true) } : Oper)) (v := ?vg47) rfl (by kernel_rfl) (by kernel_rfl) (by kernel_rfl) (fun _ _ _ h => h) (Or.inl ⟨by rfl, ?hyg47⟩) (by assumption) ?restg47
    case hyg47 => intro w hSw; (try dsimp only at hSw); go_simp; all_goals (with_reducible rfl)
    try simp only [Act.put, List.setIfInBounds_toArray, List.set_cons_zero, List.set_cons_succ]
    refine wpAnyH_take (i := 50) (oi := ({ dst := some 93, op := Op.slice 27 (Operand.tmp 87) (some (Operand.tmp 92)) none none, type := 27, pos := "law.go:50", after := #[{ on := 44, ground := Ground.data }, { on := 49, ground := Ground.data }, { on := 43, ground := Ground.guard }], guard := some (43, true) } : Oper)) (v := ?vg48) rfl (by kernel_rfl) (by kernel_rfl) (by kernel_rfl) (fun _ _ _ h => h) (Or.inl ⟨by rfl, ?hyg48⟩) (by assumption) ?restg48
    case hyg48 => intro w hSw; (try dsimp only at hSw); go_simp; all_goals (with_reducible rfl)
    try simp only [Act.put, List.setIfInBounds_toArray, List.set_cons_zero, List.set_cons_succ]
    refine wpAnyH_take (i := 52) (oi := ({ dst := some 95, op := Op.fieldAddr 29 (Operand.tmp 3) 5, type := 0, pos := "law.go:50", after := #[{ on := 43, ground := Ground.guard }], guard := some (43, true) } : Oper)) (v := ?vg49) rfl (by kernel_rfl) (by kernel_rfl) (by kernel_rfl) (fun _ _ _ h => h) (Or.inl ⟨by rfl, ?hyg49⟩) (by assumption) ?restg49
    case hyg49 => intro w hSw; (try dsimp only at hSw); go_simp; all_goals (with_reducible rfl)
    try simp only [Act.put, List.setIfInBounds_toArray, List.set_cons_zero, List.set_cons_succ]
    refine wpAnyH_take (i := 53) (oi := ({ dst := some 96, op := Op.load 27 (Operand.tmp 95), type := 27, pos := "law.go:50", after := #[{ on := 52, ground := Ground.data }, { on := 43, ground := Ground.guard }], guard := some (43, true) } : Oper)) (v := ?vg50) rfl (by kernel_rfl) (by kernel_rfl) (by kernel_rfl) (fun _ _ _ h => h) (Or.inl ⟨by rfl, ?hyg50⟩) (by assumption) ?restg50
    case hyg50 => intro w hSw; (try dsimp only at hSw); go_simp; all_goals (with_reducible rfl)
    try simp only [Act.put, List.setIfInBounds_toArray, List.set_cons_zero, List.set_cons_succ]
    refine wpAnyH_ready (rs := [51]) (by kernel_rfl) (by simp) ?_
    refine (AllReadyH.cons (o := ({ dst := some 94, op := Op.call { callee := Callee.value (Operand.func 18), args := #[Operand.tmp 93], argTypes := #[27] }, type := 9, pos := "law.go:50", after := #[{ on := 50, ground := Ground.data }, { on := 43, ground := Ground.chain }, { on := 43, ground := Ground.guard }], guard := some (43, true) } : Oper)) rfl (fun K hK => ?_) AllReadyH.nil)
    go_simp
    refine (HCD.out _ hb3).mono ?_; rintro e' v4 ⟨rfl, hb4⟩
    refine hK.out _ _ ?_ (fun hHeld => ?_)
    · (try dsimp only); exact KS.out _ hb4
    clear hK K
    try simp only [Act.put, List.setIfInBounds_toArray, List.set_cons_zero, List.set_cons_succ]
    refine wpAnyH_ready (rs := [54]) (by kernel_rfl) (by simp) ?_
    refine (AllReadyH.cons (o := ({ dst := some 97, op := Op.call { callee := Callee.value (Operand.func 18), args := #[Operand.tmp 96], argTypes := #[27] }, type := 9, pos := "law.go:50", after := #[{ on := 53, ground := Ground.data }, { on := 51, ground := Ground.chain }, { on := 43, ground := Ground.guard }], guard := some (43, true) } : Oper)) rfl (fun K hK => ?_) AllReadyH.nil)
    go_simp
    refine (HCE.out _ hb4).mono ?_; rintro e' v5 ⟨rfl, hb5⟩
    refine hK.out _ _ ?_ (fun hHeld => ?_)
    · (try dsimp only); exact KS.out _ hb5
    clear hK K
    try simp only [Act.put, List.setIfInBounds_toArray, List.set_cons_zero, List.set_cons_succ]
    refine wpAnyH_take (i := 55) (oi := ({ dst := some 98, op := Op.binOp BinOp.eql 9 (Operand.tmp 94) (Operand.tmp 97) 9, type := 4, pos := "law.go:50", after := #[{ on := 51, ground := Ground.data }, { on := 54, ground := Ground.data }, { on := 43, ground := Ground.guard }], guard := some (43, true) } : Oper)) (v := ?vg51) rfl (by kernel_rfl) (by kernel_rfl) (by kernel_rfl) (fun _ _ _ h => h) (Or.inl ⟨by rfl, ?hyg51⟩) (by assumption) ?restg51
    case hyg51 => intro w hSw; (try dsimp only at hSw); go_simp; all_goals (with_reducible rfl)
    try simp only [Act.put, List.setIfInBounds_toArray, List.set_cons_zero, List.set_cons_succ]
    refine wpAnyH_take (i := 56) (oi := ({ dst := some 99, op := Op.pick (Operand.tmp 86) (Operand.tmp 98) (Operand.const (Value.bool false)), type := 4, pos := "law.go:50", after := #[{ on := 43, ground := Ground.data }, { on := 55, ground := Ground.data }], guard := none } : Oper)) (v := ?vg52) rfl (by kernel_rfl) (by kernel_rfl) (by kernel_rfl) (fun _ _ _ h => h) (Or.inl ⟨by rfl, ?hyg52⟩) (by assumption) ?restg52
    case hyg52 => intro w hSw; (try dsimp only at hSw); go_simp; all_goals (with_reducible rfl)
    try simp only [Act.put, List.setIfInBounds_toArray, List.set_cons_zero, List.set_cons_succ]
    refine wpAnyH_take (i := 57) (oi := ({ dst := some 2, op := Op.assign (Operand.tmp 99), type := 4, pos := "law.go:50", after := #[{ on := 56, ground := Ground.data }, { on := 54, ground := Ground.chain }, { on := 0, ground := Ground.phase }, { on := 1, ground := Ground.phase }, { on := 2, ground := Ground.phase }, { on := 3, ground := Ground.phase }, { on := 4, ground := Ground.phase }, { on := 5, ground := Ground.phase }, { on := 6, ground := Ground.phase }, { on := 7, ground := Ground.phase }, { on := 8, ground := Ground.phase }, { on := 9, ground := Ground.phase }, { on := 10, ground := Ground.phase }, { on := 11, ground := Ground.phase }, { on := 12, ground := Ground.phase }, { on := 13, ground := Ground.phase }, { on := 14, ground := Ground.phase }, { on := 15, ground := Ground.phase }, { on := 16, ground := Ground.phase }, { on := 17, ground := Ground.phase }, { on := 18, ground := Ground.phase }, { on := 19, ground := Ground.phase }, { on := 20, ground := Ground.phase }, { on := 21, ground := Ground.phase }, { on := 22, ground := Ground.phase }, { on := 23, ground := Ground.phase }, { on := 24, ground := Ground.phase }, { on := 25, ground := Ground.phase }, { on := 26, ground := Ground.phase }, { on := 27, ground := Ground.phase }, { on := 28, ground := Ground.phase }, { on := 29, ground := Ground.phase }, { on := 30, ground := Ground.phase }, { on := 31, ground := Ground.phase }, { on := 32, ground := Ground.phase }, { on := 33, ground := Ground.phase }, { on := 34, ground := Ground.phase }, { on := 35, ground := Ground.phase }, { on := 36, ground := Ground.phase }, { on := 37, ground := Ground.phase }, { on := 38, ground := Ground.phase }, { on := 39, ground := Ground.phase }, { on := 40, ground := Ground.phase }, { on := 41, ground := Ground.phase }, { on := 42, ground := Ground.phase }, { on := 43, ground := Ground.phase }, { on := 44, ground := Ground.phase }, { on := 45, ground := Ground.phase }, { on := 46, ground := Ground.phase }, { on := 47, ground := Ground.phase }, { on := 48, ground := Ground.phase }, { on := 49, ground := Ground.phase }, { on := 50, ground := Ground.phase }, { on := 51, ground := Ground.phase }, { on := 52, ground := Ground.phase }, { on := 53, ground := Ground.phase }, { on := 54, ground := Ground.phase }, { on := 55, ground := Ground.phase }, { on := 56, ground := Ground.phase }], guard := none } : Oper)) (v := ?vg53) rfl (by kernel_rfl) (by kernel_rfl) (by kernel_rfl) (fun _ _ _ h => h) (Or.inl ⟨by rfl, ?hyg53⟩) (by assumption) ?restg53
    case hyg53 => intro w hSw; (try dsimp only at hSw); go_simp; all_goals (with_reducible rfl)
    try simp only [Act.put, List.setIfInBounds_toArray, List.set_cons_zero, List.set_cons_succ]
    refine wpAnyH_done (by kernel_rfl) ?_ _
    have HFB := Lib.hid (HBF.out.trans (hb5.mono HBF.out.size))
    clear hb1 hb2 hb3 hb4 hb5 KS
    go_wp2_with fail
    go_ret
    exact ⟨rfl, HFB.out⟩
  · have t2 : (kd == 2) = false := by simpa using h2
    have t2' : (kd != 2) = true := by simpa using h2
    obtain rfl := (HMQ.out.2 h2).symm
    have hsl : ∀ W, (Instr.slice 27 (.slice Ap q cq) (some (.int .i64 0)) none none).run Tryz.prog W = .ok (.slice At q ct) W := fun W => by
      have h := HSL.out W
      rw [show (q : Int) - q = 0 by omega] at h
      exact h
    have hw0 : IntKind.i64.wrap 0 = 0 := by decide
    have tq : ((q : Int) == (q : Int)) = true := by simp
    have tq' : (q == q) = true := by simp
    have KS := KX
    clear KX h2
    go_upto_region 15 with fail
    clear x0 x5
    refine wp_region_held_drew (S := fun W => W.cell? ⟨xb, 0, none⟩ = some (.int .i64 kd) ∧ W.cell? ⟨xb, 1, none⟩ = some (.int .i64 (sz : Nat)) ∧ W.cell? ⟨xb, 2, none⟩ = some (.int .i64 (su : Nat)) ∧ W.cell? ⟨xb, 3, none⟩ = some (.int .i64 (wk : Nat)) ∧ W.cell? ⟨xb, 4, none⟩ = some (.int .i64 (cp : Nat)) ∧ W.cell? ⟨xb, 5, none⟩ = some (.slice Ak q ck) ∧ W.cell? ⟨cb, 0, none⟩ = some (.int .i64 kd) ∧ W.cell? ⟨cb, 1, none⟩ = some (.int .i64 (sz : Nat)) ∧ W.cell? ⟨cb, 2, none⟩ = some (.int .i64 (su : Nat)) ∧ W.cell? ⟨cb, 3, none⟩ = some (.int .i64 (wk : Nat)) ∧ W.cell? ⟨cb, 4, none⟩ = some (.int .i64 (cp : Nat)) ∧ W.cell? ⟨cb, 5, none⟩ = some (.slice A2 q c2) ∧ W.cell? ⟨db, 0, none⟩ = some (.int .i64 kd) ∧ W.cell? ⟨db, 1, none⟩ = some (.int .i64 (sz : Nat)) ∧ W.cell? ⟨db, 2, none⟩ = some (.int .i64 (su : Nat)) ∧ W.cell? ⟨db, 3, none⟩ = some (.int .i64 (wk : Nat)) ∧ W.cell? ⟨db, 4, none⟩ = some (.int .i64 (cp : Nat)) ∧ W.cell? ⟨db, 5, none⟩ = some (.slice A3 q c3)) (by kernel_rfl) ?_ (fun hHeld => ?_)
    · (try dsimp only); exact KS.out _ (below_drewN' (Below.refl _ _) 1)
    refine wpAnyH_take (i := 0) (oi := ({ dst := some 43, op := Op.move (Operand.tmp 4), type := 32, pos := "law.go:50", after := #[], guard := none } : Oper)) (v := ?vh1) rfl (by kernel_rfl) (by kernel_rfl) (by kernel_rfl) (fun _ _ _ h => h) (Or.inl ⟨by rfl, ?hyh1⟩) (by assumption) ?resth1
    case hyh1 => intro w hSw; (try dsimp only at hSw); go_simp; all_goals (with_reducible rfl)
    try simp only [Act.put, List.setIfInBounds_toArray, List.set_cons_zero, List.set_cons_succ]
    refine wpAnyH_take (i := 1) (oi := ({ dst := some 44, op := Op.binOp BinOp.eql 32 (Operand.tmp 43) (Operand.const Value.nilIface) 32, type := 4, pos := "law.go:50", after := #[{ on := 0, ground := Ground.data }], guard := none } : Oper)) (v := ?vh2) rfl (by kernel_rfl) (by kernel_rfl) (by kernel_rfl) (fun _ _ _ h => h) (Or.inl ⟨by rfl, ?hyh2⟩) (by assumption) ?resth2
    case hyh2 => intro w hSw; (try dsimp only at hSw); go_simp; all_goals (with_reducible rfl)
    try simp only [Act.put, List.setIfInBounds_toArray, List.set_cons_zero, List.set_cons_succ]
    refine wpAnyH_take (i := 2) (oi := ({ dst := some 45, op := Op.move (Operand.tmp 44), type := 4, pos := "law.go:50", after := #[{ on := 1, ground := Ground.data }], guard := none } : Oper)) (v := ?vh3) rfl (by kernel_rfl) (by kernel_rfl) (by kernel_rfl) (fun _ _ _ h => h) (Or.inl ⟨by rfl, ?hyh3⟩) (by assumption) ?resth3
    case hyh3 => intro w hSw; (try dsimp only at hSw); go_simp; all_goals (with_reducible rfl)
    try simp only [Act.put, List.setIfInBounds_toArray, List.set_cons_zero, List.set_cons_succ]
    refine wpAnyH_take (i := 3) (oi := ({ dst := some 46, op := Op.move (Operand.tmp 7), type := 32, pos := "law.go:50", after := #[{ on := 2, ground := Ground.guard }], guard := some (2, true) } : Oper)) (v := ?vh4) rfl (by kernel_rfl) (by kernel_rfl) (by kernel_rfl) (fun _ _ _ h => h) (Or.inl ⟨by rfl, ?hyh4⟩) (by assumption) ?resth4
    case hyh4 => intro w hSw; (try dsimp only at hSw); go_simp; all_goals (with_reducible rfl)
    try simp only [Act.put, List.setIfInBounds_toArray, List.set_cons_zero, List.set_cons_succ]
    refine wpAnyH_take (i := 4) (oi := ({ dst := some 47, op := Op.binOp BinOp.eql 32 (Operand.tmp 46) (Operand.const Value.nilIface) 32, type := 4, pos := "law.go:50", after := #[{ on := 3, ground := Ground.data }, { on := 2, ground := Ground.guard }], guard := some (2, true) } : Oper)) (v := ?vh5) rfl (by kernel_rfl) (by kernel_rfl) (by kernel_rfl) (fun _ _ _ h => h) (Or.inl ⟨by rfl, ?hyh5⟩) (by assumption) ?resth5
    case hyh5 => intro w hSw; (try dsimp only at hSw); go_simp; all_goals (with_reducible rfl)
    try simp only [Act.put, List.setIfInBounds_toArray, List.set_cons_zero, List.set_cons_succ]
    refine wpAnyH_take (i := 5) (oi := ({ dst := some 48, op := Op.pick (Operand.tmp 45) (Operand.tmp 47) (Operand.const (Value.bool false)), type := 4, pos := "law.go:50", after := #[{ on := 2, ground := Ground.data }, { on := 4, ground := Ground.data }], guard := none } : Oper)) (v := ?vh6) rfl (by kernel_rfl) (by kernel_rfl) (by kernel_rfl) (fun _ _ _ h => h) (Or.inl ⟨by rfl, ?hyh6⟩) (by assumption) ?resth6
    case hyh6 => intro w hSw; (try dsimp only at hSw); go_simp; all_goals (with_reducible rfl)
    try simp only [Act.put, List.setIfInBounds_toArray, List.set_cons_zero, List.set_cons_succ]
    refine wpAnyH_take (i := 6) (oi := ({ dst := some 49, op := Op.move (Operand.tmp 48), type := 4, pos := "law.go:50", after := #[{ on := 5, ground := Ground.data }, { on := 2, ground := Ground.chain }], guard := none } : Oper)) (v := ?vh7) rfl (by kernel_rfl) (by kernel_rfl) (by kernel_rfl) (fun _ _ _ h => h) (Or.inl ⟨by rfl, ?hyh7⟩) (by assumption) ?resth7
    case hyh7 => intro w hSw; (try dsimp only at hSw); go_simp; all_goals (with_reducible rfl)
    try simp only [Act.put, List.setIfInBounds_toArray, List.set_cons_zero, List.set_cons_succ]
    refine wpAnyH_take (i := 7) (oi := ({ dst := some 50, op := Op.move (Operand.tmp 5), type := 9, pos := "law.go:50", after := #[{ on := 6, ground := Ground.guard }], guard := some (6, true) } : Oper)) (v := ?vh8) rfl (by kernel_rfl) (by kernel_rfl) (by kernel_rfl) (fun _ _ _ h => h) (Or.inl ⟨by rfl, ?hyh8⟩) (by assumption) ?resth8
    case hyh8 => intro w hSw; (try dsimp only at hSw); go_simp; all_goals (with_reducible rfl)
    try simp only [Act.put, List.setIfInBounds_toArray, List.set_cons_zero, List.set_cons_succ]
    refine wpAnyH_take (i := 8) (oi := ({ dst := some 51, op := Op.load 24 (Operand.tmp 1), type := 24, pos := "law.go:50", after := #[{ on := 6, ground := Ground.guard }], guard := some (6, true) } : Oper)) (v := ?vh9) rfl (by kernel_rfl) (by kernel_rfl) (by kernel_rfl) (fun _ _ _ h => h) (Or.inl ⟨by rfl, ?hyh9⟩) (by assumption) ?resth9
    case hyh9 => intro w hSw; (try dsimp only at hSw); go_simp; all_goals (with_reducible rfl)
    try simp only [Act.put, List.setIfInBounds_toArray, List.set_cons_zero, List.set_cons_succ]
    refine wpAnyH_ready (rs := [9]) (by kernel_rfl) (by simp) ?_
    refine (AllReadyH.cons (o := ({ dst := some 52, op := Op.call { callee := Callee.value (Operand.func 15), args := #[Operand.tmp 51], argTypes := #[24] }, type := 9, pos := "law.go:50", after := #[{ on := 8, ground := Ground.data }, { on := 6, ground := Ground.chain }, { on := 6, ground := Ground.guard }], guard := some (6, true) } : Oper)) rfl (fun K hK => ?_) AllReadyH.nil)
    go_simp
    refine (HCA.out _ (below_drewN' (Below.refl wf.heap.size wf) 1)).mono ?_; rintro e' v1 ⟨rfl, hb1⟩
    refine hK.out _ _ ?_ (fun hHeld => ?_)
    · (try dsimp only); exact KS.out _ hb1
    clear hK K
    try simp only [Act.put, List.setIfInBounds_toArray, List.set_cons_zero, List.set_cons_succ]
    refine wpAnyH_take (i := 10) (oi := ({ dst := some 53, op := Op.binOp BinOp.eql 9 (Operand.tmp 50) (Operand.tmp 52) 9, type := 4, pos := "law.go:50", after := #[{ on := 7, ground := Ground.data }, { on := 9, ground := Ground.data }, { on := 6, ground := Ground.guard }], guard := some (6, true) } : Oper)) (v := ?vh10) rfl (by kernel_rfl) (by kernel_rfl) (by kernel_rfl) (fun _ _ _ h => h) (Or.inl ⟨by rfl, ?hyh10⟩) (by assumption) ?resth10
    case hyh10 => intro w hSw; (try dsimp only at hSw); go_simp; all_goals (with_reducible rfl)
    try simp only [Act.put, List.setIfInBounds_toArray, List.set_cons_zero, List.set_cons_succ]
    refine wpAnyH_take (i := 11) (oi := ({ dst := some 54, op := Op.pick (Operand.tmp 49) (Operand.tmp 53) (Operand.const (Value.bool false)), type := 4, pos := "law.go:50", after := #[{ on := 6, ground := Ground.data }, { on := 10, ground := Ground.data }], guard := none } : Oper)) (v := ?vh11) rfl (by kernel_rfl) (by kernel_rfl) (by kernel_rfl) (fun _ _ _ h => h) (Or.inl ⟨by rfl, ?hyh11⟩) (by assumption) ?resth11
    case hyh11 => intro w hSw; (try dsimp only at hSw); go_simp; all_goals (with_reducible rfl)
    try simp only [Act.put, List.setIfInBounds_toArray, List.set_cons_zero, List.set_cons_succ]
    refine wpAnyH_take (i := 12) (oi := ({ dst := some 55, op := Op.move (Operand.tmp 54), type := 4, pos := "law.go:50", after := #[{ on := 11, ground := Ground.data }, { on := 9, ground := Ground.chain }], guard := none } : Oper)) (v := ?vh12) rfl (by kernel_rfl) (by kernel_rfl) (by kernel_rfl) (fun _ _ _ h => h) (Or.inl ⟨by rfl, ?hyh12⟩) (by assumption) ?resth12
    case hyh12 => intro w hSw; (try dsimp only at hSw); go_simp; all_goals (with_reducible rfl)
    try simp only [Act.put, List.setIfInBounds_toArray, List.set_cons_zero, List.set_cons_succ]
    refine wpAnyH_take (i := 13) (oi := ({ dst := some 56, op := Op.load 29 (Operand.tmp 3), type := 29, pos := "law.go:50", after := #[{ on := 12, ground := Ground.guard }], guard := some (12, true) } : Oper)) (v := ?vh13) rfl (by kernel_rfl) (by kernel_rfl) (by kernel_rfl) (fun _ _ _ h => h) (Or.inl ⟨by rfl, ?hyh13⟩) (by assumption) ?resth13
    case hyh13 => intro w hSw; (try dsimp only at hSw); go_simp; all_goals (with_reducible rfl)
    try simp only [Act.put, List.setIfInBounds_toArray, List.set_cons_zero, List.set_cons_succ]
    refine wpAnyH_take (i := 14) (oi := ({ dst := some 57, op := Op.load 29 (Operand.tmp 6), type := 29, pos := "law.go:50", after := #[{ on := 12, ground := Ground.guard }], guard := some (12, true) } : Oper)) (v := ?vh14) rfl (by kernel_rfl) (by kernel_rfl) (by kernel_rfl) (fun _ _ _ h => h) (Or.inl ⟨by rfl, ?hyh14⟩) (by assumption) ?resth14
    case hyh14 => intro w hSw; (try dsimp only at hSw); go_simp; all_goals (with_reducible rfl)
    try simp only [Act.put, List.setIfInBounds_toArray, List.set_cons_zero, List.set_cons_succ]
    refine wpAnyH_ready (rs := [15]) (by kernel_rfl) (by simp) ?_
    refine (AllReadyH.cons (o := ({ dst := some 58, op := Op.call { callee := Callee.value (Operand.func 16), args := #[Operand.tmp 56, Operand.tmp 57], argTypes := #[29, 29] }, type := 4, pos := "law.go:50", after := #[{ on := 13, ground := Ground.data }, { on := 14, ground := Ground.data }, { on := 12, ground := Ground.chain }, { on := 12, ground := Ground.guard }], guard := some (12, true) } : Oper)) rfl (fun K hK => ?_) AllReadyH.nil)
    go_simp
    refine (HCB.out _ hb1).mono ?_; rintro e' v2 ⟨rfl, hb2⟩
    refine hK.out _ _ ?_ (fun hHeld => ?_)
    · (try dsimp only); exact KS.out _ hb2
    clear hK K
    try simp only [Act.put, List.setIfInBounds_toArray, List.set_cons_zero, List.set_cons_succ]
    refine wpAnyH_take (i := 16) (oi := ({ dst := some 59, op := Op.pick (Operand.tmp 55) (Operand.tmp 58) (Operand.const (Value.bool false)), type := 4, pos := "law.go:50", after := #[{ on := 12, ground := Ground.data }, { on := 15, ground := Ground.data }], guard := none } : Oper)) (v := ?vh15) rfl (by kernel_rfl) (by kernel_rfl) (by kernel_rfl) (fun _ _ _ h => h) (Or.inl ⟨by rfl, ?hyh15⟩) (by assumption) ?resth15
    case hyh15 => intro w hSw; (try dsimp only at hSw); go_simp; all_goals (with_reducible rfl)
    try simp only [Act.put, List.setIfInBounds_toArray, List.set_cons_zero, List.set_cons_succ]
    refine wpAnyH_take (i := 17) (oi := ({ dst := some 60, op := Op.move (Operand.tmp 59), type := 4, pos := "law.go:50", after := #[{ on := 16, ground := Ground.data }, { on := 15, ground := Ground.chain }], guard := none } : Oper)) (v := ?vh16) rfl (by kernel_rfl) (by kernel_rfl) (by kernel_rfl) (fun _ _ _ h => h) (Or.inl ⟨by rfl, ?hyh16⟩) (by assumption) ?resth16
    case hyh16 => intro w hSw; (try dsimp only at hSw); go_simp; all_goals (with_reducible rfl)
    try simp only [Act.put, List.setIfInBounds_toArray, List.set_cons_zero, List.set_cons_succ]
    refine wpAnyH_take (i := 18) (oi := ({ dst := some 61, op := Op.load 29 (Operand.tmp 3), type := 29, pos := "law.go:50", after := #[{ on := 17, ground := Ground.guard }], guard := some (17, true) } : Oper)) (v := ?vh17) rfl (by kernel_rfl) (by kernel_rfl) (by kernel_rfl) (fun _ _ _ h => h) (Or.inl ⟨by rfl, ?hyh17⟩) (by assumption) ?resth17
    case hyh17 => intro w hSw; (try dsimp only at hSw); go_simp; all_goals (with_reducible rfl)
    try simp only [Act.put, List.setIfInBounds_toArray, List.set_cons_zero, List.set_cons_succ]
    refine wpAnyH_take (i := 20) (oi := ({ dst := some 63, op := Op.fieldAddr 24 (Operand.tmp 1) 0, type := 0, pos := "law.go:50", after := #[{ on := 17, ground := Ground.guard }], guard := some (17, true) } : Oper)) (v := ?vh18) rfl (by kernel_rfl) (by kernel_rfl) (by kernel_rfl) (fun _ _ _ h => h) (Or.inl ⟨by rfl, ?hyh18⟩) (by assumption) ?resth18
    case hyh18 => intro w hSw; (try dsimp only at hSw); go_simp; all_goals (with_reducible rfl)
    try simp only [Act.put, List.setIfInBounds_toArray, List.set_cons_zero, List.set_cons_succ]
    refine wpAnyH_take (i := 21) (oi := ({ dst := some 64, op := Op.load 3 (Operand.tmp 63), type := 3, pos := "law.go:50", after := #[{ on := 20, ground := Ground.data }, { on := 17, ground := Ground.guard }], guard := some (17, true) } : Oper)) (v := ?vh19) rfl (by kernel_rfl) (by kernel_rfl) (by kernel_rfl) (fun _ _ _ h => h) (Or.inl ⟨by rfl, ?hyh19⟩) (by assumption) ?resth19
    case hyh19 => intro w hSw; (try dsimp only at hSw); go_simp; all_goals (with_reducible rfl)
    try simp only [Act.put, List.setIfInBounds_toArray, List.set_cons_zero, List.set_cons_succ]
    refine wpAnyH_take (i := 22) (oi := ({ dst := some 65, op := Op.binOp BinOp.eql 3 (Operand.tmp 64) (Operand.const (Value.int IntKind.i64 3)) 3, type := 4, pos := "law.go:50", after := #[{ on := 21, ground := Ground.data }, { on := 17, ground := Ground.guard }], guard := some (17, true) } : Oper)) (v := ?vh20) rfl (by kernel_rfl) (by kernel_rfl) (by kernel_rfl) (fun _ _ _ h => h) (Or.inl ⟨by rfl, ?hyh20⟩) (by assumption) ?resth20
    case hyh20 => intro w hSw; (try dsimp only at hSw); go_simp; all_goals (with_reducible rfl)
    try simp only [Act.put, List.setIfInBounds_toArray, List.set_cons_zero, List.set_cons_succ]
    refine wpAnyH_ready (rs := [19]) (by kernel_rfl) (by simp) ?_
    refine (AllReadyH.cons (o := ({ dst := some 62, op := Op.call { callee := Callee.value (Operand.func 17), args := #[Operand.tmp 61], argTypes := #[29] }, type := 4, pos := "law.go:50", after := #[{ on := 18, ground := Ground.data }, { on := 17, ground := Ground.chain }, { on := 17, ground := Ground.guard }], guard := some (17, true) } : Oper)) rfl (fun K hK => ?_) AllReadyH.nil)
    go_simp
    refine (HCC.out _ hb2).mono ?_; rintro e' v3 ⟨rfl, hb3⟩
    refine hK.out _ _ ?_ (fun hHeld => ?_)
    · (try dsimp only); exact KS.out _ hb3
    clear hK K
    try simp only [Act.put, List.setIfInBounds_toArray, List.set_cons_zero, List.set_cons_succ]
    refine wpAnyH_take (i := 23) (oi := ({ dst := some 66, op := Op.binOp BinOp.eql 4 (Operand.tmp 62) (Operand.tmp 65) 4, type := 4, pos := "law.go:50", after := #[{ on := 19, ground := Ground.data }, { on := 22, ground := Ground.data }, { on := 17, ground := Ground.guard }], guard := some (17, true) } : Oper)) (v := ?vh21) rfl (by kernel_rfl) (by kernel_rfl) (by kernel_rfl) (fun _ _ _ h => h) (Or.inl ⟨by rfl, ?hyh21⟩) (by assumption) ?resth21
    case hyh21 => intro w hSw; (try dsimp only at hSw); go_simp; all_goals (with_reducible rfl)
    try simp only [Act.put, List.setIfInBounds_toArray, List.set_cons_zero, List.set_cons_succ]
    refine wpAnyH_take (i := 24) (oi := ({ dst := some 67, op := Op.pick (Operand.tmp 60) (Operand.tmp 66) (Operand.const (Value.bool false)), type := 4, pos := "law.go:50", after := #[{ on := 17, ground := Ground.data }, { on := 23, ground := Ground.data }], guard := none } : Oper)) (v := ?vh22) rfl (by kernel_rfl) (by kernel_rfl) (by kernel_rfl) (fun _ _ _ h => h) (Or.inl ⟨by rfl, ?hyh22⟩) (by assumption) ?resth22
    case hyh22 => intro w hSw; (try dsimp only at hSw); go_simp; all_goals (with_reducible rfl)
    try simp only [Act.put, List.setIfInBounds_toArray, List.set_cons_zero, List.set_cons_succ]
    refine wpAnyH_take (i := 25) (oi := ({ dst := some 68, op := Op.move (Operand.tmp 67), type := 4, pos := "law.go:50", after := #[{ on := 24, ground := Ground.data }, { on := 19, ground := Ground.chain }], guard := none } : Oper)) (v := ?vh23) rfl (by kernel_rfl) (by kernel_rfl) (by kernel_rfl) (fun _ _ _ h => h) (Or.inl ⟨by rfl, ?hyh23⟩) (by assumption) ?resth23
    case hyh23 => intro w hSw; (try dsimp only at hSw); go_simp; all_goals (with_reducible rfl)
    try simp only [Act.put, List.setIfInBounds_toArray, List.set_cons_zero, List.set_cons_succ]
    refine wpAnyH_take (i := 26) (oi := ({ dst := some 69, op := Op.move (Operand.tmp 8), type := 27, pos := "law.go:50", after := #[{ on := 25, ground := Ground.guard }], guard := some (25, true) } : Oper)) (v := ?vh24) rfl (by kernel_rfl) (by kernel_rfl) (by kernel_rfl) (fun _ _ _ h => h) (Or.inl ⟨by rfl, ?hyh24⟩) (by assumption) ?resth24
    case hyh24 => intro w hSw; (try dsimp only at hSw); go_simp; all_goals (with_reducible rfl)
    try simp only [Act.put, List.setIfInBounds_toArray, List.set_cons_zero, List.set_cons_succ]
    refine wpAnyH_take (i := 27) (oi := ({ dst := some 70, op := Op.call { callee := Callee.builtin Builtin.len, args := #[Operand.tmp 69], argTypes := #[27] }, type := 3, pos := "law.go:50", after := #[{ on := 26, ground := Ground.data }, { on := 25, ground := Ground.guard }], guard := some (25, true) } : Oper)) (v := ?vh25) rfl (by kernel_rfl) (by kernel_rfl) (by kernel_rfl) (fun _ _ _ h => h) (Or.inl ⟨by rfl, ?hyh25⟩) (by assumption) ?resth25
    case hyh25 => intro w hSw; (try dsimp only at hSw); go_simp; all_goals (with_reducible rfl)
    try simp only [Act.put, List.setIfInBounds_toArray, List.set_cons_zero, List.set_cons_succ]
    refine wpAnyH_take (i := 28) (oi := ({ dst := some 71, op := Op.move (Operand.tmp 9), type := 3, pos := "law.go:50", after := #[{ on := 25, ground := Ground.guard }], guard := some (25, true) } : Oper)) (v := ?vh26) rfl (by kernel_rfl) (by kernel_rfl) (by kernel_rfl) (fun _ _ _ h => h) (Or.inl ⟨by rfl, ?hyh26⟩) (by assumption) ?resth26
    case hyh26 => intro w hSw; (try dsimp only at hSw); go_simp; all_goals (with_reducible rfl)
    try simp only [Act.put, List.setIfInBounds_toArray, List.set_cons_zero, List.set_cons_succ]
    refine wpAnyH_take (i := 29) (oi := ({ dst := some 72, op := Op.binOp BinOp.eql 3 (Operand.tmp 70) (Operand.tmp 71) 3, type := 4, pos := "law.go:50", after := #[{ on := 27, ground := Ground.data }, { on := 28, ground := Ground.data }, { on := 25, ground := Ground.guard }], guard := some (25, true) } : Oper)) (v := ?vh27) rfl (by kernel_rfl) (by kernel_rfl) (by kernel_rfl) (fun _ _ _ h => h) (Or.inl ⟨by rfl, ?hyh27⟩) (by assumption) ?resth27
    case hyh27 => intro w hSw; (try dsimp only at hSw); go_simp; all_goals (with_reducible rfl)
    try simp only [Act.put, List.setIfInBounds_toArray, List.set_cons_zero, List.set_cons_succ]
    refine wpAnyH_take (i := 30) (oi := ({ dst := some 73, op := Op.pick (Operand.tmp 68) (Operand.tmp 72) (Operand.const (Value.bool false)), type := 4, pos := "law.go:50", after := #[{ on := 25, ground := Ground.data }, { on := 29, ground := Ground.data }], guard := none } : Oper)) (v := ?vh28) rfl (by kernel_rfl) (by kernel_rfl) (by kernel_rfl) (fun _ _ _ h => h) (Or.inl ⟨by rfl, ?hyh28⟩) (by assumption) ?resth28
    case hyh28 => intro w hSw; (try dsimp only at hSw); go_simp; all_goals (with_reducible rfl)
    try simp only [Act.put, List.setIfInBounds_toArray, List.set_cons_zero, List.set_cons_succ]
    refine wpAnyH_take (i := 31) (oi := ({ dst := some 74, op := Op.move (Operand.tmp 73), type := 4, pos := "law.go:50", after := #[{ on := 30, ground := Ground.data }, { on := 25, ground := Ground.chain }], guard := none } : Oper)) (v := ?vh29) rfl (by kernel_rfl) (by kernel_rfl) (by kernel_rfl) (fun _ _ _ h => h) (Or.inl ⟨by rfl, ?hyh29⟩) (by assumption) ?resth29
    case hyh29 => intro w hSw; (try dsimp only at hSw); go_simp; all_goals (with_reducible rfl)
    try simp only [Act.put, List.setIfInBounds_toArray, List.set_cons_zero, List.set_cons_succ]
    refine wpAnyH_take (i := 32) (oi := ({ dst := some 75, op := Op.fieldAddr 24 (Operand.tmp 1) 0, type := 0, pos := "law.go:50", after := #[{ on := 31, ground := Ground.guard }], guard := some (31, true) } : Oper)) (v := ?vh30) rfl (by kernel_rfl) (by kernel_rfl) (by kernel_rfl) (fun _ _ _ h => h) (Or.inl ⟨by rfl, ?hyh30⟩) (by assumption) ?resth30
    case hyh30 => intro w hSw; (try dsimp only at hSw); go_simp; all_goals (with_reducible rfl)
    try simp only [Act.put, List.setIfInBounds_toArray, List.set_cons_zero, List.set_cons_succ]
    refine wpAnyH_take (i := 33) (oi := ({ dst := some 76, op := Op.load 3 (Operand.tmp 75), type := 3, pos := "law.go:50", after := #[{ on := 32, ground := Ground.data }, { on := 31, ground := Ground.guard }], guard := some (31, true) } : Oper)) (v := ?vh31) rfl (by kernel_rfl) (by kernel_rfl) (by kernel_rfl) (fun _ _ _ h => h) (Or.inl ⟨by rfl, ?hyh31⟩) (by assumption) ?resth31
    case hyh31 => intro w hSw; (try dsimp only at hSw); go_simp; all_goals (with_reducible rfl)
    try simp only [Act.put, List.setIfInBounds_toArray, List.set_cons_zero, List.set_cons_succ]
    refine wpAnyH_take (i := 34) (oi := ({ dst := some 77, op := Op.binOp BinOp.neq 3 (Operand.tmp 76) (Operand.const (Value.int IntKind.i64 2)) 3, type := 4, pos := "law.go:50", after := #[{ on := 33, ground := Ground.data }, { on := 31, ground := Ground.guard }], guard := some (31, true) } : Oper)) (v := ?vh32) rfl (by kernel_rfl) (by kernel_rfl) (by kernel_rfl) (fun _ _ _ h => h) (Or.inl ⟨by rfl, ?hyh32⟩) (by assumption) ?resth32
    case hyh32 => intro w hSw; (try dsimp only at hSw); go_simp; all_goals (with_reducible rfl)
    try simp only [Act.put, List.setIfInBounds_toArray, List.set_cons_zero, List.set_cons_succ]
    refine wpAnyH_take (i := 35) (oi := ({ dst := some 78, op := Op.move (Operand.tmp 77), type := 4, pos := "law.go:50", after := #[{ on := 34, ground := Ground.data }, { on := 31, ground := Ground.chain }, { on := 31, ground := Ground.guard }], guard := some (31, true) } : Oper)) (v := ?vh33) rfl (by kernel_rfl) (by kernel_rfl) (by kernel_rfl) (fun _ _ _ h => h) (Or.inl ⟨by rfl, ?hyh33⟩) (by assumption) ?resth33
    case hyh33 => intro w hSw; (try dsimp only at hSw); go_simp; all_goals (with_reducible rfl)
    try simp only [Act.put, List.setIfInBounds_toArray, List.set_cons_zero, List.set_cons_succ]
    refine wpAnyH_take (i := 36) (oi := ({ dst := some 79, op := Op.move (Operand.tmp 8), type := 27, pos := "law.go:50", after := #[{ on := 35, ground := Ground.guard }], guard := some (35, false) } : Oper)) (v := undef) rfl (by kernel_rfl) (by kernel_rfl) (by kernel_rfl) (fun _ _ _ h => h) (Or.inr ⟨by rfl, rfl⟩) (by assumption) ?_
    try simp only [Act.put, List.setIfInBounds_toArray, List.set_cons_zero, List.set_cons_succ]
    refine wpAnyH_take (i := 37) (oi := ({ dst := some 80, op := Op.indexAddr 27 (Operand.tmp 79) (Operand.const (Value.int IntKind.i64 0)), type := 0, pos := "law.go:50", after := #[{ on := 36, ground := Ground.data }, { on := 35, ground := Ground.guard }], guard := some (35, false) } : Oper)) (v := undef) rfl (by kernel_rfl) (by kernel_rfl) (by kernel_rfl) (fun _ _ _ h => h) (Or.inr ⟨by rfl, rfl⟩) (by assumption) ?_
    try simp only [Act.put, List.setIfInBounds_toArray, List.set_cons_zero, List.set_cons_succ]
    refine wpAnyH_take (i := 38) (oi := ({ dst := some 81, op := Op.fieldAddr 44 (Operand.tmp 80) 0, type := 0, pos := "law.go:50", after := #[{ on := 37, ground := Ground.data }, { on := 35, ground := Ground.guard }], guard := some (35, false) } : Oper)) (v := undef) rfl (by kernel_rfl) (by kernel_rfl) (by kernel_rfl) (fun _ _ _ h => h) (Or.inr ⟨by rfl, rfl⟩) (by assumption) ?_
    try simp only [Act.put, List.setIfInBounds_toArray, List.set_cons_zero, List.set_cons_succ]
    refine wpAnyH_take (i := 39) (oi := ({ dst := some 82, op := Op.load 3 (Operand.tmp 81), type := 3, pos := "law.go:50", after := #[{ on := 38, ground := Ground.data }, { on := 35, ground := Ground.guard }], guard := some (35, false) } : Oper)) (v := undef) rfl (by kernel_rfl) (by kernel_rfl) (by kernel_rfl) (fun _ _ _ h => h) (Or.inr ⟨by rfl, rfl⟩) (by assumption) ?_
    try simp only [Act.put, List.setIfInBounds_toArray, List.set_cons_zero, List.set_cons_succ]
    refine wpAnyH_take (i := 40) (oi := ({ dst := some 83, op := Op.binOp BinOp.eql 3 (Operand.tmp 82) (Operand.const (Value.int IntKind.i64 1)) 3, type := 4, pos := "law.go:50", after := #[{ on := 39, ground := Ground.data }, { on := 35, ground := Ground.guard }], guard := some (35, false) } : Oper)) (v := undef) rfl (by kernel_rfl) (by kernel_rfl) (by kernel_rfl) (fun _ _ _ h => h) (Or.inr ⟨by rfl, rfl⟩) (by assumption) ?_
    try simp only [Act.put, List.setIfInBounds_toArray, List.set_cons_zero, List.set_cons_succ]
    refine wpAnyH_take (i := 41) (oi := ({ dst := some 84, op := Op.pick (Operand.tmp 78) (Operand.const (Value.bool true)) (Operand.tmp 83), type := 4, pos := "law.go:50", after := #[{ on := 35, ground := Ground.data }, { on := 40, ground := Ground.data }, { on := 31, ground := Ground.guard }], guard := some (31, true) } : Oper)) (v := ?vh39) rfl (by kernel_rfl) (by kernel_rfl) (by kernel_rfl) (fun _ _ _ h => h) (Or.inl ⟨by rfl, ?hyh39⟩) (by assumption) ?resth39
    case hyh39 => intro w hSw; (try dsimp only at hSw); go_simp; all_goals (with_reducible rfl)
    try simp only [Act.put, List.setIfInBounds_toArray, List.set_cons_zero, List.set_cons_succ]
    refine wpAnyH_take (i := 42) (oi := ({ dst := some 85, op := Op.pick (Operand.tmp 74) (Operand.tmp 84) (Operand.const (Value.bool false)), type := 4, pos := "law.go:50", after := #[{ on := 31, ground := Ground.data }, { on := 41, ground := Ground.data }], guard := none } : Oper)) (v := ?vh40) rfl (by kernel_rfl) (by kernel_rfl) (by kernel_rfl) (fun _ _ _ h => h) (Or.inl ⟨by rfl, ?hyh40⟩) (by assumption) ?resth40
    case hyh40 => intro w hSw; (try dsimp only at hSw); go_simp; all_goals (with_reducible rfl)
    try simp only [Act.put, List.setIfInBounds_toArray, List.set_cons_zero, List.set_cons_succ]
    refine wpAnyH_take (i := 43) (oi := ({ dst := some 86, op := Op.move (Operand.tmp 85), type := 4, pos := "law.go:50", after := #[{ on := 42, ground := Ground.data }, { on := 35, ground := Ground.chain }], guard := none } : Oper)) (v := ?vh41) rfl (by kernel_rfl) (by kernel_rfl) (by kernel_rfl) (fun _ _ _ h => h) (Or.inl ⟨by rfl, ?hyh41⟩) (by assumption) ?resth41
    case hyh41 => intro w hSw; (try dsimp only at hSw); go_simp; all_goals (with_reducible rfl)
    try simp only [Act.put, List.setIfInBounds_toArray, List.set_cons_zero, List.set_cons_succ]
    refine wpAnyH_take (i := 44) (oi := ({ dst := some 87, op := Op.move (Operand.tmp 8), type := 27, pos := "law.go:50", after := #[{ on := 43, ground := Ground.guard }], guard := some (43, true) } : Oper)) (v := ?vh42) rfl (by kernel_rfl) (by kernel_rfl) (by kernel_rfl) (fun _ _ _ h => h) (Or.inl ⟨by rfl, ?hyh42⟩) (by assumption) ?resth42
    case hyh42 => intro w hSw; (try dsimp only at hSw); go_simp; all_goals (with_reducible rfl)
    try simp only [Act.put, List.setIfInBounds_toArray, List.set_cons_zero, List.set_cons_succ]
    refine wpAnyH_take (i := 45) (oi := ({ dst := some 88, op := Op.move (Operand.tmp 9), type := 3, pos := "law.go:50", after := #[{ on := 43, ground := Ground.guard }], guard := some (43, true) } : Oper)) (v := ?vh43) rfl (by kernel_rfl) (by kernel_rfl) (by kernel_rfl) (fun _ _ _ h => h) (Or.inl ⟨by rfl, ?hyh43⟩) (by assumption) ?resth43
    case hyh43 => intro w hSw; (try dsimp only at hSw); go_simp; all_goals (with_reducible rfl)
    try simp only [Act.put, List.setIfInBounds_toArray, List.set_cons_zero, List.set_cons_succ]
    refine wpAnyH_take (i := 46) (oi := ({ dst := some 89, op := Op.fieldAddr 24 (Operand.tmp 1) 5, type := 0, pos := "law.go:50", after := #[{ on := 43, ground := Ground.guard }], guard := some (43, true) } : Oper)) (v := ?vh44) rfl (by kernel_rfl) (by kernel_rfl) (by kernel_rfl) (fun _ _ _ h => h) (Or.inl ⟨by rfl, ?hyh44⟩) (by assumption) ?resth44
    case hyh44 => intro w hSw; (try dsimp only at hSw); go_simp; all_goals (with_reducible rfl)
    try simp only [Act.put, List.setIfInBounds_toArray, List.set_cons_zero, List.set_cons_succ]
    refine wpAnyH_take (i := 47) (oi := ({ dst := some 90, op := Op.load 22 (Operand.tmp 89), type := 22, pos := "law.go:50", after := #[{ on := 46, ground := Ground.data }, { on := 43, ground := Ground.guard }], guard := some (43, true) } : Oper)) (v := ?vh45) rfl (by kernel_rfl) (by kernel_rfl) (by kernel_rfl) (fun _ _ _ h => h) (Or.inl ⟨by rfl, ?hyh45⟩) (by assumption) ?resth45
    case hyh45 => intro w hSw; (try dsimp only at hSw); go_simp; all_goals (with_reducible rfl)
    try simp only [Act.put, List.setIfInBounds_toArray, List.set_cons_zero, List.set_cons_succ]
    refine wpAnyH_take (i := 48) (oi := ({ dst := some 91, op := Op.call { callee := Callee.builtin Builtin.len, args := #[Operand.tmp 90], argTypes := #[22] }, type := 3, pos := "law.go:50", after := #[{ on := 47, ground := Ground.data }, { on := 43, ground := Ground.guard }], guard := some (43, true) } : Oper)) (v := ?vh46) rfl (by kernel_rfl) (by kernel_rfl) (by kernel_rfl) (fun _ _ _ h => h) (Or.inl ⟨by rfl, ?hyh46⟩) (by assumption) ?resth46
    case hyh46 => intro w hSw; (try dsimp only at hSw); go_simp; all_goals (with_reducible rfl)
    try simp only [Act.put, List.setIfInBounds_toArray, List.set_cons_zero, List.set_cons_succ]
    refine wpAnyH_take (i := 49) (oi := ({ dst := some 92, op := Op.binOp BinOp.sub 3 (Operand.tmp 88) (Operand.tmp 91) 3, type := 3, pos := "law.go:50", after := #[{ on := 45, ground := Ground.data }, { on := 48, ground := Ground.data }, { on := 43, ground := Ground.guard }], guard := some (43, true) } : Oper)) (v := ?vh47) rfl (by kernel_rfl) (by kernel_rfl) (by kernel_rfl) (fun _ _ _ h => h) (Or.inl ⟨by rfl, ?hyh47⟩) (by assumption) ?resth47
    case hyh47 => intro w hSw; (try dsimp only at hSw); go_simp; all_goals (with_reducible rfl)
    try simp only [Act.put, List.setIfInBounds_toArray, List.set_cons_zero, List.set_cons_succ]
    refine wpAnyH_take (i := 50) (oi := ({ dst := some 93, op := Op.slice 27 (Operand.tmp 87) (some (Operand.tmp 92)) none none, type := 27, pos := "law.go:50", after := #[{ on := 44, ground := Ground.data }, { on := 49, ground := Ground.data }, { on := 43, ground := Ground.guard }], guard := some (43, true) } : Oper)) (v := ?vh48) rfl (by kernel_rfl) (by kernel_rfl) (by kernel_rfl) (fun _ _ _ h => h) (Or.inl ⟨by rfl, ?hyh48⟩) (by assumption) ?resth48
    case hyh48 => intro w hSw; (try dsimp only at hSw); go_simp; all_goals (with_reducible rfl)
    try simp only [Act.put, List.setIfInBounds_toArray, List.set_cons_zero, List.set_cons_succ]
    refine wpAnyH_take (i := 52) (oi := ({ dst := some 95, op := Op.fieldAddr 29 (Operand.tmp 3) 5, type := 0, pos := "law.go:50", after := #[{ on := 43, ground := Ground.guard }], guard := some (43, true) } : Oper)) (v := ?vh49) rfl (by kernel_rfl) (by kernel_rfl) (by kernel_rfl) (fun _ _ _ h => h) (Or.inl ⟨by rfl, ?hyh49⟩) (by assumption) ?resth49
    case hyh49 => intro w hSw; (try dsimp only at hSw); go_simp; all_goals (with_reducible rfl)
    try simp only [Act.put, List.setIfInBounds_toArray, List.set_cons_zero, List.set_cons_succ]
    refine wpAnyH_take (i := 53) (oi := ({ dst := some 96, op := Op.load 27 (Operand.tmp 95), type := 27, pos := "law.go:50", after := #[{ on := 52, ground := Ground.data }, { on := 43, ground := Ground.guard }], guard := some (43, true) } : Oper)) (v := ?vh50) rfl (by kernel_rfl) (by kernel_rfl) (by kernel_rfl) (fun _ _ _ h => h) (Or.inl ⟨by rfl, ?hyh50⟩) (by assumption) ?resth50
    case hyh50 => intro w hSw; (try dsimp only at hSw); go_simp; all_goals (with_reducible rfl)
    try simp only [Act.put, List.setIfInBounds_toArray, List.set_cons_zero, List.set_cons_succ]
    refine wpAnyH_ready (rs := [51]) (by kernel_rfl) (by simp) ?_
    refine (AllReadyH.cons (o := ({ dst := some 94, op := Op.call { callee := Callee.value (Operand.func 18), args := #[Operand.tmp 93], argTypes := #[27] }, type := 9, pos := "law.go:50", after := #[{ on := 50, ground := Ground.data }, { on := 43, ground := Ground.chain }, { on := 43, ground := Ground.guard }], guard := some (43, true) } : Oper)) rfl (fun K hK => ?_) AllReadyH.nil)
    go_simp
    refine (HCD.out _ hb3).mono ?_; rintro e' v4 ⟨rfl, hb4⟩
    refine hK.out _ _ ?_ (fun hHeld => ?_)
    · (try dsimp only); exact KS.out _ hb4
    clear hK K
    try simp only [Act.put, List.setIfInBounds_toArray, List.set_cons_zero, List.set_cons_succ]
    refine wpAnyH_ready (rs := [54]) (by kernel_rfl) (by simp) ?_
    refine (AllReadyH.cons (o := ({ dst := some 97, op := Op.call { callee := Callee.value (Operand.func 18), args := #[Operand.tmp 96], argTypes := #[27] }, type := 9, pos := "law.go:50", after := #[{ on := 53, ground := Ground.data }, { on := 51, ground := Ground.chain }, { on := 43, ground := Ground.guard }], guard := some (43, true) } : Oper)) rfl (fun K hK => ?_) AllReadyH.nil)
    go_simp
    refine (HCE.out _ hb4).mono ?_; rintro e' v5 ⟨rfl, hb5⟩
    refine hK.out _ _ ?_ (fun hHeld => ?_)
    · (try dsimp only); exact KS.out _ hb5
    clear hK K
    try simp only [Act.put, List.setIfInBounds_toArray, List.set_cons_zero, List.set_cons_succ]
    refine wpAnyH_take (i := 55) (oi := ({ dst := some 98, op := Op.binOp BinOp.eql 9 (Operand.tmp 94) (Operand.tmp 97) 9, type := 4, pos := "law.go:50", after := #[{ on := 51, ground := Ground.data }, { on := 54, ground := Ground.data }, { on := 43, ground := Ground.guard }], guard := some (43, true) } : Oper)) (v := ?vh51) rfl (by kernel_rfl) (by kernel_rfl) (by kernel_rfl) (fun _ _ _ h => h) (Or.inl ⟨by rfl, ?hyh51⟩) (by assumption) ?resth51
    case hyh51 => intro w hSw; (try dsimp only at hSw); go_simp; all_goals (with_reducible rfl)
    try simp only [Act.put, List.setIfInBounds_toArray, List.set_cons_zero, List.set_cons_succ]
    refine wpAnyH_take (i := 56) (oi := ({ dst := some 99, op := Op.pick (Operand.tmp 86) (Operand.tmp 98) (Operand.const (Value.bool false)), type := 4, pos := "law.go:50", after := #[{ on := 43, ground := Ground.data }, { on := 55, ground := Ground.data }], guard := none } : Oper)) (v := ?vh52) rfl (by kernel_rfl) (by kernel_rfl) (by kernel_rfl) (fun _ _ _ h => h) (Or.inl ⟨by rfl, ?hyh52⟩) (by assumption) ?resth52
    case hyh52 => intro w hSw; (try dsimp only at hSw); go_simp; all_goals (with_reducible rfl)
    try simp only [Act.put, List.setIfInBounds_toArray, List.set_cons_zero, List.set_cons_succ]
    refine wpAnyH_take (i := 57) (oi := ({ dst := some 2, op := Op.assign (Operand.tmp 99), type := 4, pos := "law.go:50", after := #[{ on := 56, ground := Ground.data }, { on := 54, ground := Ground.chain }, { on := 0, ground := Ground.phase }, { on := 1, ground := Ground.phase }, { on := 2, ground := Ground.phase }, { on := 3, ground := Ground.phase }, { on := 4, ground := Ground.phase }, { on := 5, ground := Ground.phase }, { on := 6, ground := Ground.phase }, { on := 7, ground := Ground.phase }, { on := 8, ground := Ground.phase }, { on := 9, ground := Ground.phase }, { on := 10, ground := Ground.phase }, { on := 11, ground := Ground.phase }, { on := 12, ground := Ground.phase }, { on := 13, ground := Ground.phase }, { on := 14, ground := Ground.phase }, { on := 15, ground := Ground.phase }, { on := 16, ground := Ground.phase }, { on := 17, ground := Ground.phase }, { on := 18, ground := Ground.phase }, { on := 19, ground := Ground.phase }, { on := 20, ground := Ground.phase }, { on := 21, ground := Ground.phase }, { on := 22, ground := Ground.phase }, { on := 23, ground := Ground.phase }, { on := 24, ground := Ground.phase }, { on := 25, ground := Ground.phase }, { on := 26, ground := Ground.phase }, { on := 27, ground := Ground.phase }, { on := 28, ground := Ground.phase }, { on := 29, ground := Ground.phase }, { on := 30, ground := Ground.phase }, { on := 31, ground := Ground.phase }, { on := 32, ground := Ground.phase }, { on := 33, ground := Ground.phase }, { on := 34, ground := Ground.phase }, { on := 35, ground := Ground.phase }, { on := 36, ground := Ground.phase }, { on := 37, ground := Ground.phase }, { on := 38, ground := Ground.phase }, { on := 39, ground := Ground.phase }, { on := 40, ground := Ground.phase }, { on := 41, ground := Ground.phase }, { on := 42, ground := Ground.phase }, { on := 43, ground := Ground.phase }, { on := 44, ground := Ground.phase }, { on := 45, ground := Ground.phase }, { on := 46, ground := Ground.phase }, { on := 47, ground := Ground.phase }, { on := 48, ground := Ground.phase }, { on := 49, ground := Ground.phase }, { on := 50, ground := Ground.phase }, { on := 51, ground := Ground.phase }, { on := 52, ground := Ground.phase }, { on := 53, ground := Ground.phase }, { on := 54, ground := Ground.phase }, { on := 55, ground := Ground.phase }, { on := 56, ground := Ground.phase }], guard := none } : Oper)) (v := ?vh53) rfl (by kernel_rfl) (by kernel_rfl) (by kernel_rfl) (fun _ _ _ h => h) (Or.inl ⟨by rfl, ?hyh53⟩) (by assumption) ?resth53
    case hyh53 => intro w hSw; (try dsimp only at hSw); go_simp; all_goals (with_reducible rfl)
    try simp only [Act.put, List.setIfInBounds_toArray, List.set_cons_zero, List.set_cons_succ]
    refine wpAnyH_done (by kernel_rfl) ?_ _
    have HFB := Lib.hid (HBF.out.trans (hb5.mono HBF.out.size))
    clear hb1 hb2 hb3 hb4 hb5 KS
    go_wp2_with fail
    go_ret
    exact ⟨rfl, HFB.out⟩
theorem texts22_law (kd sz su wk cp : Int) (O : List (Int × Int)) (kv : Value) (w : World) (hg : GT w) (hk : EdgesV w kv O) (hl : O.length * 16 ≤ 140737488351232) :
    Calls Tryz.prog 3 #[.agg (cV ⟨kd, sz, su, wk, cp⟩ kv)] w fun e w' => e = .returned (.bool true) ∧ Below w.heap.size w w' := by
  cases hr : rightKB ⟨⟨kd, sz, su, wk, cp⟩, O⟩ with
  | false => exact textsBad_law kd sz su wk cp O kv w hg hk hl hr
  | true =>
    obtain ⟨h0, hs, h2, h3, h4, h5, h6⟩ := rightKB_iff.1 hr
    have hsu : 0 ≤ su ∧ su ≤ 1000000 := by
      unfold supB at hs
      split at hs
      · have := of_decide_eq_true hs
        simp only at this
        omega
      · have := of_decide_eq_true hs
        simp only at this
        omega
    obtain ⟨n1, rfl⟩ := Int.eq_ofNat_of_zero_le (show 0 ≤ sz by omega)
    obtain ⟨n2, rfl⟩ := Int.eq_ofNat_of_zero_le hsu.1
    obtain ⟨n3, rfl⟩ := Int.eq_ofNat_of_zero_le (show 0 ≤ wk by omega)
    obtain ⟨n4, rfl⟩ := Int.eq_ofNat_of_zero_le (show 0 ≤ cp by omega)
    exact textsGood_law kd kd.toNat n1 n2 n3 n4 (Int.toNat_of_nonneg (by omega)) O kv w hg hk hr (by omega) (by omega) (by omega) (by omega) (by omega) h5 h6
end Go.Proofs.YtbbdammdiplagaaGreatDoor
