/- Two jobs of the same fields are the same. -/
import Derived.Test.YtbbdammdiplagaaGreatDoorConfZ
import Derived.Test.YtbbdammdiplagaaGreatDoorText17
namespace Go.Proofs.YtbbdammdiplagaaGreatDoor
open Go.RowKit

set_option maxRecDepth 100000 in
set_option maxHeartbeats 8000000 in
theorem same22_yes (kd sz su wk cp : Int) (O : List (Int × Int)) (kv kv' : Value) (w : World) (hg : GT w) (hk : EdgesV w kv O) (hk' : EdgesV w kv' O) (b5 : O.length ≤ 15) (b6 : progF O = none) :
    Calls Tryz.prog 16 #[.agg (cV ⟨kd, sz, su, wk, cp⟩ kv), .agg (cV ⟨kd, sz, su, wk, cp⟩ kv')] w fun e w' => e = .returned (.bool true) ∧ Below w.heap.size w w' := by
  obtain ⟨A, c, rfl⟩ := hk.form
  obtain ⟨A', c', rfl⟩ := hk'.form
  obtain ⟨q, hq⟩ : ∃ q, O.length = q := ⟨_, rfl⟩
  rw [hq] at hk hk' b5 ⊢
  have hb1 : Below w.heap.size w ((w.alloc (.cells (cV ⟨kd, sz, su, wk, cp⟩ (.slice A q c)) 29)).alloc (.cells (cV ⟨kd, sz, su, wk, cp⟩ (.slice A' q c')) 29)) := ((Below.refl _ _).alloc (Nat.le_refl _) _).alloc (by simp) _
  have hx := (Whole.new w 29 (cV ⟨kd, sz, su, wk, cp⟩ (.slice A q c))).alloc (.cells (cV ⟨kd, sz, su, wk, cp⟩ (.slice A' q c')) 29)
  have hy := Whole.new (w.alloc (.cells (cV ⟨kd, sz, su, wk, cp⟩ (.slice A q c)) 29)) 29 (cV ⟨kd, sz, su, wk, cp⟩ (.slice A' q c'))
  rw [World.size_alloc] at hy
  obtain ⟨w1, hw1⟩ : ∃ W, (w.alloc (.cells (cV ⟨kd, sz, su, wk, cp⟩ (.slice A q c)) 29)).alloc (.cells (cV ⟨kd, sz, su, wk, cp⟩ (.slice A' q c')) 29) = W := ⟨_, rfl⟩
  obtain ⟨xb, hxb⟩ : ∃ g, w.heap.size = g := ⟨_, rfl⟩
  rw [hw1] at hb1 hx hy
  rw [hxb] at hx hy
  have hsm : ∀ o ∈ O, 0 ≤ o.2 ∧ o.2 < 1000000 := fun o ho => by have := wrongF_zero ((progF_none.1 b6).2 o ho); omega
  have hk1 := hk.below hb1 (Nat.le_refl _)
  have hk2 := hk'.below hb1 (Nat.le_refl _)
  have hg1 := hg.below hb1 (Nat.le_refl _)
  obtain ⟨t, ht⟩ : ∃ t, str (progT O) = t := ⟨_, rfl⟩
  have HT1 : Hid (∀ W, Below w1.heap.size w1 W → Calls Tryz.prog 18 #[.slice A q c] W fun e w' => e = .returned (.string t) ∧ Below w1.heap.size w1 w') := Lib.hid (fun W hb => by
    rw [← ht]
    exact (progText_any (hg1.below hb (Nat.le_refl _)) (hk1.below hb (Nat.le_refl _)) (by omega) hsm).mono fun e w' ⟨h1, h2⟩ => ⟨h1, hb.trans (h2.mono hb.size)⟩)
  have HT2 : Hid (∀ W, Below w1.heap.size w1 W → Calls Tryz.prog 18 #[.slice A' q c'] W fun e w' => e = .returned (.string t) ∧ Below w1.heap.size w1 w') := Lib.hid (fun W hb => by
    rw [← ht]
    exact (progText_any (hg1.below hb (Nat.le_refl _)) (hk2.below hb (Nat.le_refl _)) (by omega) hsm).mono fun e w' ⟨h1, h2⟩ => ⟨h1, hb.trans (h2.mono hb.size)⟩)
  have KS := Lib.hid (fun (W : World) (hb : Below w1.heap.size w1 W) => (show W.cell? ⟨xb, 0, none⟩ = some (.int .i64 kd) ∧ W.cell? ⟨xb, 1, none⟩ = some (.int .i64 sz) ∧ W.cell? ⟨xb, 2, none⟩ = some (.int .i64 su) ∧ W.cell? ⟨xb, 3, none⟩ = some (.int .i64 wk) ∧ W.cell? ⟨xb, 4, none⟩ = some (.int .i64 cp) ∧ W.cell? ⟨xb, 5, none⟩ = some (.slice A q c) ∧ W.cell? ⟨xb + 1, 0, none⟩ = some (.int .i64 kd) ∧ W.cell? ⟨xb + 1, 1, none⟩ = some (.int .i64 sz) ∧ W.cell? ⟨xb + 1, 2, none⟩ = some (.int .i64 su) ∧ W.cell? ⟨xb + 1, 3, none⟩ = some (.int .i64 wk) ∧ W.cell? ⟨xb + 1, 4, none⟩ = some (.int .i64 cp) ∧ W.cell? ⟨xb + 1, 5, none⟩ = some (.slice A' q c') from
    have h := hx.below hb hx.lt
    have k := hy.below hb hy.lt
    ⟨h.cell 0, h.cell 1, h.cell 2, h.cell 3, h.cell 4, h.cell 5, k.cell 0, k.cell 1, k.cell 2, k.cell 3, k.cell 4, k.cell 5⟩))
  have te : (t.toList == t.toList) = true := by simp
  have e1 : (kd == kd) = true := by simp
  have e2 : (sz == sz) = true := by simp
  have e3 : (su == su) = true := by simp
  have e4 : (wk == wk) = true := by simp
  have e5 : (cp == cp) = true := by simp
  have HB1 := Lib.hid hb1; have HW1 := Lib.hid hw1; have HXB := Lib.hid hxb
  clear hb1 hx hy hw1 hxb hsm hk1 hk2 hg1 ht hg hk hk' b5 b6
  go_enter Tryz.func16, Tryz.ntmps16
  go_upto_region 1 with fail
  rw [HW1.out, HXB.out]
  go_region_held3 (fun W => W.cell? ⟨xb, 0, none⟩ = some (.int .i64 kd) ∧ W.cell? ⟨xb, 1, none⟩ = some (.int .i64 sz) ∧ W.cell? ⟨xb, 2, none⟩ = some (.int .i64 su) ∧ W.cell? ⟨xb, 3, none⟩ = some (.int .i64 wk) ∧ W.cell? ⟨xb, 4, none⟩ = some (.int .i64 cp) ∧ W.cell? ⟨xb, 5, none⟩ = some (.slice A q c) ∧ W.cell? ⟨xb + 1, 0, none⟩ = some (.int .i64 kd) ∧ W.cell? ⟨xb + 1, 1, none⟩ = some (.int .i64 sz) ∧ W.cell? ⟨xb + 1, 2, none⟩ = some (.int .i64 su) ∧ W.cell? ⟨xb + 1, 3, none⟩ = some (.int .i64 wk) ∧ W.cell? ⟨xb + 1, 4, none⟩ = some (.int .i64 cp) ∧ W.cell? ⟨xb + 1, 5, none⟩ = some (.slice A' q c'))
    (refine KS.out _ (by first | assumption | exact below_drewN' (Below.refl _ _) _))
    (first
      | (go_at_call 18; refine (HT2.out _ hb3).mono ?_; rintro e' w4 ⟨rfl, hb4⟩)
      | (go_at_call 18; refine (HT1.out _ (by first | assumption | exact below_drewN' (Below.refl _ _) _)).mono ?_; rintro e' w3 ⟨rfl, hb3⟩))
  have HF := Lib.hid (HB1.out.trans (hb4.mono HB1.out.size))
  clear hb3 hb4 KS HT1 HT2
  go_wp2_with fail
  go_ret
  exact ⟨rfl, HF.out⟩
end Go.Proofs.YtbbdammdiplagaaGreatDoor
