/- pat: Compare. -/
import Derived.Test.YtgolcogigpnbeaaGreatDoorPat5
import Derived.Deep.RegionHeld3
import Derived.Deep.DrawnRows
namespace Go.Proofs.YtgolcogigpnbeaaGreatDoor
open Go.RowKit

theorem or4_cases (a b c d : Int) (Z : Nat → Int) (h0 : Z 0 = a) (h1 : Z 1 = b) (h2 : Z 2 = c) (h3 : Z 3 = d) :
    (∀ k, k < 4 → (∀ i, i < k → Z i = 0) → Z k ≠ 0 → or4 a b c d = Z k) ∧ ((∀ i, i < 4 → Z i = 0) → or4 a b c d = 0) := by
  unfold or4
  constructor
  · intro k hk hz hne
    rcases (by omega : k = 0 ∨ k = 1 ∨ k = 2 ∨ k = 3) with rfl | rfl | rfl | rfl
    · rw [h0] at hne ⊢
      rw [if_pos hne]
    · have e0 := hz 0 (by omega)
      rw [h0] at e0
      rw [h1] at hne ⊢
      rw [if_neg (by simpa using e0), if_pos hne]
    · have e0 := hz 0 (by omega); have e1 := hz 1 (by omega)
      rw [h0] at e0; rw [h1] at e1
      rw [h2] at hne ⊢
      rw [if_neg (by simpa using e0), if_neg (by simpa using e1), if_pos hne]
    · have e0 := hz 0 (by omega); have e1 := hz 1 (by omega); have e2 := hz 2 (by omega)
      rw [h0] at e0; rw [h1] at e1; rw [h2] at e2
      rw [h3] at hne ⊢
      rw [if_neg (by simpa using e0), if_neg (by simpa using e1), if_neg (by simpa using e2)]
  · intro hz
    have e0 := hz 0 (by omega); have e1 := hz 1 (by omega); have e2 := hz 2 (by omega); have e3 := hz 3 (by omega)
    rw [h0] at e0; rw [h1] at e1; rw [h2] at e2; rw [h3] at e3
    rw [if_neg (by simpa using e0), if_neg (by simpa using e1), if_neg (by simpa using e2), e3]
theorem or4_any (a b c d : Int) (W : World) :
    Calls Tryz.prog 40 #[.slice (some ⟨W.heap.size, 0, none⟩) 4 4] (W.alloc (.cells #[.int .i64 a, .int .i64 b, .int .i64 c, .int .i64 d] 3)) fun e w' => e = .returned (.int .i64 (or4 a b c d)) ∧ w' = W.alloc (.cells #[.int .i64 a, .int .i64 b, .int .i64 c, .int .i64 d] 3) := by
  have h := Whole.new W 3 #[.int .i64 a, .int .i64 b, .int .i64 c, .int .i64 d]
  obtain ⟨k1, k2⟩ := or4_cases a b c d (fun i => if i = 0 then a else if i = 1 then b else if i = 2 then c else d) rfl rfl rfl rfl
  refine or_any 4 (fun i => if i = 0 then a else if i = 1 then b else if i = 2 then c else d) W.heap.size _ _ (by omega) (fun i hi => ?_) k1 k2
  rcases (by omega : i = 0 ∨ i = 1 ∨ i = 2 ∨ i = 3) with rfl | rfl | rfl | rfl
  · exact h.cell 0
  · exact h.cell 1
  · exact h.cell 2
  · exact h.cell 3

set_option maxRecDepth 100000 in
set_option maxHeartbeats 4000000 in
theorem compare_any {w : World} {vl ve vm vf : Value} {L M : List Int} {E F : List (Int × Int)} (hl : SeqV w vl L) (he : EdgesV w ve E) (hm : SeqV w vm M) (hf : EdgesV w vf F)
    (k1 : L.length ≤ 1000000) (k2 : E.length ≤ 1000000) (k3 : M.length ≤ 1000000) (k4 : F.length ≤ 1000000) :
    Calls Tryz.prog 13 #[.agg #[vl, ve], .agg #[vm, vf]] w fun e w' => e = .returned (.int .i64 (cmpPat L E M F)) ∧ Below w.heap.size w w' := by
  obtain ⟨Al, cl, rfl⟩ := IntsV.form hl
  obtain ⟨Ae, ce, rfl⟩ := he.form
  obtain ⟨Am, cm, rfl⟩ := IntsV.form hm
  obtain ⟨Af, cf, rfl⟩ := hf.form
  have hb1 : Below w.heap.size w ((w.alloc (.cells #[.slice Al L.length cl, .slice Ae E.length ce] 31)).alloc (.cells #[.slice Am M.length cm, .slice Af F.length cf] 31)) := ((Below.refl _ _).alloc (Nat.le_refl _) _).alloc (by simp) _
  have hx := (Whole.new w 31 #[.slice Al L.length cl, .slice Ae E.length ce]).alloc (.cells #[.slice Am M.length cm, .slice Af F.length cf] 31)
  have hy := Whole.new (w.alloc (.cells #[.slice Al L.length cl, .slice Ae E.length ce] 31)) 31 #[.slice Am M.length cm, .slice Af F.length cf]
  rw [World.size_alloc] at hy
  obtain ⟨w1, hw1⟩ : ∃ W, (w.alloc (.cells #[.slice Al L.length cl, .slice Ae E.length ce] 31)).alloc (.cells #[.slice Am M.length cm, .slice Af F.length cf] 31) = W := ⟨_, rfl⟩
  rw [hw1] at hb1 hx hy
  obtain ⟨xb, hxb⟩ : ∃ g, w.heap.size = g := ⟨_, rfl⟩
  have HB1 := Lib.hid hb1
  rw [hxb] at hx hy
  have SC : ∀ W, Below w1.heap.size w1 W → Calls Tryz.prog 42 #[.slice Al L.length cl, .slice Am M.length cm] W fun e w' => e = .returned (.int .i64 (cmpL L M)) ∧ w' = W := fun W hb => slCompare_any L M _ _ W ((hl.below hb1 (Nat.le_refl _)).below hb (Nat.le_refl _)) ((hm.below hb1 (Nat.le_refl _)).below hb (Nat.le_refl _)) (by omega) (by omega)
  have CF : ∀ W, Below w1.heap.size w1 W → Calls Tryz.prog 43 #[.slice Ae E.length ce, .slice Af F.length cf, .func (.func 44) #[] #[]] W fun e w' => e = .returned (.int .i64 (cmpEs E F)) ∧ Below w1.heap.size w1 w' := fun W hb =>
    (cmpFunc_any E F _ _ W ((he.below hb1 (Nat.le_refl _)).below hb (Nat.le_refl _)) ((hf.below hb1 (Nat.le_refl _)).below hb (Nat.le_refl _)) (by omega) (by omega)).mono fun _ _ ⟨h1, h2⟩ => ⟨h1, hb.trans (h2.mono hb.size)⟩
  have HCP : Hid (cmpPat L E M F = or4 (cmp3 L.length M.length) (cmpL L M) (cmp3 E.length F.length) (cmpEs E F)) := Lib.hid rfl
  generalize cmpPat L E M F = R at HCP ⊢
  generalize cmpL L M = p2 at SC HCP
  generalize cmpEs E F = p4 at CF HCP
  generalize L.length = n at *
  generalize M.length = n' at *
  generalize E.length = m at *
  generalize F.length = m' at *
  have x0 : w1.cell? ⟨xb, 0, none⟩ = some (.slice Al n cl) := hx.cell 0
  have x1 : w1.cell? ⟨xb, 1, none⟩ = some (.slice Ae m ce) := hx.cell 1
  have y0 : w1.cell? ⟨xb + 1, 0, none⟩ = some (.slice Am n' cm) := hy.cell 0
  have y1 : w1.cell? ⟨xb + 1, 1, none⟩ = some (.slice Af m' cf) := hy.cell 1
  have hl1 := hx.lt; have hl2 := hy.lt
  have KS := Lib.hid (fun (W : World) (hb : Below w1.heap.size w1 W) => (show Below w1.heap.size w1 W ∧ W.cell? ⟨xb, 0, none⟩ = some (.slice Al n cl) ∧ W.cell? ⟨xb, 1, none⟩ = some (.slice Ae m ce) ∧ W.cell? ⟨xb + 1, 0, none⟩ = some (.slice Am n' cm) ∧ W.cell? ⟨xb + 1, 1, none⟩ = some (.slice Af m' cf) from
    ⟨hb, (hb.cell (p := ⟨xb, 0, none⟩) hl1).trans x0, (hb.cell (p := ⟨xb, 1, none⟩) hl1).trans x1, (hb.cell (p := ⟨xb + 1, 0, none⟩) hl2).trans y0, (hb.cell (p := ⟨xb + 1, 1, none⟩) hl2).trans y1⟩))
  have HCI := Lib.hid (fun (a b : Int) (W : World) => cmp_ints a b W)
  have HSC := Lib.hid SC; have HCF := Lib.hid CF; have HOR := Lib.hid (fun (a b c d : Int) (W : World) => or4_any a b c d W)
  have HW1 := Lib.hid hw1; have HXB := Lib.hid hxb
  clear hl he hm hf hb1 hw1 hx hy hxb SC CF hl1 hl2
  go_enter Tryz.func13, Tryz.ntmps13
  go_upto_region 1 with fail
  rw [HW1.out, HXB.out]
  go_region_held3 (fun W => Below w1.heap.size w1 W ∧ W.cell? ⟨xb, 0, none⟩ = some (.slice Al n cl) ∧ W.cell? ⟨xb, 1, none⟩ = some (.slice Ae m ce) ∧ W.cell? ⟨xb + 1, 0, none⟩ = some (.slice Am n' cm) ∧ W.cell? ⟨xb + 1, 1, none⟩ = some (.slice Af m' cf))
    (exact KS.out _ (by first | assumption | exact below_drewN' (Below.refl _ _) _ | exact Below.alloc (by assumption) (Below.size (by assumption)) _))
    (first
      | (go_at_call 41; refine (HCI.out _ _ _).mono ?_; rintro e' w3 ⟨rfl, hw⟩; obtain rfl := hw.symm)
      | (go_at_call 42; refine (HSC.out _ (by first | assumption | exact below_drewN' (Below.refl _ _) _)).mono ?_; rintro e' w3 ⟨rfl, hw⟩; obtain rfl := hw.symm)
      | (go_at_call 43; refine (HCF.out _ (by first | assumption | exact below_drewN' (Below.refl _ _) _)).mono ?_; rintro e' w4 ⟨rfl, hb4⟩)
      | (go_at_call 40; refine (HOR.out _ _ _ _ _).mono ?_; rintro e' w5 ⟨rfl, hw⟩; obtain rfl := hw.symm))
  have HB5 := Lib.hid (HB1.out.trans ((hb4.alloc hb4.size (.cells #[.int .i64 (cmp3 n n'), .int .i64 p2, .int .i64 (cmp3 m m'), .int .i64 p4] 3)).mono HB1.out.size))
  clear hb4
  go_wp2_with fail
  go_ret
  exact ⟨by rw [HCP.out]; first | done | rfl, HB5.out⟩
end Go.Proofs.YtgolcogigpnbeaaGreatDoor
