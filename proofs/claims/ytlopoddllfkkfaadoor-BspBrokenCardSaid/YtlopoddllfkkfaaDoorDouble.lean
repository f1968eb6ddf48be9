/- net: Double. -/
import Derived.Test.YtlopoddllfkkfaaDoorSend
namespace Go.Proofs.YtlopoddllfkkfaaDoor
open Go.RowKit

/-- A letter doubled. -/
def dupP (n : NetP) (l : Let) : NetP := { n with fly := n.fly ++ [l] }
set_option maxRecDepth 100000 in
theorem double_bad {w : World} {base N : Nat} {n : NetP} {p : Value} (h : NetAt w base p N n) (i : Int) (hbad : atCode n.fly.length i = 3) :
    Calls Tryd.prog 36 #[p, .int .i64 i] w fun e w' => (∃ u, e = .returned u ∧ FaultAt 3 0 w' u) ∧ Below w.heap.size w w' := by
  have CK := check_any h i
  rw [hbad] at CK
  have HC := Lib.hid CK
  obtain ⟨b, mb, cb, v, F, G, rfl, _⟩ := h
  clear hbad CK
  go_enter Tryd.func36, Tryd.ntmps36
  go_wp2_with fail
  refine HC.out.mono ?_
  rintro e w1 ⟨hb, ⟨h0, _⟩ | ⟨_, u, rfl, hu⟩⟩
  · omega
  · have HB := Lib.hid hb; have HU := Lib.hid hu
    obtain ⟨bb, s, rfl, _⟩ := id hu
    clear hb hu
    go_wp2_with fail
    go_ret
    exact ⟨⟨_, rfl, HU.out⟩, HB.out⟩

set_option maxRecDepth 100000 in
set_option maxHeartbeats 4000000 in
theorem double_good {w : World} {base N : Nat} {n : NetP} {b mb cb : Nat} {v : Value} {F G : Value → Option Value} (h : NetIn w base N n b mb cb v F G) (i : Nat) (hi : i < n.fly.length) (hfl : n.fly.length ≤ 100000) :
    Calls Tryd.prog 36 #[.pointer (some ⟨b, 0, none⟩), .int .i64 i] w fun e w' => e = .returned .nilIface ∧ Left w base N (dupP n n.fly[i]) b mb cb v w' := by
  obtain ⟨i0, hi0, hz0, hz1, hz2⟩ := info_parts Tryd.infoNL
  have CK := check_any ⟨b, mb, cb, v, F, G, rfl, h⟩ (i : Int)
  rw [show atCode n.fly.length (i : Int) = 0 from if_pos (by omega)] at CK
  have HC := Lib.hid CK
  have H := Lib.hid h
  obtain ⟨A, cap, hv, hcap, hfx⟩ := h.fly
  clear hfx
  obtain ⟨l, hl⟩ : ∃ l, n.fly[i] = l := ⟨_, rfl⟩
  rw [hl]
  obtain ⟨fl, hfln⟩ : ∃ k, n.fly.length = k := ⟨_, rfl⟩
  rw [hfln] at hi hv hfl hcap
  have HL := Lib.hid hl; have HFL := Lib.hid hfln
  subst hv
  clear h CK hl hfln
  go_enter Tryd.func36, Tryd.ntmps36
  go_wp2_with fail
  refine HC.out.mono ?_
  rintro e w1 ⟨hb0, ⟨_, rfl⟩ | ⟨h0, _⟩⟩
  case inr => exact absurd rfl h0
  have h1 := H.out.below hb0 (Nat.le_refl _)
  obtain ⟨g, off, hA, e0, e1, e2, e3⟩ := h1.fly.lets.pos (i := i) (by rw [HFL.out]; exact hi)
  rw [HL.out] at e0 e1 e2 e3
  obtain ⟨f, t, s, x⟩ := l
  simp only at e0 e1 e2 e3
  have hl0 : ∀ j, j < 1 * 4 → ((w1.alloc (.cells #[.int .i64 f, .int .i64 t, .int .i64 s, .string x] 83)).drew).cell? ⟨w1.heap.size, 0 + j, none⟩ = (letsC [⟨f, t, s, x⟩])[j]? := fun j hj => by
    have hW := (Whole.new w1 83 #[.int .i64 f, .int .i64 t, .int .i64 s, .string x]).drewN 1
    rw [Nat.zero_add]
    refine (hW.cell j).trans ?_
    rw [letsC_one]
    simp [letC]
  have hb2 : Below w1.heap.size w1 ((w1.alloc (.cells #[.int .i64 f, .int .i64 t, .int .i64 s, .string x] 83)).drew) := below_drewN' ((Below.refl _ _).alloc (Nat.le_refl _) _) 1
  have h2 := h1.below hb2 (Nat.le_refl _)
  obtain ⟨v3, w3, happ, hfly3, hgrow3, hloc3, hold3⟩ := h2.fly.app (P := Tryd.prog) (T := [⟨f, t, s, x⟩]) (m := 1) 78 78 83 i0 (letV letZ) Tryd.underlying78 hi0 hz0 rfl hz1 hz2 rfl hl0 1 (by rw [HFL.out]; omega) (Nat.le_trans h1.bb (Nat.le_of_lt h2.whole.lt))
  obtain ⟨g', off', hA', k0, k1, k2, k3⟩ := hold3.pos (i := i) (by rw [HFL.out]; exact hi)
  rw [HL.out] at k0 k1 k2 k3
  simp only at k0 k1 k2 k3
  subst hA
  injection hA' with hA'
  injection hA' with z1 z2
  subst z1 z2
  obtain ⟨g'', off'', hA'', j0, j1, j2, j3⟩ := h2.fly.lets.pos (i := i) (by rw [HFL.out]; exact hi)
  rw [HL.out] at j0 j1 j2 j3
  simp only at j0 j1 j2 j3
  injection hA'' with hA''
  injection hA'' with z1 z2
  subst z1 z2
  have hw3 := h2.whole.grown hgrow3 (fun e => H.out.v1 e.symm)
  have hm3 := h2.sent.kept hgrow3 (fun e => H.out.v2 e.symm)
  have hc3 := h2.came.kept hgrow3 (fun e => H.out.v3 e.symm)
  have hv3b : v3.ownBlock ≠ some b ∧ v3.ownBlock ≠ some mb ∧ v3.ownBlock ≠ some cb := by
    rcases hloc3 with e | ⟨g, e, hg⟩
    · rw [e]; exact ⟨H.out.v1, H.out.v2, H.out.v3⟩
    · have hl1 := h2.whole.lt
      have hl2 := h2.sent.lt
      have hl3 := h2.came.lt
      rw [e]
      refine ⟨fun e => ?_, fun e => ?_, fun e => ?_⟩
      all_goals
        injection e with e
        omega
  have hw4 := hw3.put 1 v3
  have hgr4 := grown_cell w3 b 1 v3
  have hf4 := hfly3.kept hgr4 (Or.inr hv3b.1)
  have hm4 := hm3.kept hgr4 (fun e => H.out.n1 (by injection e with e; exact e.symm))
  have hc4 := hc3.kept hgr4 (fun e => H.out.n2 (by injection e with e; exact e.symm))
  have hfin : NetIn (w3.setCell ⟨b, 1, none⟩ v3) base N (dupP n ⟨f, t, s, x⟩) b mb cb v3 F G :=
    { bb := H.out.bb, bm := H.out.bm, bc := H.out.bc, n1 := H.out.n1, n2 := H.out.n2, n3 := H.out.n3, v1 := hv3b.1, v2 := hv3b.2.1, v3 := hv3b.2.2, whole := hw4, fly := hf4, sent := hm4, came := hc4, fs := H.out.fs, gs := H.out.gs }
  have hfr : Fr w.heap.size (Foot b mb cb (.slice (some ⟨g, off, none⟩) fl cap)) w (w3.setCell ⟨b, 1, none⟩ v3) := by
    have f1 := Fr.of_below (R := Foot b mb cb (.slice (some ⟨g, off, none⟩) fl cap)) hb0 (Nat.le_refl _)
    have f2 := Fr.of_below (R := Foot b mb cb (.slice (some ⟨g, off, none⟩) fl cap)) hb2 hb0.size
    have f3 := Fr.of_grown (R := Foot b mb cb (.slice (some ⟨g, off, none⟩) fl cap)) hgrow3 (Nat.le_trans hb0.size hb2.size) (fun k e _ => Or.inr (Or.inr (Or.inr e)))
    have f4 := Fr.of_grown (R := Foot b mb cb (.slice (some ⟨g, off, none⟩) fl cap)) hgr4 (Nat.le_trans (Nat.le_trans hb0.size hb2.size) hgrow3.size) (fun k e _ => Or.inl (by injection e with e; exact e.symm))
    exact ((f1.trans f2).trans f3).trans f4
  have hloc : v3.ownBlock = (Value.slice (some ⟨g, off, none⟩) fl cap).ownBlock ∨ ∃ g, v3.ownBlock = some g ∧ w.heap.size ≤ g := by
    rcases hloc3 with e | ⟨g, e, hg⟩
    · exact Or.inl e
    · exact Or.inr ⟨g, e, Nat.le_trans (Nat.le_trans hb0.size hb2.size) hg⟩
  have HEND : Hid (Left w base N (dupP n ⟨f, t, s, x⟩) b mb cb (.slice (some ⟨g, off, none⟩) fl cap) (w3.setCell ⟨b, 1, none⟩ v3)) := Lib.hid ⟨v3, F, G, hfin, hfr, hloc⟩
  have x1 : w1.drew.cell? ⟨b, 1, none⟩ = some (.slice (some ⟨g, off, none⟩) fl cap) := (h1.whole.drewN 1).cell 1
  have y1 : ((w1.alloc (.cells #[.int .i64 f, .int .i64 t, .int .i64 s, .string x] 83)).drew).cell? ⟨b, 1, none⟩ = some (.slice (some ⟨g, off, none⟩) fl cap) := h2.whole.cell 1
  have q1 : w3.cell? ⟨b, 1, none⟩ = some (.slice (some ⟨g, off, none⟩) fl cap) := hw3.cell 1
  have g3 : w3.frozen? ⟨b, 1, none⟩ = false := hw3.free 1
  have HX := Lib.hid (show w1.drew.cell? ⟨b, 1, none⟩ = some (.slice (some ⟨g, off, none⟩) fl cap) ∧ w1.drew.cell? ⟨g, off + i * 4, none⟩ = some (.int .i64 f) ∧ w1.drew.cell? ⟨g, off + i * 4 + 1, none⟩ = some (.int .i64 t) ∧ w1.drew.cell? ⟨g, off + i * 4 + 2, none⟩ = some (.int .i64 s) ∧ w1.drew.cell? ⟨g, off + i * 4 + 3, none⟩ = some (.string x) from ⟨x1, e0, e1, e2, e3⟩)
  have HY := Lib.hid (And.intro y1 (And.intro j0 (And.intro j1 (And.intro j2 j3))))
  have HQ := Lib.hid (And.intro q1 (And.intro k0 (And.intro k1 (And.intro k2 k3))))
  obtain ⟨A3, c3, hv3, hx3⟩ := hfly3
  clear hx3
  obtain ⟨fl3, hfl3⟩ : ∃ l, (n.fly ++ [(⟨f, t, s, x⟩ : Let)]).length = l := ⟨_, rfl⟩
  rw [hfl3] at hv3
  subst hv3
  have HAPP := Lib.hid happ
  have b1 : (i : Int) < fl := by omega
  have b2 : (0 : Int) ≤ i := by omega
  clear h1 e0 e1 e2 e3 hl0 hb2 h2 hgrow3 hloc3 hold3 k0 k1 k2 k3 j0 j1 j2 j3 hw3 hm3 hc3 hv3b hw4 hgr4 hf4 hm4 hc4 hfin hfr hloc x1 y1 q1 hfl3 happ hb0 hcap hfl
  go_upto_region 4 with fail
  refine region_reads5 [0,1,2,3,4,5,6,7,8,9,10,11] 12 13 14 15 16 (by kernel_rfl) (by kernel_rfl) (fun w' => w'.cell? ⟨b, 1, none⟩ = some (.slice (some ⟨g, off, none⟩) fl cap) ∧ w'.cell? ⟨g, off + i * 4, none⟩ = some (.int .i64 f) ∧ w'.cell? ⟨g, off + i * 4 + 1, none⟩ = some (.int .i64 t) ∧ w'.cell? ⟨g, off + i * 4 + 2, none⟩ = some (.int .i64 s) ∧ w'.cell? ⟨g, off + i * 4 + 3, none⟩ = some (.string x)) HX.out (by kernel_rfl) (by kernel_rfl) (by kernel_rfl) (by kernel_rfl) (by kernel_rfl) (by kernel_rfl) (by kernel_rfl) (by kernel_rfl) rfl rfl rfl rfl rfl rfl rfl rfl rfl rfl (by kernel_rfl) ?_
  refine ⟨_, ?va0, rfl, Or.inl ⟨by rfl, ?hya0⟩, fun _ _ _ h => h, ?resta0⟩
  case hya0 => (intro w' hSw; obtain ⟨s1, s2, s3, s4, s5⟩ := hSw; go_simp; try with_reducible rfl)
  try dsimp only [Act.put]
  refine ⟨_, ?va1, rfl, Or.inl ⟨by rfl, ?hya1⟩, fun _ _ _ h => h, ?resta1⟩
  case hya1 => (intro w' hSw; obtain ⟨s1, s2, s3, s4, s5⟩ := hSw; go_simp; try with_reducible rfl)
  try dsimp only [Act.put]
  refine ⟨_, ?va2, rfl, Or.inl ⟨by rfl, ?hya2⟩, fun _ _ _ h => h, ?resta2⟩
  case hya2 => (intro w' hSw; obtain ⟨s1, s2, s3, s4, s5⟩ := hSw; go_simp; try with_reducible rfl)
  try dsimp only [Act.put]
  refine ⟨_, ?va3, rfl, Or.inl ⟨by rfl, ?hya3⟩, fun _ _ _ h => h, ?resta3⟩
  case hya3 => (intro w' hSw; obtain ⟨s1, s2, s3, s4, s5⟩ := hSw; go_simp; try with_reducible rfl)
  try dsimp only [Act.put]
  refine ⟨_, ?va4, rfl, Or.inl ⟨by rfl, ?hya4⟩, fun _ _ _ h => h, ?resta4⟩
  case hya4 => (intro w' hSw; obtain ⟨s1, s2, s3, s4, s5⟩ := hSw; go_simp; try with_reducible rfl)
  try dsimp only [Act.put]
  refine ⟨_, ?va5, rfl, Or.inl ⟨by rfl, ?hya5⟩, fun _ _ _ h => h, ?resta5⟩
  case hya5 => (intro w' hSw; obtain ⟨s1, s2, s3, s4, s5⟩ := hSw; go_simp; try with_reducible rfl)
  try dsimp only [Act.put]
  refine ⟨_, ?va6, rfl, Or.inl ⟨by rfl, ?hya6⟩, fun _ _ _ h => h, ?resta6⟩
  case hya6 => (intro w' hSw; obtain ⟨s1, s2, s3, s4, s5⟩ := hSw; go_simp; try with_reducible rfl)
  try dsimp only [Act.put]
  refine ⟨_, ?va7, rfl, Or.inl ⟨by rfl, ?hya7⟩, fun _ _ _ h => h, ?resta7⟩
  case hya7 => (intro w' hSw; obtain ⟨s1, s2, s3, s4, s5⟩ := hSw; go_simp; try with_reducible rfl)
  try dsimp only [Act.put]
  refine ⟨_, ?va8, rfl, Or.inl ⟨by rfl, ?hya8⟩, fun _ _ _ h => h, ?resta8⟩
  case hya8 => (intro w' hSw; obtain ⟨s1, s2, s3, s4, s5⟩ := hSw; go_simp; try with_reducible rfl)
  try dsimp only [Act.put]
  refine ⟨_, ?va9, rfl, Or.inl ⟨by rfl, ?hya9⟩, fun _ _ _ h => h, ?resta9⟩
  case hya9 => (intro w' hSw; obtain ⟨s1, s2, s3, s4, s5⟩ := hSw; go_simp; try with_reducible rfl)
  try dsimp only [Act.put]
  refine ⟨_, ?va10, rfl, Or.inl ⟨by rfl, ?hya10⟩, fun _ _ _ h => h, ?resta10⟩
  case hya10 => (intro w' hSw; obtain ⟨s1, s2, s3, s4, s5⟩ := hSw; go_simp; try with_reducible rfl)
  try dsimp only [Act.put]
  refine ⟨_, ?va11, rfl, Or.inl ⟨by rfl, ?hya11⟩, fun _ _ _ h => h, ?resta11⟩
  case hya11 => (intro w' hSw; obtain ⟨s1, s2, s3, s4, s5⟩ := hSw; go_simp; try with_reducible rfl)
  try dsimp only [Act.put]
  refine reads_nil ?_
  refine wp_bare (fun K11 hK11 => ?_)
  go_simp
  refine hK11.out _ _ ⟨HY.out, ?_⟩
  refine wp_of_append _ _ _ rfl _ _ rfl rfl _ _ HAPP.out ⟨HQ.out, ?_⟩
  refine wp_bare (fun K13 hK13 => ?_)
  go_simp
  refine hK13.out _ _ ?_
  refine wp_bare (fun K14 hK14 => ?_)
  go_simp
  refine hK14.out _ _ ?_
  have q1' := HQ.out.1
  refine wp_bare (fun K15 hK15 => ?_)
  go_simp
  refine hK15.out _ _ ?_
  go_wp2_with fail
  go_ret
  exact ⟨rfl, HEND.out⟩
end Go.Proofs.YtlopoddllfkkfaaDoor
