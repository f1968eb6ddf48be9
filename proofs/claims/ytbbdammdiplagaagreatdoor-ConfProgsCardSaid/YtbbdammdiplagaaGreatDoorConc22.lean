/- slices.Concat of two programs; conf.Prog. -/
import Derived.Test.YtbbdammdiplagaaGreatDoorCloneP
import Derived.Test.YtbbdammdiplagaaGreatDoorConfX
import Derived.Test.YtbbdammdiplagaaGreatDoorShelfGrow
namespace Go.Proofs.YtbbdammdiplagaaGreatDoor
open Go.RowKit

theorem growP_any (n : Nat) (h0 : 0 < n) (h1 : n ≤ 1000000) (w : World) : Calls Tryz.prog 55 #[.slice none 0 0, .int .i64 n] w fun e w' => ∃ c, e = .returned (.slice (some ⟨w.heap.size, 0, none⟩) 0 c) ∧ w'.ownsRow w.heap.size 44 2 (.slice (some ⟨w.heap.size, 0, none⟩) 0 c) 0 [] ∧ Below w.heap.size w w' := by
  obtain ⟨j0, hj0, hz0, hz1, hz2⟩ := info_parts Tryz.infoOp17
  have hG := grownCap_ge w n 0 44
  have hM := grownCap_le_maxLen w n 0 44 (by unfold maxLen; omega)
  refine (Any8.slices_Grow_grow Tryz.growOp j0 _ hj0 hz0 (by rw [hz1]; decide) none 0 0 n [] w (Nat.le_refl _) (by omega) (by rw [hz2]; omega) (by omega) (by simp) (fun _ => rfl) (fun a h => by cases h)).mono ?_
  rintro e w' ⟨rfl, rfl⟩
  simp only [Nat.zero_add]
  refine ⟨_, rfl, ⟨rfl, Or.inr ⟨w.heap.size, _, _, rfl, Nat.le_refl _, heap_alloc_new w.drew _, Nat.zero_le _, hM, ?_, rfl⟩⟩, ?_⟩
  · show (#[] ++ Builtin.zeroCells _ (n - 0) ++ Builtin.zeroCells _ (grownCap w n 0 44 - n)).size = _
    rw [Array.size_append, Array.size_append, size_zeroCells, size_zeroCells]
    have e2 : (Value.agg #[.int .i64 0, .int .i64 0]).cells.size = 2 := rfl
    rw [e2]
    change 0 + (n - 0) * 2 + (grownCap w n 0 44 - n) * 2 = grownCap w n 0 44 * 2
    omega
  · exact (below_drewN' (Below.refl _ _) 1).alloc (Nat.le_refl _) _
/-- The lengths of the first k of two, added up. -/
def SumIs (n1 n2 k : Nat) (v : Value) : Prop := ∃ s : Nat, v = .int .i64 (s : Int) ∧ (k = 0 → s = 0) ∧ (k = 1 → s = n1) ∧ (k = 2 → s = n1 + n2)
/-- The first k of two, one behind the other. -/
def twoL (A B : List (Int × Int)) (k : Nat) : List (Int × Int) := if k = 0 then [] else if k = 1 then A else A ++ B
def lenL (n1 n2 k : Nat) : Nat := if k = 0 then 0 else if k = 1 then n1 else n1 + n2
set_option maxRecDepth 100000 in
set_option maxHeartbeats 4000000 in
theorem concat2_any {w : World} {g : Nat} {v1 v2 : Value} {A B : List (Int × Int)} (hg : Whole w g 27 #[v1, v2]) (ha : EdgesV w v1 A) (hb : EdgesV w v2 B) (h0 : 0 < A.length) (hl : A.length + B.length ≤ 1000000) :
    Calls Tryz.prog 36 #[.slice (some ⟨g, 0, none⟩) 2 2] w fun e w' => ∃ A3 c3, e = .returned (.slice A3 (A.length + B.length) c3) ∧ EdgesV w' (.slice A3 (A ++ B).length c3) (A ++ B) ∧ A.length + B.length ≤ c3 ∧ Below w.heap.size w w' := by
  obtain ⟨j0, hj0, hz0, hz1, hz2⟩ := info_parts Tryz.infoOp17
  obtain ⟨A1, c1, rfl⟩ := ha.form
  obtain ⟨A2, c2, rfl⟩ := hb.form
  obtain ⟨n1, hn1⟩ : ∃ n, A.length = n := ⟨_, rfl⟩
  obtain ⟨n2, hn2⟩ : ∃ n, B.length = n := ⟨_, rfl⟩
  rw [List.length_append]
  rw [hn1] at hg ha h0 hl ⊢
  rw [hn2] at hg hb hl ⊢
  have HGR := Lib.hid (growP_any (n1 + n2) (by omega) hl w)
  have HN1 := Lib.hid hn1; have HN2 := Lib.hid hn2; have HA := Lib.hid ha; have HB := Lib.hid hb; have HG := Lib.hid hg
  have hgl := hg.lt
  clear hn1 hn2 ha hb hg h0
  go_enter Tryz.func36, Tryz.ntmps36
  go_wp2_with fail
  go_loopg [3, 11] 2 (fun gh sv iv wr => ∃ k, k ≤ 2 ∧ gh = 2 - k ∧ iv = .int .i64 (k : Nat) ∧ SumIs n1 n2 k sv ∧ wr = w)
  case atStart => exact ⟨0, by omega, rfl, rfl, ⟨0, rfl, fun _ => rfl, fun h => by omega, fun h => by omega⟩, rfl⟩
  case round =>
    obtain ⟨k, hk, rfl, rfl, ⟨s, rfl, s0, s1, s2⟩, rfl⟩ := hrel
    rcases (by omega : k = 0 ∨ k = 1 ∨ k = 2) with rfl | rfl | rfl
    · obtain rfl := s0 rfl
      clear s0 s1 s2
      have x0 : wr.cell? ⟨g, 0, none⟩ = some (.slice A1 n1 c1) := HG.out.cell 0
      have t1 : decide ((n1 : Int) < 0) = false := decide_eq_false (by omega)
      go_wp2_with fail
      go_roundg 1
      case rel => exact ⟨1, by omega, rfl, by go_num, ⟨n1, by go_num, fun h => by omega, fun _ => rfl, fun h => by omega⟩, rfl⟩
      case measure => omega
    · obtain rfl := s1 rfl
      clear s0 s1 s2
      have x1 : wr.cell? ⟨g, 1, none⟩ = some (.slice A2 n2 c2) := HG.out.cell 1
      have t1 : decide ((s : Int) + (n2 : Int) < 0) = false := decide_eq_false (by omega)
      go_wp2_with fail
      go_roundg 0
      case rel => exact ⟨2, by omega, rfl, by go_num, ⟨s + n2, by go_num, fun h => by omega, fun h => by omega, fun _ => rfl⟩, rfl⟩
      case measure => omega
    · obtain rfl := s2 rfl
      obtain ⟨w0, hw0⟩ : ∃ W, W = wr := ⟨_, rfl⟩
      subst hw0
      clear s0 s1 s2
      go_wp2_with fail
      refine HGR.out.mono ?_; rintro e w1 ⟨c, rfl, hown, hb1⟩
      have HB1 := Lib.hid hb1; have HO1 := Lib.hid hown
      clear hb1 hown
      go_wp2_with fail
      go_loopg [6, 27] 2 (fun gh rv iv wx => ∃ k, k ≤ 2 ∧ gh = 2 - k ∧ iv = .int .i64 (k : Nat) ∧ wx.ownsRow w0.heap.size 44 2 rv (lenL n1 n2 k) (eL (twoL A B k)) ∧ Below w0.heap.size w0 wx)
      case atStart => exact ⟨0, by omega, rfl, rfl, HO1.out, HB1.out⟩
      case round =>
        obtain ⟨k, hk, rfl, rfl, hown, hB⟩ := hrel
        rcases (by omega : k = 0 ∨ k = 1 ∨ k = 2) with rfl | rfl | rfl
        · have hown : wr.ownsRow w0.heap.size 44 2 _ 0 [] := hown
          obtain ⟨A4, c4, rfl⟩ := own_form hown
          have x0 : wr.cell? ⟨g, 0, none⟩ = some (.slice A1 n1 c1) := (HG.out.below hB hgl).cell 0
          have HOW := Lib.hid hown; have HBW := Lib.hid hB
          have HU := Lib.hid (HA.out.below hB (Nat.le_refl _))
          have hs2 := hB.size
          clear hown hB
          go_wp2_with (at_builtin; refine wpList_appEdges _ rfl _ _ 27 44 rfl w0.heap.size j0 (.agg #[.int .i64 0, .int .i64 0]) Tryz.underlying27 hj0 hz0 rfl hz1 hz2 _ 0 _ rfl HOW.out _ A rfl HU.out (by rw [HN1.out]; omega) hs2 ?_)
          intro A3 c3 w7 hown3 hgrow3
          have HB3 := Lib.hid (hgrow3.below HOW.out HBW.out (Nat.le_refl _) hs2)
          have HO3 : Hid (w7.ownsRow w0.heap.size 44 2 (.slice A3 n1 c3) n1 (eL A)) := Lib.hid (by
            have h := hown3
            rw [HN1.out] at h
            exact h)
          rw [HN1.out]
          clear hown3 hgrow3
          go_wp2_with fail
          go_roundg 1
          case rel => exact ⟨1, by omega, rfl, by go_num, HO3.out, HB3.out⟩
          case measure => omega
        · have hown : wr.ownsRow w0.heap.size 44 2 _ n1 (eL A) := hown
          obtain ⟨A4, c4, rfl⟩ := own_form hown
          have x1 : wr.cell? ⟨g, 1, none⟩ = some (.slice A2 n2 c2) := (HG.out.below hB hgl).cell 1
          have HOW := Lib.hid hown; have HBW := Lib.hid hB
          have HU := Lib.hid (HB.out.below hB (Nat.le_refl _))
          have hs2 := hB.size
          clear hown hB
          go_wp2_with (at_builtin; refine wpList_appEdges _ rfl _ _ 27 44 rfl w0.heap.size j0 (.agg #[.int .i64 0, .int .i64 0]) Tryz.underlying27 hj0 hz0 rfl hz1 hz2 _ n1 _ rfl HOW.out _ B rfl HU.out (by rw [HN2.out]; omega) hs2 ?_)
          intro A3 c3 w7 hown3 hgrow3
          have HB3 := Lib.hid (hgrow3.below HOW.out HBW.out (Nat.le_refl _) hs2)
          have HO3 : Hid (w7.ownsRow w0.heap.size 44 2 (.slice A3 (n1 + n2) c3) (n1 + n2) (eL (A ++ B))) := Lib.hid (by
            have h := hown3
            rw [HN2.out, ← eL_app] at h
            exact h)
          rw [HN2.out]
          clear hown3 hgrow3
          go_wp2_with fail
          go_roundg 0
          case rel => exact ⟨2, by omega, rfl, by go_num, HO3.out, HB3.out⟩
          case measure => omega
        · have hown : wr.ownsRow w0.heap.size 44 2 _ (n1 + n2) (eL (A ++ B)) := hown
          obtain ⟨A4, c4, rfl⟩ := own_form hown
          have HE : Hid (EdgesV wr (.slice A4 (n1 + n2) c4) (A ++ B)) := Lib.hid (by
            have h := own_edges hown
            exact h)
          have HBW := Lib.hid hB
          have HCAP := Lib.hid (own_cap hown)
          clear hown hB
          go_wp2_with fail
          go_ret
          exact ⟨_, _, rfl, HE.out, HCAP.out, HBW.out⟩
/-- What a job keeps. -/
def progK (kd : Int) (O : List (Int × Int)) : List (Int × Int) := if kd = 2 then (1, 0) :: O else O
set_option maxRecDepth 100000 in
set_option maxHeartbeats 4000000 in
theorem confProg_any (kd sz su wk cp : Int) (O : List (Int × Int)) (kv : Value) (w : World) (hk : EdgesV w kv O) (hl : O.length ≤ 1000) :
    Calls Tryz.prog 14 #[.agg (cV ⟨kd, sz, su, wk, cp⟩ kv)] w fun e w' => ∃ A c, e = .returned (.slice A (progK kd O).length c) ∧ EdgesV w' (.slice A (progK kd O).length c) (progK kd O) ∧ (kd = 2 → (progK kd O).length ≤ c) ∧ Below w.heap.size w w' := by
  obtain ⟨A, c, rfl⟩ := hk.form
  have hb1 : Below w.heap.size w (w.alloc (.cells (cV ⟨kd, sz, su, wk, cp⟩ (.slice A O.length c)) 29)) := (Below.refl _ _).alloc (Nat.le_refl _) _
  have hx := Whole.new w 29 (cV ⟨kd, sz, su, wk, cp⟩ (.slice A O.length c))
  obtain ⟨w1, hw1⟩ : ∃ W, w.alloc (.cells (cV ⟨kd, sz, su, wk, cp⟩ (.slice A O.length c)) 29) = W := ⟨_, rfl⟩
  obtain ⟨xb, hxb⟩ : ∃ g, w.heap.size = g := ⟨_, rfl⟩
  rw [hw1] at hb1 hx
  rw [hxb] at hx
  have hk1 := hk.below hb1 (Nat.le_refl _)
  obtain ⟨n, hn⟩ : ∃ n, O.length = n := ⟨_, rfl⟩
  have HB1 := Lib.hid hb1; have HX := Lib.hid hx; have HK1 := Lib.hid hk1; have HW1 := Lib.hid hw1; have HXB := Lib.hid hxb; have HN := Lib.hid hn
  rw [hn] at hk1 hl hx HK1 HX HW1 ⊢
  have x0 : w1.cell? ⟨xb, 0, none⟩ = some (.int .i64 kd) := hx.cell 0
  have x5 : w1.cell? ⟨xb, 5, none⟩ = some (.slice A n c) := hx.cell 5
  by_cases hkd : kd = 2
  · subst hkd
    have hxl := hx.lt
    clear hb1 hx hk1 hw1 hxb hn hk x0 x5
    have hA2 : Hid (progK 2 O = [(1, 0)] ++ O) := Lib.hid rfl
    rw [hA2.out, List.length_append, HN.out]
    have hb2 : Below w1.heap.size w1 (w1.alloc (.cells #[.int .i64 1, .int .i64 0] 44)) := (Below.refl _ _).alloc (Nat.le_refl _) _
    have he2 := edges_new w1 44 1 0 1
    have hx2 := HX.out.below hb2 hxl
    have hs12 : (w1.alloc (.cells #[.int .i64 1, .int .i64 0] 44)).heap.size = w1.heap.size + 1 := World.size_alloc _ _
    have hb3 : Below (w1.alloc (.cells #[.int .i64 1, .int .i64 0] 44)).heap.size (w1.alloc (.cells #[.int .i64 1, .int .i64 0] 44)) ((w1.alloc (.cells #[.int .i64 1, .int .i64 0] 44)).alloc (.cells #[.slice (some ⟨w1.heap.size, 0, none⟩) 1 1, .slice A n c] 27)) := (Below.refl _ _).alloc (Nat.le_refl _) _
    have hg3 := Whole.new (w1.alloc (.cells #[.int .i64 1, .int .i64 0] 44)) 27 #[.slice (some ⟨w1.heap.size, 0, none⟩) 1 1, .slice A n c]
    rw [hs12] at hg3
    have hb13 := hb2.trans (hb3.mono hb2.size)
    have HC := concat2_any (A := [(1, 0)]) (B := O) hg3 (he2.below hb3 (Nat.le_refl _)) (HK1.out.below hb13 (Nat.le_refl _)) (by simp) (by rw [HN.out]; simp; omega)
    rw [List.length_append, HN.out] at HC
    have HC := Lib.hid HC
    have HB3 := Lib.hid (HB1.out.trans (hb13.mono HB1.out.size))
    have x5 : (w1.alloc (.cells #[.int .i64 1, .int .i64 0] 44)).cell? ⟨xb, 5, none⟩ = some (.slice A n c) := hx2.cell 5
    have x0 : w1.cell? ⟨xb, 0, none⟩ = some (.int .i64 2) := HX.out.cell 0
    clear hb2 hb3 he2 hx2 hs12 hg3 hb13
    go_enter Tryz.func14, Tryz.ntmps14
    go_upto_region 1 with fail
    rw [HW1.out, HXB.out]
    go_wp2_with fail
    refine HC.out.mono ?_; rintro e w4 ⟨A2, c2, rfl, he, hcap, hb4⟩
    have HE2 := Lib.hid he; have HCAP := Lib.hid hcap; have HB4 := Lib.hid (HB3.out.trans (hb4.mono HB3.out.size))
    clear he hb4 hcap
    go_wp2_with fail
    go_ret
    exact ⟨_, _, rfl, HE2.out, fun _ => HCAP.out, HB4.out⟩
  · have t2 : (kd == 2) = false := by simpa using hkd
    have HE : Hid (progK kd O = O) := Lib.hid (if_neg hkd)
    rw [HE.out, HN.out]
    have HCL := cloneP_any (w := w1) (v := .slice A n c) (O := O) hk1 (by omega)
    rw [HN.out] at HCL
    have HCL := Lib.hid HCL
    have HKD := Lib.hid hkd
    clear hb1 hx hk1 hw1 hxb hn hk hkd
    go_enter Tryz.func14, Tryz.ntmps14
    go_upto_region 1 with fail
    rw [HW1.out, HXB.out]
    go_wp2_with fail
    refine HCL.out.mono ?_; rintro e w2 ⟨A2, c2, rfl, he, hb2⟩
    have HE2 := Lib.hid he; have HB2 := Lib.hid (HB1.out.trans (hb2.mono HB1.out.size))
    clear he hb2
    go_wp2_with fail
    go_ret
    exact ⟨_, _, rfl, HE2.out, fun e => absurd e HKD.out, HB2.out⟩
end Go.Proofs.YtbbdammdiplagaaGreatDoor
