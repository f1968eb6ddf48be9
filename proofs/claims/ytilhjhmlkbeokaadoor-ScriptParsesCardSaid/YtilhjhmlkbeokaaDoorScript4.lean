/- script: Right, Count, Text; the acts of the document as the program's. -/
import Derived.Test.YtilhjhmlkbeokaaDoorScript3
import Derived.Test.YtilhjhmlkbeokaaDoorBuild25
namespace Go.Proofs.YtilhjhmlkbeokaaDoor
open Go.RowKit

set_option maxRecDepth 100000 in
set_option maxHeartbeats 4000000 in
theorem count_any (L : List (Int × Int)) (v : Value) (kind : Int) (w : World) (h : EdgesV w v L) (hL : L.length ≤ 1000000) :
    Calls Tryd.prog 16 #[v, .int .i64 kind] w fun e w' => e = .returned (.int .i64 (L.countP (fun a => a.1 == kind) : Nat)) ∧ Below w.heap.size w w' := by
  obtain ⟨A, c, rfl⟩ := h.form
  obtain ⟨m, hm⟩ : ∃ m, L.length = m := ⟨_, rfl⟩
  have HS := Lib.hid h
  rw [hm] at HS hL ⊢
  have HM := Lib.hid hm
  clear h hm
  go_enter Tryd.func16, Tryd.ntmps16
  go_wp2_with fail
  go_loopg [5, 10] m (fun g nv iv wr => ∃ k, k ≤ m ∧ g = m - k ∧ iv = .int .i64 (k : Nat) ∧ nv = .int .i64 ((L.take k).countP (fun a => a.1 == kind) : Nat) ∧ Below w.heap.size w wr)
  case atStart => exact ⟨0, Nat.zero_le _, rfl, rfl, rfl, Below.refl _ _⟩
  case round =>
    obtain ⟨k, hk, rfl, rfl, rfl, hB⟩ := hrel
    obtain ⟨q, hq⟩ : ∃ q, (L.take k).countP (fun a => a.1 == kind) = q := ⟨_, rfl⟩
    have hqk : q ≤ k := by
      rw [← hq]
      refine Nat.le_trans List.countP_le_length ?_
      rw [List.length_take]
      omega
    rw [hq]
    by_cases hlt : k < m
    · have hkL : k < L.length := by rw [HM.out]; exact hlt
      obtain ⟨b, off, rfl, d0, d1⟩ := (HS.out.below hB (Nat.le_refl _)).pos hkL
      obtain ⟨e, he⟩ : ∃ e, L.getD k (0, 0) = e := ⟨_, rfl⟩
      rw [he] at d0 d1
      obtain ⟨x, y⟩ := e
      have t3 : decide (k < m) = true := decide_eq_true hlt
      have i1 : (k : Int) < m := by omega
      have i2 : (0 : Int) ≤ k := by omega
      have hnx : (L.take (k + 1)).countP (fun a => a.1 == kind) = q + (if x = kind then 1 else 0) := by
        rw [List.take_succ_eq_append_getElem hkL, List.countP_append, hq, ← getD_at hkL, he]
        simp [List.countP_cons]
      have hb2 := hB.alloc hB.size (.cells #[.int .i64 x, .int .i64 y] 36)
      have HB2 := Lib.hid hb2; have HNX := Lib.hid hnx; have HLT := Lib.hid hlt
      simp only at d0 d1
      clear hB hq he hnx hb2 hkL
      by_cases hx : x = kind
      · have HX := Lib.hid hx
        have t4 : (x == kind) = true := by simpa using hx
        clear hx
        go_wp2_with fail
        go_roundg (m - (k + 1))
        case rel => exact ⟨k + 1, HLT.out, rfl, by go_num, by rw [HNX.out, if_pos HX.out]; rfl, HB2.out⟩
        case measure => have := HLT.out; omega
      · have HX := Lib.hid hx
        have t4 : (x == kind) = false := by simpa using hx
        clear hx
        go_wp2_with fail
        go_roundg (m - (k + 1))
        case rel => exact ⟨k + 1, HLT.out, rfl, by go_num, by rw [HNX.out, if_neg HX.out]; rfl, HB2.out⟩
        case measure => have := HLT.out; omega
    · obtain rfl : k = m := by omega
      have t3 : decide (k < k) = false := by simp
      have HQ : Hid (L.countP (fun a => a.1 == kind) = q) := Lib.hid (by rw [← hq, List.take_of_length_le (by rw [HM.out]; omega)])
      have HB := Lib.hid hB
      clear hB hq hlt
      go_wp2_with fail
      go_ret
      exact ⟨by rw [HQ.out]; rfl, HB.out⟩
/-- What Right tells. -/
def RightTo (L : List (Int × Int)) (w : World) (e : Ending) (w' : World) : Prop :=
  Below w.heap.size w w' ∧ (((∀ a ∈ L, goodA a = true) ∧ e = .returned .nilIface) ∨ ∃ k u, (∀ i, i < k → goodA (L.getD i (0, 0)) = true) ∧ k < L.length ∧ goodA (L.getD k (0, 0)) = false ∧ e = .returned u ∧ FaultAt 14 k w' u)
set_option maxRecDepth 100000 in
set_option maxHeartbeats 4000000 in
theorem actsRight_any (L : List (Int × Int)) (v : Value) (w : World) (h : EdgesV w v L) (hL : L.length ≤ 1000000) :
    Calls Tryd.prog 13 #[v] w (RightTo L w) := by
  obtain ⟨A, c, rfl⟩ := h.form
  obtain ⟨m, hm⟩ : ∃ m, L.length = m := ⟨_, rfl⟩
  have HS := Lib.hid h
  rw [hm] at HS hL ⊢
  have HM := Lib.hid hm
  clear h hm
  go_enter Tryd.func13, Tryd.ntmps13
  go_wp2_with fail
  go_loopg [7] m (fun g iv wr => ∃ k, k ≤ m ∧ g = m - k ∧ iv = .int .i64 (k : Nat) ∧ (∀ i, i < k → goodA (L.getD i (0, 0)) = true) ∧ Below w.heap.size w wr)
  case atStart => exact ⟨0, Nat.zero_le _, rfl, rfl, fun i h => by omega, Below.refl _ _⟩
  case round =>
    obtain ⟨k, hk, rfl, rfl, hgood, hB⟩ := hrel
    by_cases hlt : k < m
    · have hkL : k < L.length := by rw [HM.out]; exact hlt
      obtain ⟨b, off, rfl, d0, d1⟩ := (HS.out.below hB (Nat.le_refl _)).pos hkL
      obtain ⟨e, he⟩ : ∃ e, L.getD k (0, 0) = e := ⟨_, rfl⟩
      rw [he] at d0 d1
      obtain ⟨x, y⟩ := e
      have t3 : decide (k < m) = true := decide_eq_true hlt
      have i1 : (k : Int) < m := by omega
      have i2 : (0 : Int) ≤ k := by omega
      have hb2 := hB.alloc hB.size (.cells #[.int .i64 x, .int .i64 y] 36)
      have HR := Lib.hid (right_any x y (wr.alloc (.cells #[.int .i64 x, .int .i64 y] 36)))
      have HB2 := Lib.hid hb2; have HLT := Lib.hid hlt; have HGD := Lib.hid hgood; have HKL := Lib.hid hkL; have HEK := Lib.hid he
      simp only at d0 d1
      clear hB he hb2 hkL hgood
      obtain ⟨z, hz⟩ : ∃ z, goodA (x, y) = z := ⟨_, rfl⟩
      rw [hz] at HR
      have HZ := Lib.hid hz
      clear hz
      go_wp2_with fail
      refine HR.out.mono ?_; rintro e w3 ⟨rfl, hb3⟩
      have HB3 := Lib.hid (HB2.out.trans (hb3.mono HB2.out.size))
      clear hb3
      cases z with
      | true =>
        go_wp2_with fail
        go_roundg (m - (k + 1))
        case rel =>
          refine ⟨k + 1, HLT.out, rfl, by go_num, fun i hik => ?_, HB3.out⟩
          rcases Nat.lt_or_ge i k with h | h
          · exact HGD.out i h
          · obtain rfl : i = k := by omega
            rw [HEK.out]
            exact HZ.out
        case measure => have := HLT.out; omega
      | false =>
        have HNEW := Lib.hid (new_any 14 (k : Int) ⟨#[97, 99, 116]⟩ w3)
        go_wp2_with fail
        refine HNEW.out.mono ?_; rintro e w7 ⟨rfl, hw7⟩
        have HB7 : Hid (Below w.heap.size w w7) := by rw [← hw7]; exact Lib.hid (HB3.out.alloc HB3.out.size _)
        have HF7 : Hid (FaultAt 14 k w7 (.iface 53 (.pointer (some ⟨w3.heap.size, 0, none⟩)))) := by rw [← hw7]; exact Lib.hid ⟨_, _, rfl, Whole.new w3 _ _⟩
        clear hw7
        go_wp2_with fail
        go_ret
        exact ⟨HB7.out, Or.inr ⟨k, _, HGD.out, HKL.out, by rw [HEK.out]; exact HZ.out, rfl, HF7.out⟩⟩
    · obtain rfl : k = m := by omega
      have t3 : decide (k < k) = false := by simp
      have HGD := Lib.hid hgood
      have HB := Lib.hid hB
      clear hB hgood hlt
      go_wp2_with fail
      go_ret
      refine ⟨HB.out, Or.inl ⟨fun a ha => ?_, rfl⟩⟩
      obtain ⟨i, hi, rfl⟩ := List.getElem_of_mem ha
      rw [← getD_at hi]
      exact HGD.out i (by rw [← HM.out]; exact hi)
set_option maxRecDepth 100000 in
set_option maxHeartbeats 4000000 in
theorem actsOf_any (E : List (Int × Int)) (ve : Value) (w : World) (he : EdgesV w ve E) (hE : E.length * 16 ≤ 140737488351232) :
    Calls Tryd.prog 14 #[ve] w fun e w' => ∃ v', e = .returned v' ∧ w'.ownsRow w.heap.size 36 2 v' E.length (eL E) ∧ Below w.heap.size w w' := by
  obtain ⟨j0, hj0, hz0, hz1, hz2⟩ := info_parts Tryd.infoAct
  obtain ⟨Ae, ce, rfl⟩ := he.form
  obtain ⟨m, hm⟩ : ∃ m, E.length = m := ⟨_, rfl⟩
  have HSE := Lib.hid he
  rw [hm] at HSE hE ⊢
  have HM := Lib.hid hm
  clear he hm
  go_enter Tryd.func14, Tryd.ntmps14
  go_wp2_with fail
  go_loopg [3, 4] m (fun gh rv yv wr => ∃ k, k ≤ m ∧ gh = m - k ∧ yv = .int .i64 (k : Nat) ∧ wr.ownsRow w.heap.size 36 2 rv k (eL (E.take k)) ∧ Below w.heap.size w wr)
  case atStart => exact ⟨0, Nat.zero_le _, rfl, rfl, World.ownsRow_nil _ _ _ 2, Below.refl _ _⟩
  case round =>
    obtain ⟨k, hk, rfl, rfl, hown, hB⟩ := hrel
    obtain ⟨A, c, rfl⟩ := own_form hown
    by_cases hlt : k < m
    · have hkE : k < E.length := by rw [HM.out]; exact hlt
      obtain ⟨b, off, rfl, d0, d1⟩ := (HSE.out.below hB (Nat.le_refl _)).pos hkE
      obtain ⟨e, he⟩ : ∃ e, E.getD k (0, 0) = e := ⟨_, rfl⟩
      rw [he] at d0 d1
      obtain ⟨x, y⟩ := e
      have t3 : decide (k < m) = true := decide_eq_true hlt
      have i1 : (k : Int) < m := by omega
      have i2 : (0 : Int) ≤ k := by omega
      have HTK : Hid (eL (E.take (k + 1)) = eL (E.take k) ++ eL [(x, y)]) := Lib.hid (by rw [List.take_succ_eq_append_getElem hkE, ← getD_at hkE, he, eL_app])
      have HOW := Lib.hid (hown.alloc (.cells #[.int .i64 x, .int .i64 y] 36))
      have hb2 : Below w.heap.size w (wr.alloc (.cells #[.int .i64 x, .int .i64 y] 36)) := hB.alloc hB.size _
      have hs2 := hb2.size
      have HB2 := Lib.hid hb2
      have HN2 := Lib.hid (edges_new wr 36 x y 1)
      have HLT := Lib.hid hlt
      clear hown hB he hb2 hlt hkE
      go_wp2_with (at_builtin; refine wpList_appEdges _ rfl _ _ 23 36 rfl w.heap.size j0 (.agg #[.int .i64 0, .int .i64 0]) Tryd.underlying23 hj0 hz0 rfl hz1 hz2 _ k _ rfl HOW.out _ [(x, y)] rfl HN2.out (by simp; omega) hs2 ?_)
      intro A3 c3 w7 hown3 hgrow3
      have HB3 := Lib.hid (hgrow3.below HOW.out HB2.out (Nat.le_refl _) hs2)
      have HO3 := Lib.hid hown3
      clear hown3 hgrow3
      go_wp2_with fail
      go_roundg (m - (k + 1))
      case rel => exact ⟨k + 1, HLT.out, rfl, by go_num, by rw [HTK.out]; exact HO3.out, HB3.out⟩
      case measure => have := HLT.out; omega
    · obtain rfl : k = m := by omega
      have t3 : decide (k < k) = false := by simp
      have HO : Hid (wr.ownsRow w.heap.size 36 2 (.slice A k c) k (eL E)) := Lib.hid (by rw [List.take_of_length_le (by rw [HM.out]; omega)] at hown; exact hown)
      have HB := Lib.hid hB
      clear hlt hown hB
      go_wp2_with fail
      go_ret
      exact ⟨_, rfl, HO.out, HB.out⟩
end Go.Proofs.YtilhjhmlkbeokaaDoor
