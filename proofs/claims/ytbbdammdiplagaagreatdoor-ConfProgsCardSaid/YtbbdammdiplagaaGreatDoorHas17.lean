/- pat: Has; prog: closed. -/
import Derived.Test.YtbbdammdiplagaaGreatDoorPatZ
import Derived.Test.YtbbdammdiplagaaGreatDoorEqZ
import Derived.Test.YtbbdammdiplagaaGreatDoorPg17Q
namespace Go.Proofs.YtbbdammdiplagaaGreatDoor
open Go.RowKit

set_option maxRecDepth 100000 in
set_option maxHeartbeats 4000000 in
theorem has_any {w : World} {ve : Value} {E : List (Int × Int)} (Al : Option Addr) (nl cl : Nat) (he : EdgesV w ve E) (h2 : E.length ≤ 1000000) (a b : Int) :
    Calls Tryz.prog 110 #[.agg #[.slice Al nl cl, ve], .int .i64 a, .int .i64 b] w fun e w' => e = .returned (.bool (hasE E a b)) ∧ Below w.heap.size w w' := by
  obtain ⟨Ae, ce, rfl⟩ := he.form
  have hb1 : Below w.heap.size w (w.alloc (.cells #[.slice Al nl cl, .slice Ae E.length ce] 52)) := (Below.refl _ _).alloc (Nat.le_refl _) _
  have hx := Whole.new w 52 #[.slice Al nl cl, .slice Ae E.length ce]
  obtain ⟨w1, hw1⟩ : ∃ W, w.alloc (.cells #[.slice Al nl cl, .slice Ae E.length ce] 52) = W := ⟨_, rfl⟩
  obtain ⟨xb, hxb⟩ : ∃ g, w.heap.size = g := ⟨_, rfl⟩
  rw [hw1] at hb1 hx
  rw [hxb] at hx
  have he1 := he.below hb1 (Nat.le_refl _)
  have HRI : Hid (∀ W, Below w1.heap.size w1 W → Calls Tryz.prog 137 #[.agg #[.int .i64 a, .int .i64 b]] W fun e w' => e = .returned (.agg #[.int .i64 (min a b), .int .i64 (max a b)]) ∧ Below w1.heap.size w1 w') := Lib.hid (fun W hb =>
    (rising_any a b W).mono fun e w' ⟨h1, h2⟩ => ⟨h1, hb.trans (h2.mono hb.size)⟩)
  have hris : ris (a, b) = (min a b, max a b) := by
    unfold ris
    simp only
  have HCN : Hid (∀ W, Below w1.heap.size w1 W → Calls Tryz.prog 136 #[.slice Ae E.length ce, .agg #[.int .i64 (min a b), .int .i64 (max a b)]] W fun e w' => e = .returned (.bool (hasE E a b)) ∧ Below w1.heap.size w1 w') := Lib.hid (fun W hb => by
    have h := contains_any E _ (min a b) (max a b) W (he1.below hb (Nat.le_refl _)) (by omega)
    rw [← hris] at h
    exact h.mono fun e w' ⟨h1, h2⟩ => ⟨h1, hb.trans (h2.mono hb.size)⟩)
  have x1 : w1.cell? ⟨xb, 1, none⟩ = some (.slice Ae E.length ce) := hx.cell 1
  have KS := Lib.hid (fun (W : World) (hb : Below w1.heap.size w1 W) => (show W.cell? ⟨xb, 1, none⟩ = some (.slice Ae E.length ce) from (hb.cell (p := ⟨xb, 1, none⟩) hx.lt).trans x1))
  obtain ⟨z, hz⟩ : ∃ z, hasE E a b = z := ⟨_, rfl⟩
  rw [hz] at HCN ⊢
  obtain ⟨u, hu⟩ : ∃ u, min a b = u := ⟨_, rfl⟩
  obtain ⟨v, hv⟩ : ∃ v, max a b = v := ⟨_, rfl⟩
  rw [hu, hv] at HCN HRI
  generalize E.length = m at *
  have HB1 := Lib.hid hb1; have HW1 := Lib.hid hw1; have HXB := Lib.hid hxb
  clear he h2 hb1 hx hw1 hxb he1 hris hz hu hv
  go_enter Tryz.func110, Tryz.ntmps110
  go_upto_region 1 with fail
  rw [HW1.out, HXB.out]
  go_region_held3 (fun W => W.cell? ⟨xb, 1, none⟩ = some (.slice Ae m ce))
    (exact KS.out _ (by first | assumption | exact below_drewN' (Below.refl _ _) _))
    (first
      | (go_at_call 136; refine (HCN.out _ hb4).mono ?_; rintro e' w5 ⟨rfl, hb5⟩)
      | (go_at_call 137; refine (HRI.out _ (by first | assumption | exact below_drewN' (Below.refl _ _) _)).mono ?_; rintro e' w4 ⟨rfl, hb4⟩))
  have HBB := Lib.hid (HB1.out.trans (hb5.mono HB1.out.size))
  clear hb4 hb5
  go_wp2_with fail
  go_ret
  exact ⟨rfl, HBB.out⟩
set_option maxRecDepth 100000 in
set_option maxHeartbeats 4000000 in
theorem closed_any {w : World} {ve : Value} {E : List (Int × Int)} (Al : Option Addr) (n cl : Nat) (he : EdgesV w ve E) (h2 : E.length ≤ 1000000) (hn : n ≤ 1000000) (a b : Int) :
    Calls Tryz.prog 87 #[.agg #[.slice Al n cl, ve], .agg #[.int .i64 a, .int .i64 b]] w fun e w' => e = .returned (.bool (closedB n E (a, b))) ∧ Below w.heap.size w w' := by
  obtain ⟨Ae, ce, rfl⟩ := he.form
  have hb1 : Below w.heap.size w ((w.alloc (.cells #[.slice Al n cl, .slice Ae E.length ce] 52)).alloc (.cells #[.int .i64 a, .int .i64 b] 54)) := ((Below.refl _ _).alloc (Nat.le_refl _) _).alloc (by simp) _
  have hx := (Whole.new w 52 #[.slice Al n cl, .slice Ae E.length ce]).alloc (.cells #[.int .i64 a, .int .i64 b] 54)
  have hy := Whole.new (w.alloc (.cells #[.slice Al n cl, .slice Ae E.length ce] 52)) 54 #[.int .i64 a, .int .i64 b]
  rw [World.size_alloc] at hy
  obtain ⟨w1, hw1⟩ : ∃ W, (w.alloc (.cells #[.slice Al n cl, .slice Ae E.length ce] 52)).alloc (.cells #[.int .i64 a, .int .i64 b] 54) = W := ⟨_, rfl⟩
  obtain ⟨xb, hxb⟩ : ∃ g, w.heap.size = g := ⟨_, rfl⟩
  rw [hw1] at hb1 hx hy
  rw [hxb] at hx hy
  obtain ⟨yb, hyb⟩ : ∃ g, xb + 1 = g := ⟨_, rfl⟩
  rw [hyb] at hy
  have he1 := he.below hb1 (Nat.le_refl _)
  have HHS : Hid (∀ W (p q : Int), Below w1.heap.size w1 W → Calls Tryz.prog 110 #[.agg #[.slice Al n cl, .slice Ae E.length ce], .int .i64 p, .int .i64 q] W fun e w' => e = .returned (.bool (hasE E p q)) ∧ Below W.heap.size W w') := Lib.hid (fun W p q hb => has_any Al n cl (he1.below hb (Nat.le_refl _)) h2 p q)
  have HC : Hid (∀ W, Below w1.heap.size w1 W → W.cell? ⟨xb, 0, none⟩ = some (.slice Al n cl) ∧ W.cell? ⟨xb, 1, none⟩ = some (.slice Ae E.length ce) ∧ W.cell? ⟨yb, 0, none⟩ = some (.int .i64 a) ∧ W.cell? ⟨yb, 1, none⟩ = some (.int .i64 b)) := Lib.hid (fun W hb =>
    ⟨(hx.below hb hx.lt).cell 0, (hx.below hb hx.lt).cell 1, (hy.below hb hy.lt).cell 0, (hy.below hb hy.lt).cell 1⟩)
  have HU : Hid (closedB n E (a, b) = (List.range n).any fun v => hasE E a (v : Nat) && hasE E b (v : Nat)) := Lib.hid rfl
  have HB1 := Lib.hid hb1; have HW1 := Lib.hid hw1; have HXB := Lib.hid hxb; have HYB := Lib.hid hyb
  generalize E.length = m at *
  obtain ⟨c0, c1, c2, c3⟩ := HC.out w1 (Below.refl _ _)
  clear he h2 hb1 hx hy hw1 hxb hyb he1
  go_enter Tryz.func87, Tryz.ntmps87
  go_upto_region 1 with fail
  rw [HW1.out, HXB.out, HYB.out]
  go_wp2_with fail
  go_loopg [9] n (fun g y wr => ∃ k, k ≤ n ∧ g = n - k ∧ y = .int .i64 (k : Nat) ∧ (∀ i : Nat, i < k → (hasE E a (i : Nat) && hasE E b (i : Nat)) = false) ∧ Below w1.heap.size w1 wr)
  case atStart => exact ⟨0, Nat.zero_le _, rfl, rfl, fun i hi => absurd hi (Nat.not_lt_zero i), Below.refl _ _⟩
  case round =>
    obtain ⟨k, hk, rfl, rfl, hall, hB⟩ := hrel
    have HALL := Lib.hid hall
    clear hall c0 c1 c2 c3
    by_cases hlt : k < n
    · obtain ⟨c0, c1, c2, c3⟩ := HC.out wr hB
      have t3 : decide (k < n) = true := decide_eq_true hlt
      have HH1 := HHS.out wr a (k : Nat) hB
      obtain ⟨z1, hz1⟩ : ∃ z, hasE E a (k : Nat) = z := ⟨_, rfl⟩
      obtain ⟨z2, hz2⟩ : ∃ z, hasE E b (k : Nat) = z := ⟨_, rfl⟩
      rw [hz1] at HH1
      have HH1 := Lib.hid HH1; have HB := Lib.hid hB; have HLT := Lib.hid hlt; have HZ1 := Lib.hid hz1; have HZ2 := Lib.hid hz2
      clear hlt hB hz1 hz2
      go_wp2_with fail
      refine HH1.out.mono ?_; rintro e w2 ⟨rfl, hb2⟩
      have hb2 := HB.out.trans (hb2.mono HB.out.size)
      cases z1 with
      | false =>
        have HN : Hid ((hasE E a (k : Nat) && hasE E b (k : Nat)) = false) := Lib.hid (by rw [HZ1.out]; rfl)
        have HB2 := Lib.hid hb2
        clear hb2 c0 c1 c2 c3
        go_wp2_with fail
        go_roundg (n - (k + 1))
        case rel =>
          refine ⟨k + 1, HLT.out, rfl, by go_num, fun i hi => ?_, HB2.out⟩
          rcases Nat.lt_or_ge i k with h | h
          · exact HALL.out i h
          · obtain rfl : i = k := by omega
            exact HN.out
        case measure => have := HLT.out; omega
      | true =>
        have HH2 := HHS.out w2 b (k : Nat) hb2
        rw [HZ2.out] at HH2
        have HH2 := Lib.hid HH2; have HB2 := Lib.hid hb2
        clear c0 c1 c2 c3
        obtain ⟨c0, c1, c2, c3⟩ := HC.out w2 hb2
        clear hb2
        go_wp2_with fail
        refine HH2.out.mono ?_; rintro e w3 ⟨rfl, hb3⟩
        have HB3 := Lib.hid (HB2.out.trans (hb3.mono HB2.out.size))
        clear hb3 c0 c1 c2 c3
        cases z2 with
        | true =>
          have HF : Hid (closedB n E (a, b) = true) := Lib.hid (by rw [HU.out, List.any_eq_true]; exact ⟨k, List.mem_range.2 HLT.out, by rw [HZ1.out, HZ2.out]; rfl⟩)
          have HBB := Lib.hid (HB1.out.trans (HB3.out.mono HB1.out.size))
          go_wp2_with fail
          go_ret
          exact ⟨by rw [HF.out]; rfl, HBB.out⟩
        | false =>
          have HN : Hid ((hasE E a (k : Nat) && hasE E b (k : Nat)) = false) := Lib.hid (by rw [HZ2.out]; simp)
          go_wp2_with fail
          go_roundg (n - (k + 1))
          case rel =>
            refine ⟨k + 1, HLT.out, rfl, by go_num, fun i hi => ?_, HB3.out⟩
            rcases Nat.lt_or_ge i k with h | h
            · exact HALL.out i h
            · obtain rfl : i = k := by omega
              exact HN.out
          case measure => have := HLT.out; omega
    · obtain rfl : k = n := by omega
      have t3 : decide (k < k) = false := by simp
      have HF : Hid (closedB k E (a, b) = false) := Lib.hid (by
        rw [HU.out, List.any_eq_false]
        intro i hi
        rw [HALL.out i (List.mem_range.1 hi)]
        decide)
      have HBB := Lib.hid (HB1.out.trans (hB.mono HB1.out.size))
      clear hlt hB
      go_wp2_with fail
      go_ret
      exact ⟨by rw [HF.out]; rfl, HBB.out⟩
end Go.Proofs.YtbbdammdiplagaaGreatDoor
