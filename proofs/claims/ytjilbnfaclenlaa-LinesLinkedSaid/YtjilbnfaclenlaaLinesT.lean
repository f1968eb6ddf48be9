/- lines: Touch, Ends. -/
import Derived.Test.YtjilbnfaclenlaaLaw0
namespace Go.Proofs.Ytjilbnfaclenlaa
open Go.RowKit

/-- The edge of a number, if there is one. -/
def edgeOr (S : List (Int × Int)) (id : Int) : Int × Int := if hasV S.length id = true then S.getD id.toNat (0, 0) else (0, 0)
theorem edge_any {w : World} {base g : Nat} {L : List Int} {S : List (Int × Int)} (hG : GraphOwn w base g L S) (id : Int) :
    Calls Try.prog 17 #[.pointer (some ⟨g, 0, none⟩), .int .i64 id] w fun e w' => e = .returned (.tuple #[edgeV (edgeOr S id), .bool (hasV S.length id)]) ∧ Below w.heap.size w w' := by
  cases h : hasV S.length id with
  | true =>
    obtain ⟨k, rfl, hk⟩ := hasV_yes h
    have := edge_ok hG hk
    unfold edgeOr
    rw [if_pos h, Int.toNat_natCast]
    exact this
  | false =>
    unfold edgeOr
    rw [if_neg (by rw [h]; simp)]
    exact edge_no S.length id _ w (fun W hb => size_any (hG.below hb (Nat.le_refl _))) h
/-- Do two edges share a vertex? -/
def touchB (S : List (Int × Int)) (a b : Int) : Bool :=
  hasV S.length a && (hasV S.length b && ((a != b) && (((edgeOr S a).1 == (edgeOr S b).1) || (((edgeOr S a).1 == (edgeOr S b).2) || (((edgeOr S a).2 == (edgeOr S b).1) || ((edgeOr S a).2 == (edgeOr S b).2))))))

set_option maxRecDepth 100000 in
set_option maxHeartbeats 2000000 in
theorem touch_any {w : World} {base g : Nat} {L : List Int} {S : List (Int × Int)} (hG : GraphOwn w base g L S) (a b : Int) :
    Calls Try.prog 15 #[.pointer (some ⟨g, 0, none⟩), .int .i64 a, .int .i64 b] w fun e w' => e = .returned (.bool (touchB S a b)) ∧ Below w.heap.size w w' := by
  have E1 := edge_any hG a
  have E2 := fun (W : World) (hb : Below w.heap.size w W) => edge_any (hG.below hb (Nat.le_refl _)) b
  unfold touchB
  obtain ⟨⟨x0, x1⟩, hx⟩ : ∃ e, edgeOr S a = e := ⟨_, rfl⟩
  obtain ⟨⟨y0, y1⟩, hy⟩ : ∃ e, edgeOr S b = e := ⟨_, rfl⟩
  rw [hx] at E1 ⊢
  rw [hy] at E2 ⊢
  unfold edgeV at E1 E2
  simp only at E1 E2 ⊢
  obtain ⟨z1, hz1⟩ : ∃ z, hasV S.length a = z := ⟨_, rfl⟩
  obtain ⟨z2, hz2⟩ : ∃ z, hasV S.length b = z := ⟨_, rfl⟩
  rw [hz1] at E1 ⊢
  rw [hz2] at E2 ⊢
  obtain ⟨z3, hz3⟩ : ∃ z, (a != b) = z := ⟨_, rfl⟩
  obtain ⟨e1, he1⟩ : ∃ z, (x0 == y0) = z := ⟨_, rfl⟩
  obtain ⟨e2, he2⟩ : ∃ z, (x0 == y1) = z := ⟨_, rfl⟩
  obtain ⟨e3, he3⟩ : ∃ z, (x1 == y0) = z := ⟨_, rfl⟩
  obtain ⟨e4, he4⟩ : ∃ z, (x1 == y1) = z := ⟨_, rfl⟩
  rw [hz3, he1, he2, he3, he4]
  have H1 := Lib.hid E1; have H2 := Lib.hid E2
  clear E1 E2 hx hy hz1 hz2 hG
  have start : ∀ (R : Bool), Calls Try.prog 15 #[.pointer (some ⟨g, 0, none⟩), .int .i64 a, .int .i64 b] w (fun e w' => e = .returned (.bool R) ∧ Below w.heap.size w w') → Calls Try.prog 15 #[.pointer (some ⟨g, 0, none⟩), .int .i64 a, .int .i64 b] w (fun e w' => e = .returned (.bool R) ∧ Below w.heap.size w w') := fun _ h => h
  clear start
  go_enter Try.func15, Try.ntmps15
  go_wp2_with fail
  refine H1.out.mono ?_; rintro e w1 ⟨rfl, hb1⟩
  have hb2 : Below w.heap.size w (w1.alloc (.cells #[.int .i64 x0, .int .i64 x1] 40)) := hb1.alloc hb1.size _
  have hX := Whole.new w1 40 #[.int .i64 x0, .int .i64 x1]
  obtain ⟨w2, hw2⟩ : ∃ W, w1.alloc (.cells #[.int .i64 x0, .int .i64 x1] 40) = W := ⟨_, rfl⟩
  obtain ⟨xb, hxb⟩ : ∃ b, w1.heap.size = b := ⟨_, rfl⟩
  rw [hw2] at hb2 hX
  rw [hxb] at hX
  have HE2 := Lib.hid (H2.out w2 hb2); have HB2 := Lib.hid hb2; have HX := Lib.hid hX
  clear hb1 hb2 hX
  go_wp2_with fail
  refine HE2.out.mono ?_; rintro e w3 ⟨rfl, hb3⟩
  have hX3 := (HX.out.below hb3 HX.out.lt).alloc (.cells #[.int .i64 y0, .int .i64 y1] 40)
  have hY3 := Whole.new w3 40 #[.int .i64 y0, .int .i64 y1]
  have hB3 : Below w.heap.size w w3 := HB2.out.trans (hb3.mono HB2.out.size)
  have hB4 : Below w.heap.size w (w3.alloc (.cells #[.int .i64 y0, .int .i64 y1] 40)) := hB3.alloc hB3.size _
  obtain ⟨w4, hw4⟩ : ∃ W, w3.alloc (.cells #[.int .i64 y0, .int .i64 y1] 40) = W := ⟨_, rfl⟩
  obtain ⟨yb, hyb⟩ : ∃ b, w3.heap.size = b := ⟨_, rfl⟩
  rw [hw4] at hX3 hY3 hB4
  rw [hyb] at hY3
  have a0 : w4.cell? ⟨xb, 0, none⟩ = some (.int .i64 x0) := hX3.cell 0
  have a1 : w4.cell? ⟨xb, 1, none⟩ = some (.int .i64 x1) := hX3.cell 1
  have b0 : w4.cell? ⟨yb, 0, none⟩ = some (.int .i64 y0) := hY3.cell 0
  have b1 : w4.cell? ⟨yb, 1, none⟩ = some (.int .i64 y1) := hY3.cell 1
  have HB4 := Lib.hid hB4
  clear hb3 hX3 hY3 hB3 hB4
  cases z1 with
  | false =>
    go_wp2_with fail
    go_ret
    exact ⟨rfl, HB4.out⟩
  | true =>
    cases z2 with
    | false =>
      go_wp2_with fail
      go_ret
      exact ⟨rfl, HB4.out⟩
    | true =>
      cases z3 with
      | false =>
        go_wp2_with fail
        go_ret
        exact ⟨rfl, HB4.out⟩
      | true =>
        cases e1 with
        | true =>
          go_wp2_with fail
          go_ret
          exact ⟨rfl, HB4.out⟩
        | false =>
          cases e2 with
          | true =>
            go_wp2_with fail
            go_ret
            exact ⟨rfl, HB4.out⟩
          | false =>
            cases e3 with
            | true =>
              go_wp2_with fail
              go_ret
              exact ⟨rfl, HB4.out⟩
            | false =>
              go_wp2_with fail
              go_ret
              exact ⟨rfl, HB4.out⟩

/-- The edges of those numbers that there are. -/
def endsL (S : List (Int × Int)) (l : List Int) : List (Int × Int) := l.filterMap fun id => if hasV S.length id = true then some (edgeOr S id) else none
theorem endsL_snoc (S : List (Int × Int)) (l : List Int) (id : Int) : endsL S (l ++ [id]) = endsL S l ++ (if hasV S.length id = true then [edgeOr S id] else []) := by
  unfold endsL
  rw [List.filterMap_append]
  congr 1
  by_cases h : hasV S.length id = true <;> simp [h]
theorem endsL_le (S : List (Int × Int)) (l : List Int) : (endsL S l).length ≤ l.length := List.length_filterMap_le _ _

set_option maxRecDepth 100000 in
set_option maxHeartbeats 2000000 in
theorem ends_any {w : World} {base g : Nat} {L : List Int} {S : List (Int × Int)} (hG : GraphOwn w base g L S) (l : List Int) (vl : Value) (hl : SeqV w vl l) (hn : l.length ≤ 1000000) :
    Calls Try.prog 19 #[.pointer (some ⟨g, 0, none⟩), vl] w fun e w' => ∃ v', e = .returned v' ∧ w'.ownsRow w.heap.size 40 2 v' (endsL S l).length (eL (endsL S l)) ∧ Below w.heap.size w w' := by
  obtain ⟨j0, hj0, hz0, hz1, hz2⟩ := info_parts Try.infoAE
  obtain ⟨Al, cl, rfl⟩ := IntsV.form hl
  obtain ⟨n, hnn⟩ : ∃ n, l.length = n := ⟨_, rfl⟩
  have HG := Lib.hid hG; have HL := Lib.hid hl
  rw [hnn] at HL hn ⊢
  have HN := Lib.hid hnn
  clear hG hl hnn
  go_enter Try.func19, Try.ntmps19
  go_wp2_with fail
  go_loopg [5, 12] n (fun gh rv yv wr => ∃ i, i ≤ n ∧ gh = n - i ∧ yv = .int .i64 (i : Nat) ∧ wr.ownsRow w.heap.size 40 2 rv (endsL S (l.take i)).length (eL (endsL S (l.take i))) ∧ Below w.heap.size w wr)
  case atStart => exact ⟨0, Nat.zero_le _, rfl, rfl, World.ownsRow_nil _ _ _ 2, Below.refl _ _⟩
  case round =>
    obtain ⟨i, hi, rfl, rfl, hown, hB⟩ := hrel
    obtain ⟨A, c, rfl⟩ := own_form hown
    by_cases hlt : i < n
    · have hiL : i < l.length := by rw [HN.out]; exact hlt
      obtain ⟨bb, off, rfl, hc⟩ := SeqV.pos (HL.out.below hB (Nat.le_refl _)) hiL
      obtain ⟨id, hid⟩ : ∃ z, l.getD i 0 = z := ⟨_, rfl⟩
      rw [hid] at hc
      have hnext : endsL S (l.take (i + 1)) = endsL S (l.take i) ++ (if hasV S.length id = true then [edgeOr S id] else []) := by
        rw [List.take_succ_eq_append_getElem hiL, show l[i] = id by rw [← hid]; simp [List.getD, hiL], endsL_snoc]
      have hle : (endsL S (l.take i)).length ≤ 1000000 := by have := endsL_le S (l.take i); rw [List.length_take] at this; omega
      have ED := edge_any (HG.out.below hB (Nat.le_refl _)) id
      obtain ⟨Q, hQ⟩ : ∃ Q, endsL S (l.take i) = Q := ⟨_, rfl⟩
      rw [hQ] at hnext hle hown ⊢
      obtain ⟨q, hq⟩ : ∃ q, Q.length = q := ⟨_, rfl⟩
      rw [hq] at hown hle ⊢
      obtain ⟨⟨x, y⟩, hxy⟩ : ∃ e, edgeOr S id = e := ⟨_, rfl⟩
      rw [hxy] at hnext ED
      unfold edgeV at ED
      simp only at ED
      have t3 : decide (i < n) = true := decide_eq_true hlt
      have i1 : (i : Int) < n := by omega
      have i2 : (0 : Int) ≤ i := by omega
      obtain ⟨z, hz⟩ : ∃ z, hasV S.length id = z := ⟨_, rfl⟩
      rw [hz] at hnext ED
      have HED := Lib.hid ED; have HOW := Lib.hid hown; have HB := Lib.hid hB; have HNX := Lib.hid hnext; have HQ := Lib.hid hq; have HLT := Lib.hid hlt
      clear ED hown hB hnext hQ hq hxy hz hid hiL hlt
      cases z with
      | true =>
        have HNX2 : Hid (endsL S (l.take (i + 1)) = Q ++ [(x, y)]) := Lib.hid (by rw [HNX.out]; simp)
        go_wp2_with fail
        refine HED.out.mono ?_; rintro e w2 ⟨rfl, hb2⟩
        have hB2 : Below w.heap.size w w2 := HB.out.trans (hb2.mono HB.out.size)
        have hB3 : Below w.heap.size w (w2.alloc (.cells #[.int .i64 x, .int .i64 y] 40)) := hB2.alloc hB2.size _
        have hX := Whole.new w2 40 #[.int .i64 x, .int .i64 y]
        have hO3 := (own_below HOW.out hb2 (Nat.le_refl _)).alloc (.cells #[.int .i64 x, .int .i64 y] 40)
        obtain ⟨w3, hw3⟩ : ∃ W, w2.alloc (.cells #[.int .i64 x, .int .i64 y] 40) = W := ⟨_, rfl⟩
        obtain ⟨xb, hxb⟩ : ∃ b, w2.heap.size = b := ⟨_, rfl⟩
        rw [hw3] at hB3 hX hO3
        rw [hxb] at hX
        have x0 : w3.cell? ⟨xb, 0, none⟩ = some (.int .i64 x) := hX.cell 0
        have x1 : w3.cell? ⟨xb, 1, none⟩ = some (.int .i64 y) := hX.cell 1
        have hB4 : Below w.heap.size w (w3.alloc (.cells #[.int .i64 x, .int .i64 y] 40)) := hB3.alloc hB3.size _
        have hs4 := hB4.size
        have HO4 := Lib.hid (hO3.alloc (.cells #[.int .i64 x, .int .i64 y] 40))
        have HN4 := Lib.hid (edges_new w3 40 x y 1)
        have HB4 := Lib.hid hB4
        clear hb2 hB2 hB3 hX hO3 hB4
        go_wp2_with (at_builtin; refine wpList_appEdges _ rfl _ _ 46 40 rfl w.heap.size j0 (.agg #[.int .i64 0, .int .i64 0]) Try.underlying46 hj0 hz0 rfl hz1 hz2 _ q _ rfl HO4.out _ [(x, y)] rfl HN4.out (by simp; omega) hs4 ?_)
        intro A5 c5 w5 hown5 hgrow5
        have HB5 := Lib.hid (hgrow5.below HO4.out HB4.out (Nat.le_refl _) hs4)
        have HO5 := Lib.hid hown5
        clear hown5 hgrow5
        go_wp2_with fail
        go_roundg (n - (i + 1))
        case rel => exact ⟨i + 1, HLT.out, rfl, by go_num, by rw [HNX2.out, List.length_append, HQ.out, eL_app]; exact HO5.out, HB5.out⟩
        case measure => have := HLT.out; omega
      | false =>
        have HNX2 : Hid (endsL S (l.take (i + 1)) = Q) := Lib.hid (by rw [HNX.out]; simp)
        go_wp2_with fail
        refine HED.out.mono ?_; rintro e w2 ⟨rfl, hb2⟩
        have hB2 : Below w.heap.size w w2 := HB.out.trans (hb2.mono HB.out.size)
        have HB3 := Lib.hid (hB2.alloc hB2.size (.cells #[.int .i64 x, .int .i64 y] 40))
        have HO3 := Lib.hid ((own_below HOW.out hb2 (Nat.le_refl _)).alloc (.cells #[.int .i64 x, .int .i64 y] 40))
        clear hb2 hB2
        go_wp2_with fail
        go_roundg (n - (i + 1))
        case rel => exact ⟨i + 1, HLT.out, rfl, by go_num, by rw [HNX2.out, HQ.out]; exact HO3.out, HB3.out⟩
        case measure => have := HLT.out; omega
    · obtain rfl : i = n := by omega
      have t3 : decide (i < i) = false := by simp
      rw [List.take_of_length_le (by rw [HN.out]; omega)] at hown
      rw [List.take_of_length_le (by rw [HN.out]; omega)]
      have HO := Lib.hid hown; have HB := Lib.hid hB
      clear hlt hown hB
      go_wp2_with fail
      go_ret
      exact ⟨_, rfl, HO.out, HB.out⟩
end Go.Proofs.Ytjilbnfaclenlaa
