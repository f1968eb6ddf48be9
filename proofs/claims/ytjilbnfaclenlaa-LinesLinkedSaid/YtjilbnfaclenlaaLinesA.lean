/- Layer 11: the chapter's example. -/
import Derived.Test.YtjilbnfaclenlaaLinesT
import Derived.Test.YtjilbnfaclenlaaLinesW
namespace Go.Proofs.Ytjilbnfaclenlaa
open Go.RowKit

theorem alive_three : newFault [0, 0, 0] [(0, 2), (1, 2), (0, 1)] = none ∧ sortE [(0, 2), (1, 2), (0, 1)] = [(0, 1), (0, 2), (1, 2)] ∧ (pairsE 3 [(0, 1), (0, 2), (1, 2)]).length = 3 ∧ (sortE (pairsE 3 [(0, 1), (0, 2), (1, 2)])).length = 3 ∧ touchB [(0, 1), (0, 2), (1, 2)] 0 1 = true := by decide

set_option maxRecDepth 100000 in
set_option maxHeartbeats 4000000 in
theorem alive_ok (w : World) : Calls Try.prog 8 #[] w fun e w' => e = .returned (.bool true) ∧ Below w.heap.size w w' := by
  have hw1 := (Whole.new w 3 #[.int .i64 0, .int .i64 0, .int .i64 0]).alloc (.cells #[.int .i64 0, .int .i64 2, .int .i64 1, .int .i64 2, .int .i64 0, .int .i64 1] 43)
  have hw2 := Whole.new (w.alloc (.cells #[.int .i64 0, .int .i64 0, .int .i64 0] 3)) 43 #[.int .i64 0, .int .i64 2, .int .i64 1, .int .i64 2, .int .i64 0, .int .i64 1]
  rw [World.size_alloc] at hw2
  have hb1 : Below w.heap.size w ((w.alloc (.cells #[.int .i64 0, .int .i64 0, .int .i64 0] 3)).alloc (.cells #[.int .i64 0, .int .i64 2, .int .i64 1, .int .i64 2, .int .i64 0, .int .i64 1] 43)) := ((Below.refl _ _).alloc (Nat.le_refl _) _).alloc (by simp) _
  have N1 := made_good [0, 0, 0] [(0, 2), (1, 2), (0, 1)] _ _ _ (seq_block hw1 rfl (by decide) 3) (edges_block (E := [(0, 2), (1, 2), (0, 1)]) hw2 rfl (by decide) 3) (by intro e he; simp at he; rcases he with rfl | rfl | rfl <;> (unfold In64; simp)) (by decide) (by decide) alive_three.1
  rw [alive_three.2.1] at N1
  have HN1 := Lib.hid N1; have HB1 := Lib.hid hb1
  clear hw1 hw2 hb1 N1
  go_enter Try.func8, Try.ntmps8
  go_wp2_with fail
  refine HN1.out.mono ?_; rintro e w1 ⟨g, v, rfl, hG0, hv, hb0⟩
  obtain ⟨Av, cv, rfl⟩ := own_form hv
  have hb1 := hb0.alloc hb0.size (.cells #[.slice (some ⟨w.heap.size, 0, none⟩) 3 3, .slice Av 3 cv] 27)
  have hG1 := hG0.below ((Below.refl w1.heap.size w1).alloc (Nat.le_refl _) (.cells #[.slice (some ⟨w.heap.size, 0, none⟩) 3 3, .slice Av 3 cv] 27)) (Nat.le_refl _)
  have hb2 := HB1.out.trans (hb1.mono HB1.out.size)
  have hF : Fine [((0 : Int), (1 : Int)), (0, 2), (1, 2)] := by
    have := (fine_sort alive_three.1).1
    rwa [alive_three.2.1] at this
  have LO := lines_of hG1 hF (by decide) (by decide) (by show (pairsE 3 _).length ≤ _; rw [alive_three.2.2.1]; decide)
  have HG1 := Lib.hid hG1; have HB2 := Lib.hid hb2; have HLO := Lib.hid LO
  clear hG1 hb1 hb2 hF LO hG0 hv hb0
  go_wp2_with fail
  refine HLO.out.mono ?_; rintro e w2 ⟨h, rfl, hH, hb3⟩
  have T1 := touch_any (HG1.out.below hb3 (Nat.le_refl _)) 0 1
  rw [alive_three.2.2.2.2] at T1
  have LN := len_any hH
  have SZ := size_any hH
  rw [show (sortE (pairsE [(0 : Int), 0, 0].length [((0 : Int), (1 : Int)), (0, 2), (1, 2)])).length = 3 from alive_three.2.2.2.1] at SZ
  rw [show (List.replicate [((0 : Int), (1 : Int)), (0, 2), (1, 2)].length (0 : Int)).length = 3 from rfl] at LN
  have HLN := Lib.hid LN; have HSZ := Lib.hid SZ; have HT := Lib.hid T1; have HB3 := Lib.hid (HB2.out.trans (hb3.mono HB2.out.size))
  clear hH hb3 T1 LN SZ
  go_wp2_with fail
  refine HLN.out.mono ?_; rintro e w3 ⟨rfl, hw⟩; obtain rfl := hw.symm
  go_wp2_with fail
  refine HSZ.out.mono ?_; rintro e w3 ⟨rfl, hw⟩; obtain rfl := hw.symm
  go_wp2_with fail
  refine HT.out.mono ?_; rintro e w3 ⟨rfl, hb4⟩
  have HB4 := Lib.hid (HB3.out.trans (hb4.mono HB3.out.size))
  clear hb4
  go_wp2_with fail
  go_ret
  exact ⟨rfl, HB4.out⟩
end Go.Proofs.Ytjilbnfaclenlaa
