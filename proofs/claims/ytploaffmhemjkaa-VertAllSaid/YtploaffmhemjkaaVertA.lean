/- Layer 10: the chapter's example; vert.Bare. -/
import Derived.Test.YtploaffmhemjkaaNext
namespace Go.Proofs.Ytploaffmhemjkaa
open Go.RowKit

theorem GF.of {w : World} {base g n : Nat} {L : List Int} {S : List (Int × Int)} (hG : GraphOwn w base g L S) (hl : L.length = n) (hF : Fine S) (hR : ∀ e, e ∈ S → 0 ≤ e.1 ∧ e.2 < (n : Int)) (hS : S.length ≤ 1000) (hn : n ≤ 1000) : GF w base (.pointer (some ⟨g, 0, none⟩)) n S :=
  ⟨Or.inl ⟨g, L, rfl, hl, hG⟩, hF, hR, hS, hn⟩
theorem same_c {W : World} {X : List Int} {u v : Value} (h : SeqV W u X) (k : SeqV W v X) (hl : X.length ≤ 1000000000) :
    Calls Try.prog 12 #[u, v] W fun e w' => e = .returned (.bool true) ∧ Below W.heap.size W w' := by
  refine (same_told (wr := W) h k hl (Below.refl _ _)).mono ?_
  rintro e w' ⟨h1, h2, _⟩
  exact ⟨h1, h2⟩
theorem list_some {w : World} {base m : Nat} {g : Value} {S : List (Int × Int)} (hG : GF w base g m S) (s : List Int) (vs : Value) (hs : SeqV w vs s) (hn : s.length ≤ 100000) {x : List Int} (hx : listL m (adj S) s = some x) :
    Calls Try.prog 10 #[g, vs] w fun e w' => ∃ v, e = .returned (.tuple #[v, .bool true]) ∧ SeqC w' v x ∧ Below w.heap.size w w' := by
  have h := list_any hG s vs hs hn
  rw [hx] at h
  exact h
theorem list_none {w : World} {base m : Nat} {g : Value} {S : List (Int × Int)} (hG : GF w base g m S) (s : List Int) (vs : Value) (hs : SeqV w vs s) (hn : s.length ≤ 100000) (hx : listL m (adj S) s = none) :
    Calls Try.prog 10 #[g, vs] w fun e w' => ∃ v, e = .returned (.tuple #[v, .bool false]) ∧ SeqC w' v [] ∧ Below w.heap.size w w' := by
  have h := list_any hG s vs hs hn
  rw [hx] at h
  exact h
theorem alive_two : newFault [0, 0, 0] [(0, 2), (1, 2)] = none ∧ sortE [(0, 2), (1, 2)] = [(0, 2), (1, 2)] ∧ listL 3 (adj [(0, 2), (1, 2)]) [0, 1, 2] = some [0, 2, 1] := by decide

set_option maxRecDepth 100000 in
set_option maxHeartbeats 400000 in
theorem alive_ok (w : World) : Calls Try.prog 8 #[] w fun e w' => e = .returned (.bool true) ∧ Below w.heap.size w w' := by
  have hw1 := (Whole.new w 3 #[.int .i64 0, .int .i64 0, .int .i64 0]).alloc (.cells #[.int .i64 0, .int .i64 2, .int .i64 1, .int .i64 2] 49)
  have hw2 := Whole.new (w.alloc (.cells #[.int .i64 0, .int .i64 0, .int .i64 0] 3)) 49 #[.int .i64 0, .int .i64 2, .int .i64 1, .int .i64 2]
  rw [World.size_alloc] at hw2
  have hb1 : Below w.heap.size w ((w.alloc (.cells #[.int .i64 0, .int .i64 0, .int .i64 0] 3)).alloc (.cells #[.int .i64 0, .int .i64 2, .int .i64 1, .int .i64 2] 49)) := ((Below.refl _ _).alloc (Nat.le_refl _) _).alloc (by simp) _
  have N1 := made_good [0, 0, 0] [(0, 2), (1, 2)] _ _ _ (seq_block hw1 rfl (by decide) 3) (edges_block (E := [(0, 2), (1, 2)]) hw2 rfl (by decide) 2) (by intro e he; simp at he; rcases he with rfl | rfl <;> (unfold In64; simp)) (by decide) (by decide) alive_two.1
  have hfs := fine_sort alive_two.1
  rw [alive_two.2.1] at N1 hfs
  have HN1 := Lib.hid N1; have HB1 := Lib.hid hb1; have HFS := Lib.hid hfs
  clear hw1 hw2 hb1 N1 hfs
  go_enter Try.func8, Try.ntmps8
  go_wp2_with fail
  refine HN1.out.mono ?_; rintro e w1 ⟨g, v, rfl, hG0, hv, hb0⟩
  obtain ⟨Av, cv, rfl⟩ := own_form hv
  have hb1 := hb0.alloc hb0.size (.cells #[.slice (some ⟨w.heap.size, 0, none⟩) 3 3, .slice Av 2 cv] 27)
  have hG1 := hG0.below ((Below.refl w1.heap.size w1).alloc (Nat.le_refl _) (.cells #[.slice (some ⟨w.heap.size, 0, none⟩) 3 3, .slice Av 2 cv] 27)) (Nat.le_refl _)
  obtain ⟨w2, hw2⟩ : ∃ W, w1.alloc (.cells #[.slice (some ⟨w.heap.size, 0, none⟩) 3 3, .slice Av 2 cv] 27) = W := ⟨_, rfl⟩
  rw [hw2] at hb1 hG1
  have hg2 : GF w2 _ (.pointer (some ⟨g, 0, none⟩)) 3 [(0, 2), (1, 2)] := GF.of hG1 rfl HFS.out.1 HFS.out.2.1 (by simp) (by omega)
  have hb2 := HB1.out.trans (hb1.mono HB1.out.size)
  have hb3 : Below w2.heap.size w2 (w2.alloc (.cells #[.int .i64 0, .int .i64 1, .int .i64 2] 3)) := (Below.refl _ _).alloc (Nat.le_refl _) _
  have hg3 := hg2.below hb3
  have L3 := list_some hg3 [0, 1, 2] _ (seq_block (Whole.new w2 3 #[.int .i64 0, .int .i64 1, .int .i64 2]) rfl (by decide) 3) (by simp) alive_two.2.2
  have HG3 := Lib.hid hg3; have HL3 := Lib.hid L3; have HB3 := Lib.hid (hb2.trans (hb3.mono hb2.size)); have HW2 := Lib.hid hw2
  clear hb0 hb1 hG0 hv hG1 hw2 hg2 hb2 hb3 hg3 L3
  go_upto_region 4 with fail
  rw [HW2.out]
  go_wp2_with fail
  refine HL3.out.mono ?_; rintro e w4 ⟨v4, rfl, hs4, hb4⟩
  obtain ⟨_, A4, c4, rfl, _⟩ := id hs4
  have hb5 : Below w4.heap.size w4 (w4.alloc (.cells #[.int .i64 0, .int .i64 2, .int .i64 1] 3)) := (Below.refl _ _).alloc (Nat.le_refl _) _
  have hs5 := hs4.below hb5 (Nat.le_refl _)
  have S5 := Lib.hid (same_c hs5.1 (seq_block (Whole.new w4 3 #[.int .i64 0, .int .i64 2, .int .i64 1]) rfl (by decide) 3) (by simp))
  have hB4 := HB3.out.trans (hb4.mono HB3.out.size)
  have HB5 := Lib.hid (hB4.trans (hb5.mono hB4.size)); have HG5 := Lib.hid ((HG3.out.below hb4).below hb5); have HS5 := Lib.hid hs5
  clear hs4 hb4 hb5 hs5 hB4
  go_wp2_with fail
  refine S5.out.mono ?_; rintro e w6 ⟨rfl, hb6⟩
  have C6 := canonical_any (HG5.out.below hb6) [0, 2, 1] _ (HS5.out.below hb6 (Nat.le_refl _)) (by simp)
  rw [list_can alive_two.2.2] at C6
  have HC6 := Lib.hid C6; have HB6 := Lib.hid (HB5.out.trans (hb6.mono HB5.out.size))
  clear hb6 C6
  go_wp2_with fail
  refine HC6.out.mono ?_; rintro e w7 ⟨rfl, d, hw⟩
  have HW := Lib.hid hw
  clear hw
  go_wp2_with fail
  go_ret
  exact ⟨rfl, by rw [HW.out]; exact below_drewN' HB6.out d⟩

/-- Rows of one vertex each. -/
def bareL (n : Nat) : List (List Int) := (idsL n).map fun v => [v]
theorem bareL_len (n : Nat) : (bareL n).length = n := by unfold bareL; rw [List.length_map, idsL_len]
theorem bareL_succ (n : Nat) : bareL (n + 1) = bareL n ++ [[(n : Int)]] := by
  unfold bareL
  rw [idsL_succ, List.map_append]
  rfl
theorem own_one (w : World) (x : Int) (base : Nat) (hb : base ≤ w.heap.size) : (w.alloc (.cells #[.int .i64 x] 3)).ownsRow base 3 1 (.slice (some ⟨w.heap.size, 0, none⟩) 1 1) 1 (intCells [x]) :=
  ⟨rfl, .inr ⟨w.heap.size, 1, _, rfl, hb, heap_alloc_new w _, Nat.le_refl _, by unfold maxLen; omega, rfl, rfl⟩⟩

set_option maxRecDepth 100000 in
set_option maxHeartbeats 1000000 in
theorem bare_any {w : World} {base m : Nat} {g : Value} {S : List (Int × Int)} (hG : GF w base g m S) :
    Calls Try.prog 21 #[g] w fun e w' => ∃ v', e = .returned v' ∧ RowsOwn w' w.heap.size v' (bareL m) ∧ Below w.heap.size w w' := by
  obtain ⟨j1, hi1, ky0, ky1, ky2⟩ := info_parts Try.infoRow
  have LN := Lib.hid hG.len
  have hlow := hG.low
  clear hG
  go_enter Try.func21, Try.ntmps21
  go_wp2_with fail
  refine LN.out.mono ?_; rintro e w1 ⟨rfl, hw⟩; obtain rfl := hw.symm
  go_wp2_with fail
  go_loopg [3, 7] m (fun gh rv yv wr => ∃ i, i ≤ m ∧ gh = m - i ∧ yv = .int .i64 (i : Nat) ∧ RowsOwn wr w.heap.size rv (bareL i) ∧ Below w.heap.size w wr)
  case atStart => exact ⟨0, Nat.zero_le _, rfl, rfl, RowsOwn.nil _ _, Below.refl _ _⟩
  case round =>
    obtain ⟨i, hi, rfl, rfl, hro, hB⟩ := hrel
    obtain ⟨A, c, rfl⟩ := hro.form
    have hbl := bareL_len i
    by_cases hit : i < m
    · have t5 : decide (i < m) = true := decide_eq_true hit
      have i1 : (i : Int) < m := by omega
      have i2 : (0 : Int) ≤ i := by omega
      have hb2 := hB.alloc hB.size (.cells #[.int .i64 i] 3)
      have hro2 := hro.below (w' := wr.alloc (.cells #[.int .i64 i] 3)) ((Below.refl wr.heap.size wr).alloc (Nat.le_refl _) _) (Nat.le_refl _)
      have ho1 := own_one wr i w.heap.size hB.size
      obtain ⟨us, hus, hrs⟩ := hro2
      rw [hbl] at hus ⊢
      have HUS := Lib.hid hus; have HRS := Lib.hid hrs; have HO1 := Lib.hid ho1; have HB2 := Lib.hid hb2; have HIT := Lib.hid hit
      have hsz := hb2.size
      clear hro hB hbl hit hb2 ho1 hus hrs
      go_wp2_with (at_builtin; refine wpList_app1g _ rfl _ _ 40 rfl w.heap.size 22 j1 (.slice none 0 0) 24 Try.underlying40 hi1 ky0 ky1 ky2 rfl _ i _ rfl HUS.out _ rfl (by rw [World.size_alloc]; rfl) (by omega) (by omega) hsz ?_)
      intro A3 c3 w7 hown3 hgrow3
      have HB7 := Lib.hid (hgrow3.below HUS.out HB2.out (Nat.le_refl _) hsz)
      have HR7 := Lib.hid (show RowsOwn w7 w.heap.size (.slice A3 (i + 1) c3) (bareL (i + 1)) by
        rw [bareL_succ]
        exact RowsOwn.more (by rw [bareL_len]; exact HUS.out) HRS.out HO1.out (by rw [bareL_len]; exact hown3) hgrow3)
      clear hown3 hgrow3
      go_wp2_with fail
      go_roundg (m - (i + 1))
      case rel => exact ⟨i + 1, HIT.out, rfl, by go_num, HR7.out, HB7.out⟩
      case measure => have := HIT.out; omega
    · obtain rfl : m = i := by omega
      have t5 : decide (m < m) = false := by simp
      have HR := Lib.hid hro; have HB := Lib.hid hB; have HBL := Lib.hid hbl
      rw [hbl] at HR ⊢
      clear hro hB hit hbl
      go_wp2_with fail
      go_ret
      exact ⟨_, rfl, HR.out, HB.out⟩
end Go.Proofs.Ytploaffmhemjkaa
