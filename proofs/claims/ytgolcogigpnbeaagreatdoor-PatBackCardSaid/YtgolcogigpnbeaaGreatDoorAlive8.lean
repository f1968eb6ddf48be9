/- Layer 8: the chapter's example. -/
import Derived.Test.YtgolcogigpnbeaaGreatDoorPat9
namespace Go.Proofs.YtgolcogigpnbeaaGreatDoor
open Go.RowKit

/-- Cells of a new block read as numbers, as edges. -/
theorem seq_block {w : World} {g : Nat} {t : TypeId} {cs : Array Value} {L : List Int} (h : Whole w g t cs) (hc : cs.toList = intCells L) (h0 : 0 < L.length) (c : Nat) : SeqV w (.slice (some ⟨g, 0, none⟩) L.length c) L := by
  refine Or.inr ⟨h0, g, 0, c, rfl, fun i hi => ?_⟩
  rw [Nat.zero_add, h.cell, ← Array.getElem?_toList, hc]
  simp [intCells, List.getD, hi]
theorem edges_block {w : World} {g : Nat} {t : TypeId} {cs : Array Value} {E : List (Int × Int)} (h : Whole w g t cs) (hc : cs.toList = eL E) (h0 : 0 < E.length) (c : Nat) : EdgesV w (.slice (some ⟨g, 0, none⟩) E.length c) E := by
  refine Or.inr ⟨h0, g, 0, c, rfl, fun i hi => ?_⟩
  rw [Nat.zero_add, h.cell, h.cell, ← Array.getElem?_toList, ← Array.getElem?_toList, hc]
  exact eL_at E i hi
theorem dec_small {n : Nat} (h : n < 10) : Lib.decDigits n = [UInt8.ofNat (48 + n)] := by
  rw [Lib.decDigits]
  simp [h]
theorem patT_ex : patT [1, 1, 1] [(0, 1), (0, 2), (1, 2)] = [49, 44, 49, 44, 49, 124, 48, 45, 49, 44, 48, 45, 50, 44, 49, 45, 50] := by
  simp [patT, joinB, decI, edgeT, dec_small]
set_option maxRecDepth 100000 in
set_option maxHeartbeats 4000000 in
theorem alive_ok (w : World) (hg : GT w) : Calls Tryz.prog 5 #[] w fun e w' => e = .returned (.bool true) ∧ Below w.heap.size w w' := by
  have hw1 := (Whole.new w 3 #[.int .i64 1, .int .i64 1, .int .i64 1]).alloc (.cells #[.int .i64 2, .int .i64 1, .int .i64 0, .int .i64 1, .int .i64 0, .int .i64 2] 62)
  have hw2 := Whole.new (w.alloc (.cells #[.int .i64 1, .int .i64 1, .int .i64 1] 3)) 62 #[.int .i64 2, .int .i64 1, .int .i64 0, .int .i64 1, .int .i64 0, .int .i64 2]
  have hb2 : Below w.heap.size w ((w.alloc (.cells #[.int .i64 1, .int .i64 1, .int .i64 1] 3)).alloc (.cells #[.int .i64 2, .int .i64 1, .int .i64 0, .int .i64 1, .int .i64 0, .int .i64 2] 62)) := ((Below.refl _ _).alloc (Nat.le_refl _) _).alloc (by simp) _
  have MK := make_good (L := [1, 1, 1]) (E := [(2, 1), (0, 1), (0, 2)]) (seq_block hw1 rfl (by decide) 3) (edges_block hw2 rfl (by decide) 3) (by decide) (by decide) (by decide) (labF_none.2 ⟨by decide, by decide⟩) (by decide) (by decide)
  rw [World.size_alloc] at MK
  have hsort : sortE [(2, 1), (0, 1), (0, 2)] = [(0, 1), (0, 2), (1, 2)] := by decide
  rw [hsort] at MK
  have HMK := Lib.hid MK; have HB2 := Lib.hid hb2; have HG := Lib.hid hg
  clear hw1 hw2 hb2 MK hsort hg
  go_enter Tryz.func5, Tryz.ntmps5
  go_wp2_with fail
  refine HMK.out.mono ?_
  rintro e w3 ⟨hb3, v, rfl, vl, ve, rfl, hl, he⟩
  obtain ⟨A1, c1, rfl⟩ := own_form hl
  obtain ⟨A2, c2, rfl⟩ := own_form he
  have hB3 := HB2.out.trans (hb3.mono HB2.out.size)
  have hba : Below w3.heap.size w3 (w3.alloc (.cells #[.slice A1 3 c1, .slice A2 3 c2] 31)) := (Below.refl _ _).alloc (Nat.le_refl _) _
  have hB4 := hB3.trans (hba.mono hB3.size)
  have TX := text_any (HG.out.below hB4 (Nat.le_refl _)) ((own_seq hl).below hba (Nat.le_refl _)) ((own_edges he).below hba (Nat.le_refl _)) (by decide) (by decide) ⟨by decide, by decide⟩
  rw [patT_ex] at TX
  have HTX := Lib.hid TX; have HB4 := Lib.hid hB4
  have t1 : ((str [49, 44, 49, 44, 49, 124, 48, 45, 49, 44, 48, 45, 50, 44, 49, 45, 50]).toList == [49, 44, 49, 44, 49, 124, 48, 45, 49, 44, 48, 45, 50, 44, 49, 45, 50]) = true := by rw [str_toList]; rfl
  obtain ⟨s, hs⟩ : ∃ s, str [49, 44, 49, 44, 49, 124, 48, 45, 49, 44, 48, 45, 50, 44, 49, 45, 50] = s := ⟨_, rfl⟩
  rw [hs] at HTX t1
  clear hl he hb3 hB3 hba hB4 TX hs
  go_wp2_with fail
  refine HTX.out.mono ?_; rintro e w5 ⟨rfl, hb5⟩
  have hB5 := HB4.out.trans (hb5.mono HB4.out.size)
  have hn := Whole.new w5 3 #[.int .i64 (-1)]
  have hb6 : Below w.heap.size w (w5.alloc (.cells #[.int .i64 (-1)] 3)) := hB5.alloc hB5.size _
  have RG := right_any (E := []) (seq_block (L := [-1]) hn rfl (by decide) 1) (Or.inl ⟨rfl, none, 0, rfl⟩) (by decide) (by decide)
  have hrf : rightF [-1] [] = some (3, 0) := by decide
  rw [hrf] at RG
  have HRG := Lib.hid RG; have HB6 := Lib.hid hb6
  clear hb5 hB5 hn hb6 RG hrf
  go_wp2_with fail
  refine HRG.out.mono ?_; rintro e w7 hto
  obtain ⟨fb, rfl, hf, hb7⟩ := hto.err rfl
  have hB7 := HB6.out.trans (hb7.mono HB6.out.size)
  have CD := code_f7 hf (HG.out.below hB7 (Nat.le_refl _)).et
  have HCD := Lib.hid CD; have HB7 := Lib.hid hB7
  clear hto hf hb7 hB7 CD
  go_wp2_with fail
  refine HCD.out.mono ?_; rintro e w8 ⟨rfl, hb8⟩
  have HB8 := Lib.hid (HB7.out.trans (hb8.mono HB7.out.size))
  clear hb8
  go_wp2_with fail
  go_ret
  exact ⟨rfl, HB8.out⟩
end Go.Proofs.YtgolcogigpnbeaaGreatDoor
