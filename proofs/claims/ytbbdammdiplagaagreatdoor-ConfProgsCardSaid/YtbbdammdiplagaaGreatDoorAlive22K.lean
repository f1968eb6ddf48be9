/- Layer 22: the chapter's example. -/
import Derived.Test.YtbbdammdiplagaaGreatDoorConfX
import Derived.Test.YtbbdammdiplagaaGreatDoorConf3K
namespace Go.Proofs.YtbbdammdiplagaaGreatDoor
open Go.RowKit

def tA : List UInt8 := [106, 111, 98, 32, 109, 111, 116, 105, 102, 115, 10, 115, 105, 122, 101, 32, 51, 10]
def tB : List UInt8 := [115, 105, 122, 101, 32, 51, 10, 106, 111, 98, 32, 109, 111, 116, 105, 102, 115, 10]
theorem dec3 : decB ((3 : Nat) : Int) = [51] := by
  unfold decB
  rw [Int.toNat_natCast]
  kernel_rfl
theorem tA_is : tA = lineB wJob (kname 1) ++ (lineB wSize (decB ((3 : Nat) : Int)) ++ []) := by rw [dec3]; rfl
theorem tB_is : tB = lineB wSize [51] ++ [106, 111, 98, 32, 109, 111, 116, 105, 102, 115, 10] := rfl
theorem tell_tA : tellK tA = .inr ⟨⟨1, 3, 0, 1, 1000000⟩, []⟩ := by
  have h : runK tA.length ck0 [] tA = .inr (⟨⟨1, 3, 0, 1, 1000000⟩, []⟩, 2) := by
    show runK (16 + 1 + 1) ck0 [] tA = _
    rw [tA_is, runK_line (by decide) (by decide) (by decide) (by decide) (by decide) (setK_job (Or.inl rfl)), runK_line (by decide) (by decide) (decB_no _) (by decide) (by decide) (setK_num (by decide) (by decide) (fun e => absurd e.1 (by decide)) (by simp) (by decide) (by decide) (by decide)), runK_nil]
    rfl
  rw [tellK_inr h, if_neg (by decide)]
theorem tell_tB : tellK tB = .inl 0 := by
  obtain ⟨q1, q2, q3, q4, q5, q6⟩ := line_parts (wd := wSize) (v := [51]) (r := [106, 111, 98, 32, 109, 111, 116, 105, 102, 115, 10]) (by decide) (by decide) (by decide)
  refine tellK_inl ?_
  show runK (17 + 1) ck0 [] tB = _
  rw [tB_is]
  exact runK_bad q6 (Or.inr (Or.inr (Or.inl (by rw [q3]; decide))))
theorem at_hit (b : Nat) (c : Int) (w : World) (hg : ErrT w) (hc : w.cell? ⟨b, 1, none⟩ = some (.int .i64 c)) :
    Calls Tryz.prog 19 #[.iface 64 (.pointer (some ⟨b, 0, none⟩))] w fun e w' => e = .returned (.int .i64 c) ∧ Below w.heap.size w w' := by
  have hb : b < w.heap.size := World.block_lt_of_cell? _ _ hc
  go_enter Tryz.func19, Tryz.ntmps19
  go_wp2_with (go_at_call 28; refine (find_hit _ _ hg).mono ?_; rintro ev w' ⟨rfl, hw⟩; have hc' := (hw.cell (p := ⟨b, 1, none⟩) hb).trans hc; clear hc)
  go_ret
  exact ⟨rfl, by assumption⟩
set_option maxRecDepth 100000 in
set_option maxHeartbeats 4000000 in
theorem alive_ok (w : World) (hg : GT w) : Calls Tryz.prog 7 #[] w fun e w' => e = .returned (.bool true) ∧ Below w.heap.size w w' := by
  have HG := Lib.hid hg
  have P1 : Hid (Calls Tryz.prog 13 #[.string ⟨#[106, 111, 98, 32, 109, 111, 116, 105, 102, 115, 10, 115, 105, 122, 101, 32, 51, 10]⟩] w (ConfK tA w)) := Lib.hid (confParseK_any tA (by decide) w hg)
  have P2 : Hid (∀ W, Below w.heap.size w W → Calls Tryz.prog 13 #[.string ⟨#[115, 105, 122, 101, 32, 51, 10, 106, 111, 98, 32, 109, 111, 116, 105, 102, 115, 10]⟩] W (ConfK tB W)) := Lib.hid (fun W h => confParseK_any tB (by decide) W (HG.out.below h (Nat.le_refl _)))
  clear hg
  go_enter Tryz.func7, Tryz.ntmps7
  go_wp2_with fail
  refine P1.out.mono ?_
  rintro e w1 ⟨hb1, ⟨i, hi, -⟩ | ⟨x, kv, hx, rfl, hkv⟩⟩
  · rw [tell_tA] at hi; cases hi
  rw [tell_tA] at hx
  obtain rfl := (Sum.inr.inj hx).symm
  obtain ⟨Ak, ck, rfl⟩ := hkv.form
  clear hx hkv
  have hb2 := hb1.alloc hb1.size (.cells #[.int .i64 1, .int .i64 3, .int .i64 0, .int .i64 1, .int .i64 1000000, .slice Ak 0 ck] 29)
  have hW := Whole.new w1 29 #[.int .i64 1, .int .i64 3, .int .i64 0, .int .i64 1, .int .i64 1000000, .slice Ak 0 ck]
  have HB2 := Lib.hid hb2; have HW := Lib.hid hW
  have HP := Lib.hid (P2.out _ hb2)
  clear hb1 hb2 hW
  dsimp only [cV, List.length_nil]
  go_wp2_with fail
  refine HP.out.mono ?_
  rintro e w3 ⟨hb3, ⟨i, hi, u, rfl, hfa⟩ | ⟨x, kv, hx, _⟩⟩
  case inr => rw [tell_tB] at hx; cases hx
  rw [tell_tB] at hi
  obtain rfl := (Sum.inl.inj hi).symm
  obtain ⟨b, s, rfl, hf⟩ := hfa
  clear hi
  have hb4 := (HB2.out.trans (hb3.mono HB2.out.size))
  have hW3 := HW.out.below hb3 HW.out.lt
  have hb5 := hb4.alloc hb4.size (.cells #[.int .i64 0, .int .i64 0, .int .i64 0, .int .i64 0, .int .i64 0, .slice none 0 0] 29)
  have hW5 := hW3.alloc (.cells #[.int .i64 0, .int .i64 0, .int .i64 0, .int .i64 0, .int .i64 0, .slice none 0 0] 29)
  have hf5 := hf.alloc (.cells #[.int .i64 0, .int .i64 0, .int .i64 0, .int .i64 0, .int .i64 0, .slice none 0 0] 29)
  have c0 : (w3.alloc (.cells #[.int .i64 0, .int .i64 0, .int .i64 0, .int .i64 0, .int .i64 0, .slice none 0 0] 29)).cell? ⟨w1.heap.size, 0, none⟩ = some (.int .i64 1) := hW5.cell 0
  have c1 : (w3.alloc (.cells #[.int .i64 0, .int .i64 0, .int .i64 0, .int .i64 0, .int .i64 0, .slice none 0 0] 29)).cell? ⟨w1.heap.size, 1, none⟩ = some (.int .i64 3) := hW5.cell 1
  have c3 : (w3.alloc (.cells #[.int .i64 0, .int .i64 0, .int .i64 0, .int .i64 0, .int .i64 0, .slice none 0 0] 29)).cell? ⟨w1.heap.size, 3, none⟩ = some (.int .i64 1) := hW5.cell 3
  have HCD := Lib.hid (code_hit b 12 _ (HG.out.below hb5 (Nat.le_refl _)).et (by rw [hf5.cell 0]; rfl))
  have HB5 := Lib.hid hb5; have HF5 := Lib.hid hf5
  have hlt := hW3.lt
  clear hb4 hb5 hf hf5 hW3 hW5 hb3
  dsimp only [zC]
  go_wp2_with fail
  refine HCD.out.mono ?_; rintro e w6 ⟨rfl, hb6⟩
  have hb7 := HB5.out.trans (hb6.mono HB5.out.size)
  have HB7 := Lib.hid hb7
  have HAT := Lib.hid (at_hit b ((0 : Nat) : Int) w6 (HG.out.below hb7 (Nat.le_refl _)).et (by rw [(HF5.out.below hb6 HF5.out.lt).cell 1]; rfl))
  clear hb7 hb6
  go_wp2_with fail
  refine HAT.out.mono ?_; rintro e w8 ⟨rfl, hb8⟩
  have HB8 := Lib.hid (HB7.out.trans (hb8.mono HB7.out.size))
  clear hb8
  go_wp2_with fail
  go_ret
  exact ⟨rfl, HB8.out⟩
end Go.Proofs.YtbbdammdiplagaaGreatDoor
