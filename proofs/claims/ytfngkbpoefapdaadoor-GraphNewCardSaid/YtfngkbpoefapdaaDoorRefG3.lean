/- The document's Near. -/
import Derived.Test.YtfngkbpoefapdaaDoorRefG2
import Derived.Test.YtfngkbpoefapdaaDoorEdgesOwn
namespace Go.Proofs.YtfngkbpoefapdaaDoor
open Go.RowKit

set_option maxRecDepth 100000 in
set_option maxHeartbeats 4000000 in
theorem refNear_any (S : List (Int × Int)) (L : List Int) (vl ve : Value) (a : Int) (w : World) (hl : SeqV w vl L) (he : EdgesV w ve S) (hS : S.length ≤ 1000000) (hL : L.length ≤ 1000000) :
    Calls Tryd.prog 16 #[.agg #[vl, ve], .int .i64 a] w fun e w' => ∃ v', e = .returned v' ∧ SeqV w' v' (nearF L.length S a) ∧ Below w.heap.size w w' := by
  obtain ⟨i0, hi, hz0, hz1, hz2⟩ := info_parts Tryd.infoInt6
  obtain ⟨Al, cl, rfl⟩ := IntsV.form hl
  obtain ⟨n, hn⟩ : ∃ n, L.length = n := ⟨_, rfl⟩
  rw [hn] at hl hL ⊢
  have hb0 : Below w.heap.size w (w.alloc (.cells #[.slice Al n cl, ve] 33)) := (Below.refl _ _).alloc (Nat.le_refl _) _
  have HG := Lib.hid (Whole.new w 33 #[.slice Al n cl, ve])
  have HSE := Lib.hid he; have HB0 := Lib.hid hb0
  obtain ⟨w0, hw0⟩ : ∃ W, w.alloc (.cells #[.slice Al n cl, ve] 33) = W := ⟨_, rfl⟩
  rw [hw0] at HG HB0
  have hsz : w.heap.size < w0.heap.size := HG.out.lt
  have HOW := Lib.hid (World.ownsRow_nil w0 w0.heap.size 3 1)
  have HW0 := Lib.hid hw0
  clear hl he hn hb0 hw0
  go_enter Tryd.func16, Tryd.ntmps16
  go_wp2_with fail
  rw [HW0.out]
  go_loopg [5, 6] n (fun gh rv yv wr => ∃ k, k ≤ n ∧ gh = n - k ∧ yv = .int .i64 (k : Nat) ∧ Below w0.heap.size w0 wr ∧ wr.ownsRow w0.heap.size 3 1 rv (nearF k S a).length (intCells (nearF k S a)))
  case atStart => exact ⟨0, Nat.zero_le _, rfl, rfl, Below.refl _ _, HOW.out⟩
  case round =>
    obtain ⟨k, hk, rfl, rfl, hbel, hown⟩ := hrel
    obtain ⟨Ao, co, rfl⟩ := own_form hown
    have hGr := HG.out.below hbel HG.out.lt
    have g0 : wr.cell? ⟨w.heap.size, 0, none⟩ = some (.slice Al n cl) := hGr.cell 0
    have g1 : wr.cell? ⟨w.heap.size, 1, none⟩ = some ve := hGr.cell 1
    have HBR := Lib.hid hbel; have HO := Lib.hid hown
    clear hGr hbel hown
    by_cases hlt : k < n
    · have hbw : Below w.heap.size w wr := HB0.out.trans (HBR.out.mono (by omega))
      have HID := Lib.hid (refId_any S (.slice Al n cl) ve k a wr (HSE.out.below hbw (Nat.le_refl _)) hS)
      have hle : (nearF k S a).length ≤ k := by unfold nearF; rw [List.length_map]; exact Nat.le_trans (List.length_filter_le _ _) (by simp)
      have hsuc := nearF_succ k S a
      obtain ⟨N, hN⟩ : ∃ N, nearF k S a = N := ⟨_, rfl⟩
      obtain ⟨r, hr⟩ : ∃ r, idL S (k : Int) a = r := ⟨_, rfl⟩
      rw [hN] at HO hle hsuc ⊢
      rw [hr] at HID hsuc
      obtain ⟨q, hq⟩ : ∃ q, N.length = q := ⟨_, rfl⟩
      rw [hq] at HO hle ⊢
      have HQ := Lib.hid hq
      have t3 : decide (k < n) = true := decide_eq_true hlt
      have i1 : (k : Int) < n := by omega
      have i2 : (0 : Int) ≤ k := by omega
      have HLT := Lib.hid hlt
      by_cases hr0 : 0 ≤ r
      · have HSUC : Hid (nearF (k + 1) S a = N ++ [(k : Int)]) := Lib.hid (by rw [hsuc, if_pos hr0])
        have t4 : decide (0 ≤ r) = true := decide_eq_true hr0
        clear hbw hN hr hsuc hlt hr0 hq
        go_wp2_with fail
        refine HID.out.mono ?_; rintro e w1 ⟨rfl, hb1⟩
        have ho1 := own_below HO.out hb1 (Nat.le_refl _)
        have hb01 : Below w0.heap.size w0 w1 := HBR.out.trans (hb1.mono HBR.out.size)
        have hs1 := hb01.size
        have HO1 := Lib.hid ho1; have HB1 := Lib.hid hb01
        clear hb1 ho1 hb01
        go_wp2_with (at_builtin; refine wpList_app1g _ rfl _ _ 22 rfl w0.heap.size 3 i0 (.int .i64 0) 8 Tryd.underlying22 hi hz0 hz1 hz2 rfl _ q _ rfl HO1.out _ rfl rfl (by omega) (by omega) hs1 ?_)
        intro A3 c3 w3 hown3 hgrow3
        have hb3 : Below w0.heap.size w0 w3 := hgrow3.below HO1.out HB1.out (Nat.le_refl _) hs1
        have HOW3 := Lib.hid hown3; have HB3 := Lib.hid hb3
        clear hown3 hgrow3 hb3
        go_wp2_with fail
        go_roundg (n - (k + 1))
        case rel => exact ⟨k + 1, HLT.out, rfl, by go_num, HB3.out, by rw [HSUC.out, List.length_append, HQ.out, intCells_app]; exact HOW3.out⟩
        case measure => have := HLT.out; omega
      · have HSUC : Hid (nearF (k + 1) S a = N) := Lib.hid (by rw [hsuc, if_neg hr0, List.append_nil])
        have t4 : decide (0 ≤ r) = false := decide_eq_false hr0
        clear hbw hN hr hsuc hlt hr0 hq
        go_wp2_with fail
        refine HID.out.mono ?_; rintro e w1 ⟨rfl, hb1⟩
        have ho1 := own_below HO.out hb1 (Nat.le_refl _)
        have hb01 : Below w0.heap.size w0 w1 := HBR.out.trans (hb1.mono HBR.out.size)
        have HO1 := Lib.hid ho1; have HB1 := Lib.hid hb01
        clear hb1 ho1 hb01
        go_wp2_with fail
        go_roundg (n - (k + 1))
        case rel => exact ⟨k + 1, HLT.out, rfl, by go_num, HB1.out, by rw [HSUC.out, HQ.out]; exact HO1.out⟩
        case measure => have := HLT.out; omega
    · obtain rfl : k = n := by omega
      have t3 : decide (k < k) = false := by simp
      clear hlt
      go_wp2_with fail
      go_ret
      exact ⟨_, rfl, own_seq HO.out, HB0.out.trans (HBR.out.mono (by omega))⟩
end Go.Proofs.YtfngkbpoefapdaaDoor
