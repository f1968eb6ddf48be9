/- The document's lists of connected sets: has, beside, Next. -/
import Derived.Test.YtploaffmhemjkaaRefLP
import Derived.Test.YtploaffmhemjkaaRefA
import Derived.Test.YtploaffmhemjkaaRef06b
import Derived.BigQuiet
import Derived.Deep.RegionHeld3
import Derived.Deep.DrawnRows
import Derived.Deep.CutBlock
namespace Go.Proofs.Ytploaffmhemjkaa
open Go.RowKit

set_option maxRecDepth 100000 in
set_option maxHeartbeats 1000000 in
theorem refHasV_any (L : List Int) (vl ve : Value) (n : Nat) (v : Int) (w : World) (hl : SeqV w vl L) (hn : L.length = n) :
    Calls Try.prog 34 #[.agg #[vl, ve], .int .i64 v] w fun e w' => e = .returned (.bool (hasV n v)) ∧ Below w.heap.size w w' := by
  obtain ⟨A, c, rfl⟩ := IntsV.form hl
  rw [hn]
  have hb0 : Below w.heap.size w (w.alloc (.cells #[.slice A n c, ve] 27)) := (Below.refl _ _).alloc (Nat.le_refl _) _
  have HB := Lib.hid hb0
  obtain ⟨z, hz⟩ : ∃ z, hasV n v = z := ⟨_, rfl⟩
  rw [hz]
  have hcase : (decide (0 ≤ v) = false ∧ z = false) ∨ (decide (0 ≤ v) = true ∧ decide (v < (n : Int)) = z) := by
    by_cases h : 0 ≤ v
    · refine Or.inr ⟨decide_eq_true h, ?_⟩
      rw [← hz]
      unfold hasV
      rw [decide_eq_true h, Bool.true_and]
    · refine Or.inl ⟨decide_eq_false h, ?_⟩
      rw [← hz]
      unfold hasV
      rw [decide_eq_false h, Bool.false_and]
  clear hl hn hb0 hz
  rcases hcase with ⟨t1, rfl⟩ | ⟨t1, t2⟩
  · go_enter Try.func34, Try.ntmps34
    go_wp2_with fail
    go_ret
    exact ⟨rfl, HB.out⟩
  · go_enter Try.func34, Try.ntmps34
    go_wp2_with fail
    go_ret
    exact ⟨rfl, HB.out⟩

set_option maxRecDepth 100000 in
set_option maxHeartbeats 2000000 in
theorem refBeside_any (S : List (Int × Int)) (l : List Int) (vl ve vs : Value) (v : Int) (w : World) (he : EdgesV w ve S) (hS : S.length ≤ 1000) (hs : SeqV w vs l) (hn : l.length ≤ 1000000) :
    Calls Try.prog 35 #[.agg #[vl, ve], vs, .int .i64 v] w fun e w' => e = .returned (.bool (bes (adj S) l v)) ∧ Below w.heap.size w w' := by
  obtain ⟨A, c, rfl⟩ := IntsV.form hs
  obtain ⟨n, hln⟩ : ∃ n, l.length = n := ⟨_, rfl⟩
  rw [hln] at hs hn ⊢
  have hb0 : Below w.heap.size w (w.alloc (.cells #[vl, ve] 27)) := (Below.refl _ _).alloc (Nat.le_refl _) _
  have hG := Whole.new w 27 #[vl, ve]
  obtain ⟨w0, hw0⟩ : ∃ W, w.alloc (.cells #[vl, ve] 27) = W := ⟨_, rfl⟩
  obtain ⟨gb, hgb⟩ : ∃ b, w.heap.size = b := ⟨_, rfl⟩
  rw [hw0] at hb0 hG
  rw [hgb] at hG
  have HS := Lib.hid (hs.below hb0 (Nat.le_refl _)); have HE := Lib.hid (he.below hb0 (Nat.le_refl _))
  have HB0 := Lib.hid hb0; have HG := Lib.hid hG; have HW0 := Lib.hid hw0; have HGB := Lib.hid hgb; have HN := Lib.hid hln
  obtain ⟨z, hz⟩ : ∃ z, bes (adj S) l v = z := ⟨_, rfl⟩
  rw [hz]
  have HZ := Lib.hid hz
  clear hs he hb0 hG hw0 hgb hln hz
  go_enter Try.func35, Try.ntmps35
  go_wp2_with fail
  rw [HW0.out, HGB.out]
  go_loopg [7] n (fun gh yv wr => ∃ i, i ≤ n ∧ gh = n - i ∧ yv = .int .i64 (i : Nat) ∧ bes (adj S) (l.take i) v = false ∧ Below w0.heap.size w0 wr)
  case atStart => exact ⟨0, Nat.zero_le _, rfl, rfl, rfl, Below.refl _ _⟩
  case round =>
    obtain ⟨i, hi, rfl, rfl, hno, hB⟩ := hrel
    have HBi := Lib.hid hB; have HNO := Lib.hid hno
    by_cases hlt : i < n
    · have hil : i < l.length := by rw [HN.out]; exact hlt
      obtain ⟨b, off, hA, hx⟩ := seqPos (HS.out.below hB (Nat.le_refl _)) hil
      obtain ⟨u, hu⟩ : ∃ u, l.getD i 0 = u := ⟨_, rfl⟩
      rw [hu] at hx
      have hsu := bes_succ (adj S) l v i hil
      rw [hno, Bool.false_or, hu] at hsu
      have hbt : adj S u v = true → bes (adj S) l v = true := fun h => bes_true hil (by rw [hu]; exact h)
      have hGr := HG.out.below hB HG.out.lt
      have c0 : wr.cell? ⟨gb, 0, none⟩ = some vl := hGr.cell 0
      have c1 : wr.cell? ⟨gb, 1, none⟩ = some ve := hGr.cell 1
      have hlg := cellLt c0
      have hlx := cellLt hx
      obtain ⟨r, hr⟩ : ∃ r, idL S u v = r := ⟨_, rfl⟩
      have hID := fun (W : World) (hb : Below wr.heap.size wr W) => (refId_any S vl ve u v W (HE.out.below (hB.trans (hb.mono hB.size)) (Nat.le_refl _)) (by omega)).mono (fun e w' hh => (show e = .returned (.int .i64 r) ∧ Below wr.heap.size wr w' by
        obtain ⟨h1, h2⟩ := hh
        rw [hr] at h1
        exact ⟨h1, hb.trans (h2.mono hb.size)⟩))
      have HID := Lib.hid hID
      have HKS := Lib.hid (fun (W : World) (hb : Below wr.heap.size wr W) => (show Below wr.heap.size wr W ∧ W.cell? ⟨gb, 0, none⟩ = some vl ∧ W.cell? ⟨gb, 1, none⟩ = some ve ∧ W.cell? ⟨b, off + i, none⟩ = some (.int .i64 u) from ⟨hb, (hb.cell (p := ⟨gb, 0, none⟩) hlg).trans c0, (hb.cell (p := ⟨gb, 1, none⟩) hlg).trans c1, (hb.cell (p := ⟨b, off + i, none⟩) hlx).trans hx⟩))
      have ha : adj S u v = decide (0 ≤ r) := by unfold adj; rw [hr]
      rw [ha] at hsu hbt
      obtain ⟨q, hq⟩ : ∃ q, decide (0 ≤ r) = q := ⟨_, rfl⟩
      rw [hq] at hsu hbt
      have HSU := Lib.hid hsu; have HBT := Lib.hid hbt; have HLT := Lib.hid hlt
      have t3 : decide (i < n) = true := decide_eq_true hlt
      have i1 : (i : Int) < n := by omega
      have i2 : (0 : Int) ≤ i := by omega
      subst hA
      clear hB hno hil hu hsu hbt hGr c0 c1 hlg hlx hr hID ha hx hlt
      go_upto_region 4 with fail
      go_cut [21] (fun x wx => x = .bool q ∧ Below wr.heap.size wr wx)
      case first =>
        go_region_held3 (fun w' => Below wr.heap.size wr w' ∧ w'.cell? ⟨gb, 0, none⟩ = some vl ∧ w'.cell? ⟨gb, 1, none⟩ = some ve ∧ w'.cell? ⟨b, off + i, none⟩ = some (.int .i64 u))
          (exact HKS.out _ (by first | assumption | exact below_drewN' (Below.refl _ _) _))
          (first
            | (go_at_call 47; refine (HID.out _ (by first | assumption | exact below_drewN' (Below.refl _ _) _)).mono ?_; rintro e' wT ⟨rfl, hBT⟩))
        all_goals
          go_wp2
          go_meet
          exact ⟨rfl, by assumption⟩
      case rest =>
        obtain ⟨rfl, hbx⟩ := hcut
        have HBX := Lib.hid (HBi.out.trans (hbx.mono HBi.out.size))
        clear hbx
        cases q with
        | true =>
          have HZZ : Hid (z = true) := Lib.hid (HZ.out.symm.trans (HBT.out rfl))
          go_wp2_with fail
          go_ret
          exact ⟨by rw [HZZ.out]; rfl, HB0.out.trans (HBX.out.mono HB0.out.size)⟩
        | false =>
          go_wp2_with fail
          go_roundg (n - (i + 1))
          case rel => exact ⟨i + 1, HLT.out, rfl, by go_num, HSU.out, HBX.out⟩
          case measure => have := HLT.out; omega
    · obtain rfl : n = i := by omega
      have HZZ : Hid (z = false) := Lib.hid (by rw [← HZ.out]; have h := HNO.out; rwa [List.take_of_length_le (by rw [HN.out]; omega)] at h)
      have t3 : decide (n < n) = false := by simp
      clear hlt hno hB
      go_wp2_with fail
      go_ret
      exact ⟨by rw [HZZ.out]; rfl, HB0.out.trans (HBi.out.mono HB0.out.size)⟩

set_option maxRecDepth 100000 in
set_option maxHeartbeats 4000000 in
theorem refNext_any (S : List (Int × Int)) (L l : List Int) (vl ve vs : Value) (n : Nat) (w : World) (hl : SeqV w vl L) (hn : L.length = n) (hn2 : n ≤ 1000) (he : EdgesV w ve S) (hS : S.length ≤ 1000) (hs : SeqV w vs l) (hq : l.length ≤ 1000000) :
    Calls Try.prog 18 #[.agg #[vl, ve], vs] w fun e w' => ∃ v', e = .returned v' ∧ SeqC w' v' (nxtL n (adj S) l) ∧ Below w.heap.size w w' := by
  obtain ⟨i0, hi0, hz0, hz1, hz2⟩ := info_parts Try.infoInt6
  obtain ⟨Al, cl, rfl⟩ := IntsV.form hl
  obtain ⟨A, c, rfl⟩ := IntsV.form hs
  obtain ⟨p, hlp⟩ : ∃ n, l.length = n := ⟨_, rfl⟩
  rw [hlp] at hs hq ⊢
  rw [hn] at hl ⊢
  have hb0 : Below w.heap.size w (w.alloc (.cells #[.slice Al n cl, ve] 27)) := (Below.refl _ _).alloc (Nat.le_refl _) _
  have hG := Whole.new w 27 #[.slice Al n cl, ve]
  obtain ⟨w0, hw0⟩ : ∃ W, w.alloc (.cells #[.slice Al n cl, ve] 27) = W := ⟨_, rfl⟩
  obtain ⟨gb, hgb⟩ : ∃ b, w.heap.size = b := ⟨_, rfl⟩
  rw [hw0] at hb0 hG
  rw [hgb] at hG
  have HOW := Lib.hid (World.ownsRow_nil w0 w0.heap.size 3 1)
  have HS := Lib.hid (hs.below hb0 (Nat.le_refl _)); have HE := Lib.hid (he.below hb0 (Nat.le_refl _))
  have HB0 := Lib.hid hb0; have HG := Lib.hid hG; have HW0 := Lib.hid hw0; have HGB := Lib.hid hgb; have HP := Lib.hid hlp
  clear hs hl he hb0 hG hw0 hgb hlp hn
  go_enter Try.func18, Try.ntmps18
  go_wp2_with fail
  rw [HW0.out, HGB.out]
  go_loopg [5, 6] n (fun gh rv yv wr => ∃ k, k ≤ n ∧ gh = n - k ∧ yv = .int .i64 (k : Nat) ∧ Below w0.heap.size w0 wr ∧ wr.ownsRow w0.heap.size 3 1 rv (nxtL k (adj S) l).length (intCells (nxtL k (adj S) l)))
  case atStart => exact ⟨0, Nat.zero_le _, rfl, rfl, Below.refl _ _, HOW.out⟩
  case round =>
    obtain ⟨k, hk, rfl, rfl, hB, hown⟩ := hrel
    obtain ⟨Ao, co, rfl⟩ := own_form hown
    have hGr := HG.out.below hB HG.out.lt
    have c0 : wr.cell? ⟨gb, 0, none⟩ = some (.slice Al n cl) := hGr.cell 0
    have c1 : wr.cell? ⟨gb, 1, none⟩ = some ve := hGr.cell 1
    have HBi := Lib.hid hB; have HO := Lib.hid hown
    have hle := nxtL_len k (adj S) l
    have hsuc := nxtL_succ k (adj S) l
    obtain ⟨N, hN⟩ : ∃ N, nxtL k (adj S) l = N := ⟨_, rfl⟩
    rw [hN] at HO hle hsuc ⊢
    obtain ⟨q, hq⟩ : ∃ q, N.length = q := ⟨_, rfl⟩
    rw [hq] at HO hle ⊢
    have HQ := Lib.hid hq; have HNN := Lib.hid hN
    by_cases hlt : k < n
    · have HAS := Lib.hid (refHas_any l k _ wr (HS.out.below hB (Nat.le_refl _)) (by rw [HP.out]; omega))
      have BES := Lib.hid (refBeside_any S l (.slice Al n cl) ve _ k wr (HE.out.below hB (Nat.le_refl _)) hS (HS.out.below hB (Nat.le_refl _)) (by rw [HP.out]; omega))
      obtain ⟨b1, hb1⟩ : ∃ b, l.contains (k : Int) = b := ⟨_, rfl⟩
      obtain ⟨b2, hb2⟩ : ∃ b, bes (adj S) l k = b := ⟨_, rfl⟩
      rw [hb1] at HAS hsuc
      rw [hb2] at BES hsuc
      obtain ⟨b0, hb0⟩ : ∃ b, l.isEmpty = b := ⟨_, rfl⟩
      have t5 : ((p : Int) == 0) = b0 := by rw [← hb0, ← HP.out]; cases l <;> simp <;> omega
      rw [hb0] at hsuc
      have t3 : decide (k < n) = true := decide_eq_true hlt
      have i1 : (k : Int) < n := by omega
      have i2 : (0 : Int) ≤ k := by omega
      have HLT := Lib.hid hlt; have HSUC := Lib.hid hsuc
      clear hB hown hGr hN hsuc hq hb1 hb2 hb0 hlt


      cases b0 with
      | true =>
        have HN2 : Hid (nxtL (k + 1) (adj S) l = N ++ [(k : Int)]) := Lib.hid HSUC.out
        have hs1 := HBi.out.size
        go_wp2_with (at_builtin; refine wpList_app1g _ rfl _ _ 22 rfl w0.heap.size 3 i0 (.int .i64 0) 8 Try.underlying22 hi0 hz0 hz1 hz2 rfl _ q _ rfl HO.out _ rfl rfl (by omega) (by omega) hs1 ?_)
        intro A3 c3 w3 hown3 hgrow3
        have hb3 : Below w0.heap.size w0 w3 := hgrow3.below HO.out HBi.out (Nat.le_refl _) hs1
        have HOW3 := Lib.hid hown3; have HB3 := Lib.hid hb3
        clear hown3 hgrow3 hb3
        go_wp2_with fail
        go_roundg (n - (k + 1))
        case rel => exact ⟨k + 1, HLT.out, rfl, by go_num, HB3.out, by rw [HN2.out, List.length_append, HQ.out, intCells_app]; exact HOW3.out⟩
        case measure => have := HLT.out; omega
      | false =>
        cases b1 with
        | true =>
          have HN2 : Hid (nxtL (k + 1) (adj S) l = N) := Lib.hid (by rw [HSUC.out]; simp)
          go_wp2_with fail
          refine HAS.out.mono ?_; rintro e w1 ⟨rfl, hw1⟩
          obtain rfl := hw1.symm
          go_wp2_with fail
          go_roundg (n - (k + 1))
          case rel => exact ⟨k + 1, HLT.out, rfl, by go_num, HBi.out, by rw [HN2.out, HQ.out]; exact HO.out⟩
          case measure => have := HLT.out; omega
        | false =>
          cases b2 with
          | false =>
            have HN2 : Hid (nxtL (k + 1) (adj S) l = N) := Lib.hid (by rw [HSUC.out]; simp)
            go_wp2_with fail
            refine HAS.out.mono ?_; rintro e w1 ⟨rfl, hw1⟩
            obtain rfl := hw1.symm
            go_wp2_with fail
            refine BES.out.mono ?_; rintro e w1 ⟨rfl, hb1⟩
            have HO1 := Lib.hid (own_below HO.out hb1 (Nat.le_refl _)); have HB1 := Lib.hid (HBi.out.trans (hb1.mono HBi.out.size))
            clear hb1
            go_wp2_with fail
            go_roundg (n - (k + 1))
            case rel => exact ⟨k + 1, HLT.out, rfl, by go_num, HB1.out, by rw [HN2.out, HQ.out]; exact HO1.out⟩
            case measure => have := HLT.out; omega
          | true =>
            have HN2 : Hid (nxtL (k + 1) (adj S) l = N ++ [(k : Int)]) := Lib.hid HSUC.out
            go_wp2_with fail
            refine HAS.out.mono ?_; rintro e w1 ⟨rfl, hw1⟩
            obtain rfl := hw1.symm
            go_wp2_with fail
            refine BES.out.mono ?_; rintro e w1 ⟨rfl, hb1⟩
            have HO1 := Lib.hid (own_below HO.out hb1 (Nat.le_refl _)); have HB1 := Lib.hid (HBi.out.trans (hb1.mono HBi.out.size))
            have hs1 := (HBi.out.trans (hb1.mono HBi.out.size)).size
            clear hb1
            go_wp2_with (at_builtin; refine wpList_app1g _ rfl _ _ 22 rfl w0.heap.size 3 i0 (.int .i64 0) 8 Try.underlying22 hi0 hz0 hz1 hz2 rfl _ q _ rfl HO1.out _ rfl rfl (by omega) (by omega) hs1 ?_)
            intro A3 c3 w3 hown3 hgrow3
            have hb3 : Below w0.heap.size w0 w3 := hgrow3.below HO1.out HB1.out (Nat.le_refl _) hs1
            have HOW3 := Lib.hid hown3; have HB3 := Lib.hid hb3
            clear hown3 hgrow3 hb3
            go_wp2_with fail
            go_roundg (n - (k + 1))
            case rel => exact ⟨k + 1, HLT.out, rfl, by go_num, HB3.out, by rw [HN2.out, List.length_append, HQ.out, intCells_app]; exact HOW3.out⟩
            case measure => have := HLT.out; omega
    · obtain rfl : k = n := by omega
      have t3 : decide (k < k) = false := by simp
      clear hlt hown hB hGr hN hsuc hq
      go_wp2_with fail
      go_ret
      exact ⟨_, rfl, by have h := HO.out; rw [HNN.out]; rw [← HQ.out] at h ⊢; exact own_seqC h, HB0.out.trans (HBi.out.mono HB0.out.size)⟩
end Go.Proofs.Ytploaffmhemjkaa
