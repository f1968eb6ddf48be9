/- GraphParts: the law. -/
import Derived.Test.YtfngkbpoefapdaaDoorMade4
import Derived.Test.YtfngkbpoefapdaaDoorGraphId
import Derived.Test.YtfngkbpoefapdaaDoorRefG3
import Derived.BigQuiet
namespace Go.Proofs.YtfngkbpoefapdaaDoor
open Go.RowKit

theorem SeqV.pos {w : World} {A : Option Addr} {n c : Nat} {L : List Int} (h : SeqV w (.slice A n c) L) {i : Nat} (hi : i < L.length) : ∃ b off, A = some ⟨b, off, none⟩ ∧ w.cell? ⟨b, off + i, none⟩ = some (.int .i64 (L.getD i 0)) := by
  rcases h with ⟨h0, _⟩ | ⟨_, b, off, c', e, hc⟩
  · omega
  · injection e with e1 _ _
    exact ⟨b, off, e1, hc i hi⟩
theorem idL_get {S : List (Int × Int)} (hF : Fine S) {k : Nat} {x y : Int} (hk : k < S.length) (he : S.getD k (0, 0) = (x, y)) : idL S x y = k ∧ idL S y x = k ∧ x < y := by
  have h1 : S[k] = (x, y) := (getD_at hk).symm.trans he
  have hl : x < y := hF.less (x, y) (by rw [← h1]; exact List.getElem_mem hk)
  have hr : ris (x, y) = (x, y) := by unfold ris; exact Prod.ext (by simp only; omega) (by simp only; omega)
  have h2 : idL S x y = k := idL_at hk (by rw [hr, h1]) (fun i hi hik => by
    rw [hr, ← h1]
    intro he
    have := (List.pairwise_iff_getElem.1 hF.rising i k hi hk hik)
    rw [he] at this
    exact ltE_irrefl _ this)
  exact ⟨h2, by rw [idL_comm]; exact h2, hl⟩
theorem mem_atL {S : List (Int × Int)} {k : Nat} {x y v : Int} (hk : k < S.length) (he : S.getD k (0, 0) = (x, y)) : (k : Int) ∈ atL S v ↔ v = x ∨ v = y := by
  unfold atL
  rw [List.mem_map]
  constructor
  · rintro ⟨i, hi, e⟩
    have : i = k := by omega
    subst this
    have := (List.mem_filter.1 hi).2
    rw [he] at this
    simp at this
    omega
  · intro h
    refine ⟨k, List.mem_filter.2 ⟨List.mem_range.2 hk, ?_⟩, rfl⟩
    rw [he]
    simp; omega
theorem contains_take (M : List Int) (i : Nat) (z : Int) (hi : i < M.length) : (M.take (i + 1)).contains z = ((M.take i).contains z || (M.getD i 0 == z)) := by
  rw [List.take_succ_eq_append_getElem hi, List.contains_eq_any_beq, List.contains_eq_any_beq, List.any_append]
  have : M.getD i 0 = M[i] := by simp [List.getD, hi]
  rw [this]
  simp [Bool.beq_comm]
theorem fine_sort {L : List Int} {E : List (Int × Int)} (h : newFault L E = none) : Fine (sortE E) ∧ (∀ e, e ∈ sortE E → 0 ≤ e.1 ∧ e.2 < (L.length : Int)) ∧ (sortE E).length = E.length := by
  have hg := (newFault_none.1 h).2.2.2
  exact ⟨(good_fine hg).1, (good_fine hg).2, sortE_len E⟩
def lastE (S : List (Int × Int)) (k : Nat) : Int × Int := if k = 0 then (-1, -1) else S.getD (k - 1) (0, 0)
theorem lastE_lt {S : List (Int × Int)} {n : Int} (hF : Fine S) (hn : ∀ e, e ∈ S → 0 ≤ e.1 ∧ e.2 < n) {k : Nat} (hk : k < S.length) : ltE (lastE S k) (S.getD k (0, 0)) := by
  unfold lastE
  rw [getD_at hk]
  by_cases h : k = 0
  · rw [if_pos h]
    have := hn S[k] (List.getElem_mem hk)
    unfold ltE
    simp only
    omega
  · rw [if_neg h, getD_at (i := k - 1) (by omega)]
    exact List.pairwise_iff_getElem.1 hF.rising (k - 1) k (by omega) hk (by omega)

set_option maxRecDepth 100000 in
set_option maxHeartbeats 800000 in
theorem parts_law (L : List Int) (E : List (Int × Int)) (vl ve : Value) (w : World) (hg : ErrT w) (hl : SeqV w vl L) (he : EdgesV w ve E) (hE : ∀ e, e ∈ E → In64 e.1 ∧ In64 e.2) (h1 : L.length ≤ 9223372036854775807) (h2 : E.length ≤ 9223372036854775807) :
    Calls Tryd.prog 6 #[vl, ve] w fun e w' => e = .returned (.bool true) ∧ Below w.heap.size w w' := by
  have AL := Lib.hid (alive_ok w hg)
  have HSL := Lib.hid hl; have HSE := Lib.hid he; have HE := Lib.hid hE; have HL1 := Lib.hid h1; have HL2 := Lib.hid h2
  obtain ⟨Al, cl, rfl⟩ := IntsV.form hl
  obtain ⟨Ae, ce, rfl⟩ := he.form
  obtain ⟨n, hnn⟩ : ∃ n, L.length = n := ⟨_, rfl⟩
  obtain ⟨m, hmm⟩ : ∃ m, E.length = m := ⟨_, rfl⟩
  rw [hnn] at HSL ⊢
  rw [hmm] at HSE ⊢
  have HNN := Lib.hid hnn; have HMM := Lib.hid hmm
  clear hg hl he hE h1 h2 hnn hmm
  go_enter Tryd.func6, Tryd.ntmps6
  go_wp2_with fail
  refine AL.out.mono ?_; rintro e w1 ⟨rfl, hb1⟩
  have MA := Lib.hid (made_any L E _ _ w1 (HSL.out.below hb1 (Nat.le_refl _)) (HSE.out.below hb1 (Nat.le_refl _)) HE.out HL1.out HL2.out)
  have HB1 := Lib.hid hb1
  clear hb1
  go_wp2_with fail
  refine MA.out.mono ?_
  rintro e w2 ⟨hb2, rfl | ⟨hn, hm, hnf, g, v, rfl, hG, hv⟩⟩
  · have HB2 := Lib.hid ((HB1.out.trans (hb2.mono HB1.out.size)).alloc (HB1.out.trans (hb2.mono HB1.out.size)).size (.cells #[.slice none 0 0, .slice none 0 0] 33))
    clear hb2
    go_wp2_with fail
    go_ret
    exact ⟨rfl, HB2.out⟩
  · rw [HNN.out] at hn
    rw [HMM.out] at hm hv
    obtain ⟨Av, cv, rfl⟩ := own_form hv
    obtain ⟨gc, hgc⟩ : ∃ c : Array Value, #[Value.slice Al n cl, .slice Av m cv] = c := ⟨_, rfl⟩
    have hb3 : Below w.heap.size w ((w2.alloc (.cells #[.slice Al n cl, .slice Av m cv] 33)).alloc (.cells #[.int .i64 (-1), .int .i64 (-1)] 47)) := ((HB1.out.trans (hb2.mono HB1.out.size)).alloc (HB1.out.trans (hb2.mono HB1.out.size)).size _).alloc (by have := (HB1.out.trans (hb2.mono HB1.out.size)).size; simp; omega) _
    have HG2 := Lib.hid hG
    have hbw3 : Below w2.heap.size w2 ((w2.alloc (.cells #[.slice Al n cl, .slice Av m cv] 33)).alloc (.cells #[.int .i64 (-1), .int .i64 (-1)] 47)) := ((Below.refl _ _).alloc (Nat.le_refl _) _).alloc (by simp) _
    have hG3 := hG.below (w' := (w2.alloc (.cells #[.slice Al n cl, .slice Av m cv] 33)).alloc (.cells #[.int .i64 (-1), .int .i64 (-1)] 47)) (((Below.refl _ _).alloc (Nat.le_refl _) _).alloc (by simp) _) (Nat.le_refl _)
    have hlast := Whole.new (w2.alloc (.cells #[.slice Al n cl, .slice Av m cv] 33)) 47 #[.int .i64 (-1), .int .i64 (-1)]
    rw [World.size_alloc] at hlast
    obtain ⟨hF, hR, hSl⟩ := fine_sort hnf
    obtain ⟨S, hS⟩ : ∃ S, sortE E = S := ⟨_, rfl⟩
    rw [hS] at hF hR hSl HG2
    clear hG3
    have HBW := Lib.hid (HB1.out.trans (hb2.mono HB1.out.size))
    rw [HNN.out] at hR
    rw [HMM.out] at hSl
    have hlbw : w.heap.size ≤ w2.heap.size + 1 := by have := HB1.out.size; have := hb2.size; omega
    have HF := Lib.hid hF; have HRN := Lib.hid hR; have HB3 := Lib.hid hbw3; have HLA := Lib.hid hlast; have HSLEN := Lib.hid hSl; have HLBW := Lib.hid hlbw
    clear hb2 hG hv hb3 hbw3 hlast hF hR hSl hS hnf hgc hlbw MA
    go_wp2_with fail
    obtain ⟨w3, hw3⟩ : ∃ W, (w2.alloc (.cells #[.slice Al n cl, .slice Av m cv] 33)).alloc (.cells #[.int .i64 (-1), .int .i64 (-1)] 47) = W := ⟨_, rfl⟩
    obtain ⟨lb, hlb⟩ : ∃ b, w2.heap.size + 1 = b := ⟨_, rfl⟩
    rw [hw3, hlb] at HLA
    rw [hw3] at HB3 ⊢
    rw [hlb] at HLBW ⊢
    have HLB2 : Hid (w2.heap.size ≤ lb) := Lib.hid (by omega)
    clear hw3 hlb
    go_loopg [9] m (fun gh yv wr => ∃ k, k ≤ m ∧ gh = m - k ∧ yv = .int .i64 (k : Nat) ∧ Whole wr lb 47 #[.int .i64 (lastE S k).1, .int .i64 (lastE S k).2] ∧ Below w2.heap.size w2 wr)
    case atStart => exact ⟨0, Nat.zero_le _, rfl, rfl, HLA.out, HB3.out⟩
    case round =>
      obtain ⟨k, hk, rfl, rfl, hLa, hB⟩ := hrel
      have hG := HG2.out.below hB (Nat.le_refl _)
      have HSZ := Lib.hid (size_any hG)
      rw [HSLEN.out] at HSZ
      have HG := Lib.hid hG; have HLa := Lib.hid hLa; have HB := Lib.hid hB
      by_cases hlt : k < m
      · have hkS : k < S.length := by rw [HSLEN.out]; exact hlt
        have ED := edge_ok hG hkS
        have hlast := lastE_lt HF.out HRN.out hkS
        obtain ⟨e, hke⟩ : ∃ e, S.getD k (0, 0) = e := ⟨_, rfl⟩
        have hem : e ∈ S := by rw [← hke, getD_at hkS]; exact List.getElem_mem hkS
        rw [hke] at ED hlast
        obtain ⟨x, y⟩ := e
        obtain ⟨hid1, hid2, hxy⟩ := idL_get HF.out hkS hke
        have hrn := HRN.out _ hem
        simp only at hrn
        obtain ⟨xa, rfl⟩ : ∃ a : Nat, x = (a : Int) := ⟨x.toNat, by omega⟩
        obtain ⟨ya, rfl⟩ : ∃ a : Nat, y = (a : Int) := ⟨y.toNat, by omega⟩
        obtain ⟨⟨p, q⟩, hpq⟩ : ∃ e, lastE S k = e := ⟨_, rfl⟩
        rw [hpq] at hlast HLa
        unfold edgeV at ED
        simp only at ED
        have HED := Lib.hid ED; have HID1 := Lib.hid hid1; have HID2 := Lib.hid hid2; have HKE := Lib.hid hke; have HKS := Lib.hid hkS; have HLT := Lib.hid hlt
        have t3 : decide (k < m) = true := decide_eq_true hlt
        have t4 : decide ((ya : Int) ≤ xa) = false := decide_eq_false (by omega)
        have t4' : decide (ya ≤ xa) = false := decide_eq_false (by omega)
        have t5 : decide ((xa : Int) < p) = false := decide_eq_false (by unfold ltE at hlast; simp only at hlast; omega)
        have t6 : ((xa : Int) == p) = false ∨ (((xa : Int) == p) = true ∧ decide ((ya : Int) ≤ q) = false) := by
          unfold ltE at hlast; simp only at hlast
          by_cases h : (xa : Int) = p
          · exact Or.inr ⟨by simpa using h, decide_eq_false (by omega)⟩
          · exact Or.inl (by simpa using h)
        have t7 : ((k : Int) != k) = false := by simp
        have hxn : xa < n := by omega
        have hyn : ya < n := by omega
        have HXY : Hid (xa < ya) := Lib.hid (by omega)
        clear hG hLa hB ED hlast hke hem hid1 hid2 hxy hrn hpq hlt hkS
        go_wp2_with fail
        refine HSZ.out.mono ?_; rintro e w4 ⟨rfl, hw⟩; obtain rfl := hw.symm
        go_wp2_with fail
        refine HED.out.mono ?_; rintro e w4 ⟨rfl, hb4⟩
        have hb5 : Below wr.heap.size wr (w4.alloc (.cells #[.int .i64 xa, .int .i64 ya] 47)) := hb4.alloc hb4.size _
        have hG5 := HG.out.below hb5 (Nat.le_refl _)
        have hL5 := HLa.out.below hb5 HLa.out.lt
        have hE5 := Whole.new w4 47 #[.int .i64 xa, .int .i64 ya]
        have hB5 : Below w2.heap.size w2 (w4.alloc (.cells #[.int .i64 xa, .int .i64 ya] 47)) := HB.out.trans (hb5.mono HB.out.size)
        have hne : lb ≠ w4.heap.size := by have := HLa.out.lt; have := hb4.size; omega
        obtain ⟨w5, hw5⟩ : ∃ W, w4.alloc (.cells #[.int .i64 xa, .int .i64 ya] 47) = W := ⟨_, rfl⟩
        obtain ⟨xb, hxb⟩ : ∃ b, w4.heap.size = b := ⟨_, rfl⟩
        rw [hw5] at hG5 hL5 hE5 hB5
        rw [hxb] at hE5 hne
        have e0 : w5.cell? ⟨xb, 0, none⟩ = some (.int .i64 xa) := hE5.cell 0
        have e1 : w5.cell? ⟨xb, 1, none⟩ = some (.int .i64 ya) := hE5.cell 1
        have l0 : w5.cell? ⟨lb, 0, none⟩ = some (.int .i64 p) := hL5.cell 0
        have l1 : w5.cell? ⟨lb, 1, none⟩ = some (.int .i64 q) := hL5.cell 1
        have f0 := hL5.free 0
        have f1 := hL5.free 1
        have ID1 := id_ok hG5 HF.out (by have := HSLEN.out; omega) (ya : Int) (a := xa) (by rw [HNN.out]; exact hxn)
        have ID2 := fun d => id_ok (hG5.below (below_drewN' (Below.refl _ _) d) (Nat.le_refl _)) HF.out (by have := HSLEN.out; omega) (xa : Int) (a := ya) (by rw [HNN.out]; exact hyn)
        rw [HID1.out] at ID1
        rw [HID2.out] at ID2
        have HI1 := Lib.hid ID1; have HI2 := Lib.hid ID2; have HG5 := Lib.hid hG5; have HL5 := Lib.hid hL5; have HE5 := Lib.hid hE5; have HB5 := Lib.hid hB5; have HNE := Lib.hid hne
        clear hb4 hb5 hG5 hL5 hE5 hB5 ID1 ID2 hne
        rcases t6 with t6 | ⟨t6, t6'⟩
        all_goals
          go_wp2_with fail
          refine HI1.out.mono ?_; rintro e w6 ⟨rfl, d1, rfl⟩
          go_wp2_with fail
          refine (HI2.out _).mono ?_; rintro e w6 ⟨rfl, d2, rfl⟩
          go_wp2_with fail
          have hB6 : Below w2.heap.size w2 (((w5.drewN (d1 + d2)).setCell ⟨lb, 0, none⟩ (.int .i64 xa)).setCell ⟨lb, 1, none⟩ (.int .i64 ya)) := ((below_drewN' HB5.out _).setCell HLB2.out _).setCell HLB2.out _
          have hL6 := ((HL5.out.drewN (d1 + d2)).put 0 (.int .i64 xa)).put 1 (.int .i64 ya)
          have hE6 := ((HE5.out.drewN (d1 + d2)).other (p := ⟨lb, 0, none⟩) (fun h => HNE.out h.symm) (.int .i64 xa)).other (p := ⟨lb, 1, none⟩) (fun h => HNE.out h.symm) (.int .i64 ya)
          obtain ⟨w6, hw6⟩ : ∃ W, ((w5.drewN (d1 + d2)).setCell ⟨lb, 0, none⟩ (.int .i64 xa)).setCell ⟨lb, 1, none⟩ (.int .i64 ya) = W := ⟨_, rfl⟩
          rw [hw6] at hB6 hL6 hE6 ⊢
          have HB6 := Lib.hid hB6; have HL6 := Lib.hid hL6; have HE6 := Lib.hid hE6
          clear hw6 hB6 hL6 hE6 e0 e1 l0 l1 f0 f1
          go_loopg [12] n (fun gh yv wr => ∃ u, u ≤ n ∧ gh = n - u ∧ yv = .int .i64 (u : Nat) ∧ Whole wr lb 47 #[.int .i64 xa, .int .i64 ya] ∧ Whole wr xb 47 #[.int .i64 xa, .int .i64 ya] ∧ Below w2.heap.size w2 wr)
          case atStart => exact ⟨0, Nat.zero_le _, rfl, rfl, HL6.out, HE6.out, HB6.out⟩
          case round =>
            obtain ⟨u, hu, rfl, rfl, hLa, hEx, hB⟩ := hrel
            have hG := HG2.out.below hB (Nat.le_refl _)
            have HLN := Lib.hid (len_any hG)
            rw [HNN.out] at HLN
            have HLa := Lib.hid hLa; have HEx := Lib.hid hEx; have HB := Lib.hid hB
            by_cases hut : u < n
            · have AT := at_ok hG (by have := HSLEN.out; omega) (v := u) (by rw [HNN.out]; exact hut)
              have HMEM := Lib.hid (mem_atL (v := (u : Int)) HKS.out HKE.out)
              obtain ⟨M, hM⟩ : ∃ M, atL S (u : Int) = M := ⟨_, rfl⟩
              rw [hM] at AT HMEM
              have hMl : M.length ≤ 1000000 := by rw [← hM, ← near_at_len S (u : Int) _ rfl]; have := nearL_len S (u : Int); have := HSLEN.out; omega
              obtain ⟨r, hr⟩ : ∃ r, M.length = r := ⟨_, rfl⟩
              rw [hr] at AT hMl
              have HAT := Lib.hid AT; have HMR := Lib.hid hr
              have t8 : decide (u < n) = true := decide_eq_true hut
              have HUT := Lib.hid hut
              clear hLa hEx hB hG AT hM hr hut
              go_wp2_with fail
              refine HLN.out.mono ?_; rintro e w7 ⟨rfl, hw⟩; obtain rfl := hw.symm
              go_wp2_with fail
              refine HAT.out.mono ?_; rintro e w7 ⟨va, rfl, ho7, hb7⟩
              obtain ⟨Aa, ca, rfl⟩ := own_form ho7
              have HSV := Lib.hid (own_seq ho7)
              have HB7 := Lib.hid (HB.out.trans (hb7.mono HB.out.size))
              have HL7 := Lib.hid (HLa.out.below hb7 HLa.out.lt); have HE7 := Lib.hid (HEx.out.below hb7 HEx.out.lt)
              clear ho7 hb7
              go_wp2_with fail
              go_loopg [14, 15] r (fun gh hv yv wr => ∃ i, i ≤ r ∧ gh = r - i ∧ yv = .int .i64 (i : Nat) ∧ hv = .bool ((M.take i).contains (k : Int)) ∧ wr = w7)
              case atStart => exact ⟨0, Nat.zero_le _, rfl, rfl, rfl, rfl⟩
              case round =>
                obtain ⟨i, hi, rfl, rfl, rfl, rfl⟩ := hrel
                by_cases hit : i < r
                · have hiM : i < M.length := by rw [HMR.out]; exact hit
                  obtain ⟨bb, oo, rfl, hc⟩ := SeqV.pos HSV.out hiM
                  obtain ⟨z, hz⟩ : ∃ z, M.getD i 0 = z := ⟨_, rfl⟩
                  rw [hz] at hc
                  have HCT := Lib.hid (contains_take M i (k : Int) hiM)
                  rw [hz] at HCT
                  obtain ⟨t, ht⟩ : ∃ t, (M.take i).contains (k : Int) = t := ⟨_, rfl⟩
                  rw [ht] at HCT ⊢
                  have t9 : decide (i < r) = true := decide_eq_true hit
                  have i1 : (i : Int) < r := by omega
                  have i2 : (0 : Int) ≤ i := by omega
                  have HIT := Lib.hid hit
                  clear hz ht hit hiM
                  cases t with
                  | true =>
                    go_wp2_with fail
                    go_roundg (r - (i + 1))
                    case rel => exact ⟨i + 1, HIT.out, rfl, by go_num, by rw [HCT.out]; rfl, rfl⟩
                    case measure => have := HIT.out; omega
                  | false =>
                    go_wp2_with fail
                    go_roundg (r - (i + 1))
                    case rel => exact ⟨i + 1, HIT.out, rfl, by go_num, by rw [HCT.out]; rfl, rfl⟩
                    case measure => have := HIT.out; omega
                · obtain rfl : i = r := by omega
                  have t9 : decide (i < i) = false := by simp
                  have hx0 : wr.cell? ⟨xb, 0, none⟩ = some (.int .i64 xa) := HE7.out.cell 0
                  have hx1 : wr.cell? ⟨xb, 1, none⟩ = some (.int .i64 ya) := HE7.out.cell 1
                  obtain ⟨t, ht⟩ : ∃ t, (M.take i).contains (k : Int) = t := ⟨_, rfl⟩
                  have htm : t = decide ((u : Int) = xa ∨ (u : Int) = ya) := by
                    rw [← ht, List.take_of_length_le (by rw [HMR.out]; omega)]
                    by_cases h : (k : Int) ∈ M
                    · rw [decide_eq_true (HMEM.out.1 h)]; simpa using h
                    · rw [decide_eq_false (fun h2 => h (HMEM.out.2 h2))]; simpa using h
                  rw [ht]
                  have hcase : (((u : Int) == xa) = true ∧ t = true) ∨ ((((u : Int) == xa) = false ∧ ((u : Int) == ya) = true) ∧ t = true) ∨ ((((u : Int) == xa) = false ∧ ((u : Int) == ya) = false) ∧ t = false) := by
                    rw [htm]
                    by_cases h1 : (u : Int) = xa
                    · exact Or.inl ⟨by simpa using h1, decide_eq_true (Or.inl h1)⟩
                    · by_cases h2 : (u : Int) = ya
                      · exact Or.inr (Or.inl ⟨⟨by simpa using h1, by simpa using h2⟩, decide_eq_true (Or.inr h2)⟩)
                      · exact Or.inr (Or.inr ⟨⟨by simpa using h1, by simpa using h2⟩, decide_eq_false (by rintro (h | h) <;> contradiction)⟩)
                  clear ht htm hit
                  rcases hcase with ⟨c1, rfl⟩ | ⟨⟨c1, c2⟩, rfl⟩ | ⟨⟨c1, c2⟩, rfl⟩
                  all_goals
                    go_wp2_with fail
                    go_roundg (n - (u + 1))
                    case rel => exact ⟨u + 1, HUT.out, rfl, by go_num, HL7.out, HE7.out, HB7.out⟩
                    case measure => have := HUT.out; omega
            · obtain rfl : u = n := by omega
              have t8 : decide (u < u) = false := by simp
              have HNEXT : Hid (lastE S (k + 1) = ((xa : Int), (ya : Int))) := Lib.hid (by unfold lastE; rw [if_neg (by omega)]; exact HKE.out)
              clear hut hLa hEx hB hG
              go_wp2_with fail
              refine HLN.out.mono ?_; rintro e w7 ⟨rfl, hw⟩; obtain rfl := hw.symm
              go_wp2_with fail
              go_roundg (m - (k + 1))
              case rel => exact ⟨k + 1, HLT.out, rfl, by go_num, by rw [HNEXT.out]; exact HLa.out, HB.out⟩
              case measure => have := HLT.out; omega
      · obtain rfl : k = m := by omega
        have t3 : decide (k < k) = false := by simp
        clear hlt hG hLa
        have HBK := Lib.hid hB
        clear hB
        go_wp2_with fail
        refine HSZ.out.mono ?_; rintro e w4 ⟨rfl, hw⟩; obtain rfl := hw.symm
        go_wp2_with fail
        go_loopg [16] n (fun gh yv wr => ∃ u, u ≤ n ∧ gh = n - u ∧ yv = .int .i64 (u : Nat) ∧ Below w2.heap.size w2 wr)
        case atStart => exact ⟨0, Nat.zero_le _, rfl, rfl, HBK.out⟩
        case round =>
          obtain ⟨u, hu, rfl, rfl, hB⟩ := hrel
          have hG := HG2.out.below hB (Nat.le_refl _)
          have HLN := Lib.hid (len_any hG)
          rw [HNN.out] at HLN
          have HB := Lib.hid hB
          by_cases hut : u < n
          · have NR := near_ok hG (by have := HSLEN.out; omega) (v := u) (by rw [HNN.out]; exact hut)
            have hris := near_rising HF.out (u : Int)
            have hmem : ∀ z, z ∈ nearL S (u : Int) → z ≠ u ∧ 0 ≤ z ∧ z < n ∧ 0 ≤ idL S z u := fun z hz => by
              have h1 := (near_mem HF.out).1 hz
              have h2 := HF.out.less _ h1
              have h3 := HRN.out _ h1
              have h4 : 0 ≤ idL S z u := by rw [idL_comm]; exact idL_pos.2 h1
              unfold ris at h2 h3
              simp only at h2 h3
              omega
            have hMl : (nearL S (u : Int)).length ≤ 1000000 := by have := nearL_len S (u : Int); have := HSLEN.out; omega
            obtain ⟨M, hM⟩ : ∃ M, nearL S (u : Int) = M := ⟨_, rfl⟩
            rw [hM] at NR hris hmem hMl
            obtain ⟨r, hr⟩ : ∃ r, M.length = r := ⟨_, rfl⟩
            rw [hr] at NR hMl
            have HNR := Lib.hid NR; have HMR := Lib.hid hr; have HRI := Lib.hid hris; have HMEM := Lib.hid hmem
            have t8 : decide (u < n) = true := decide_eq_true hut
            have HUT := Lib.hid hut
            clear hB hG NR hM hr hut hris hmem
            go_wp2_with fail
            refine HLN.out.mono ?_; rintro e w7 ⟨rfl, hw⟩; obtain rfl := hw.symm
            go_wp2_with fail
            refine HNR.out.mono ?_; rintro e w7 ⟨va, rfl, ho7, hb7⟩
            obtain ⟨Aa, ca, rfl⟩ := own_form ho7
            have HSV := Lib.hid (own_seq ho7)
            have HB7 := Lib.hid (HB.out.trans (hb7.mono HB.out.size))
            clear ho7 hb7
            go_wp2_with fail
            go_loopg [18] r (fun gh yv wr => ∃ i, i ≤ r ∧ gh = r - i ∧ yv = .int .i64 (i : Nat) ∧ ∃ d, wr = w7.drewN d)
            case atStart => exact ⟨0, Nat.zero_le _, rfl, rfl, 0, rfl⟩
            case round =>
              obtain ⟨i, hi, rfl, rfl, d, hwd⟩ := hrel
              have hBr : Below w2.heap.size w2 wr := by rw [hwd]; exact below_drewN' HB7.out d
              have hSr : SeqV wr (.slice Aa r ca) M := by rw [hwd]; exact HSV.out.below (below_drewN' (Below.refl _ _) d) (Nat.le_refl _)
              have HMORE := Lib.hid (fun nq => (show ∃ q, wr.drewN nq = w7.drewN q by rw [hwd]; exact drew_more w7 d nq))
              clear hwd
              by_cases hit : i < r
              · have hiM : i < M.length := by rw [HMR.out]; exact hit
                have hzi := HMEM.out (M.getD i 0) (by rw [show M.getD i 0 = M[i] by simp [List.getD, hiM]]; exact List.getElem_mem hiM)
                obtain ⟨z, hz⟩ : ∃ z, M.getD i 0 = z := ⟨_, rfl⟩
                rw [hz] at hzi
                obtain ⟨z1, z2, z3, z4⟩ := hzi
                obtain ⟨za, rfl⟩ : ∃ a : Nat, z = (a : Int) := ⟨z.toNat, by omega⟩
                have HH := Lib.hid (fun dd => hasE_of za u _ _ _ (id_ok (HG2.out.below (below_drewN' hBr dd) (Nat.le_refl _)) HF.out (by have := HSLEN.out; omega) (u : Int) (a := za) (by rw [HNN.out]; omega)))
                rw [decide_eq_true z4] at HH
                have t9 : decide (i < r) = true := decide_eq_true hit
                have i1 : (i : Int) < r := by omega
                have i2 : (0 : Int) ≤ i := by omega
                have t10 : ((za : Int) == u) = false := by simpa using z1
                have HIT := Lib.hid hit
                obtain ⟨bb, oo, rfl, hc⟩ := SeqV.pos hSr hiM
                rw [hz] at hc
                by_cases h0 : i = 0
                · subst h0
                  have i1' : (0 : Int) < r := by omega
                  have i1'' : 0 < r := hit
                  have hc' : wr.cell? ⟨bb, oo, none⟩ = some (.int .i64 za) := hc
                  clear hz hit hiM z1 z2 z3 z4 hBr hSr
                  go_wp2_with fail
                  go_quiet ((go_at_call 24; with_reducible exact Calls.quiet_of (HH.out _)))
                  go_wp2_with fail
                  go_roundg (r - (0 + 1))
                  case rel => exact ⟨1, HIT.out, rfl, by go_num, HMORE.out _⟩
                  case measure => have := HIT.out; omega
                · obtain ⟨j, hj⟩ : ∃ j, j + 1 = i := ⟨i - 1, by omega⟩
                  obtain ⟨b2, o2, e2, hc2⟩ := SeqV.pos hSr (i := j) (by omega)
                  injection e2 with e2
                  injection e2 with e2 e3
                  subst e2 e3
                  have hlt2 : M.getD j 0 < za := by
                    rw [← hz, show M.getD j 0 = M[j]'(by omega) by simp [List.getD, show j < M.length by omega], show M.getD i 0 = M[i] by simp [List.getD, hiM]]
                    exact List.pairwise_iff_getElem.1 HRI.out j i (by omega) hiM (by omega)
                  obtain ⟨y, hy⟩ : ∃ y, M.getD j 0 = y := ⟨_, rfl⟩
                  rw [hy] at hc2 hlt2
                  have t11 : decide ((0 : Int) < i) = true := decide_eq_true (by omega)
                  have t11' : decide (0 < i) = true := decide_eq_true (by omega)
                  have t12 : decide ((za : Int) ≤ y) = false := decide_eq_false (by omega)
                  have hij : (i : Int) - 1 = j := by omega
                  have i3 : (j : Int) < r := by omega
                  have i4 : (0 : Int) ≤ j := by omega
                  clear hz hit hiM z1 z2 z3 z4 hy hlt2 hj h0 hBr hSr
                  go_wp2_with fail
                  go_quiet ((go_at_call 24; with_reducible exact Calls.quiet_of (HH.out _)))
                  go_wp2_with fail
                  go_roundg (r - (i + 1))
                  case rel => exact ⟨i + 1, HIT.out, rfl, by go_num, HMORE.out _⟩
                  case measure => have := HIT.out; omega
              · obtain rfl : i = r := by omega
                have t9 : decide (i < i) = false := by simp
                have HBr := Lib.hid hBr
                clear hit hBr hSr
                go_wp2_with fail
                go_roundg (n - (u + 1))
                case rel => exact ⟨u + 1, HUT.out, rfl, by go_num, HBr.out⟩
                case measure => have := HUT.out; omega
          · obtain rfl : u = n := by omega
            have t8 : decide (u < u) = false := by simp
            clear hut hG hB
            go_wp2_with fail
            refine HLN.out.mono ?_; rintro e w7 ⟨rfl, hw⟩; obtain rfl := hw.symm
            go_wp2_with fail
            go_ret
            exact ⟨rfl, HBW.out.trans (HB.out.mono HBW.out.size)⟩
end Go.Proofs.YtfngkbpoefapdaaDoor
