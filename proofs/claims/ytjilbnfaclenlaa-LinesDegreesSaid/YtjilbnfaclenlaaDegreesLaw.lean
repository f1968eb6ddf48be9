/- LinesDegrees: the law. -/
import Derived.Test.YtjilbnfaclenlaaLinesA
import Derived.Test.YtjilbnfaclenlaaLinesD
import Derived.BigQuiet
import Derived.Deep.QuietTactic
import Derived.Deep.RegionHeld3
import Derived.Deep.DrawnRows
namespace Go.Proofs.Ytjilbnfaclenlaa
open Go.RowKit

theorem prs_le (l : List Int) (k : Nat) (h : l.length ≤ k) : (prs l).length ≤ k * k := by
  have h1 := prs_len l
  have h2 : l.length * (l.length - 1) ≤ k * k := Nat.mul_le_mul h (by omega)
  omega
theorem pairsE_le (S : List (Int × Int)) (h : S.length ≤ 30) : ∀ u : Nat, (pairsE u S).length ≤ u * 900
  | 0 => by simp [pairsE]
  | u + 1 => by
    have ih := pairsE_le S h u
    rw [pairsE_succ, List.length_append]
    have h2 : (atL S (u : Int)).length ≤ 30 := by rw [← near_at_len S (u : Int) _ rfl]; exact Nat.le_trans (nearL_len S _) h
    have := prs_le _ 30 h2
    omega

/-- A call's list of edges: its length, and the worlds. -/
def ToldE (wr W : World) (_N : List (Int × Int)) (q : Nat) (e : Ending) (w' : World) : Prop :=
  ∃ A c, e = .returned (.slice A q c) ∧ Below W.heap.size W w' ∧ Below wr.heap.size wr w'
theorem toldE_own {wr W w' : World} {N : List (Int × Int)} {q : Nat} {v : Value} {e : Ending} (hq : N.length = q) (he : e = .returned v) (ho : w'.ownsRow W.heap.size 40 2 v N.length (eL N)) (hb : Below W.heap.size W w') (h0 : Below wr.heap.size wr W) : ToldE wr W N q e w' := by
  obtain ⟨A, c, rfl⟩ := own_form ho
  rw [hq] at he
  exact ⟨A, c, he, hb, h0.trans (hb.mono h0.size)⟩

set_option maxRecDepth 100000 in
set_option maxHeartbeats 4000000 in
theorem degrees_law (L : List Int) (E : List (Int × Int)) (vl ve : Value) (w : World) (hl : SeqV w vl L) (he : EdgesV w ve E) (hE : ∀ e, e ∈ E → In64 e.1 ∧ In64 e.2) (h1 : L.length ≤ 9223372036854775807) (h2 : E.length ≤ 9223372036854775807) :
    Calls Try.prog 6 #[vl, ve] w fun e w' => e = .returned (.bool true) ∧ Below w.heap.size w w' := by
  obtain ⟨j1, hi1, ky0, ky1, ky2⟩ := info_parts Try.infoInt6
  have AL := Lib.hid (alive_ok w)
  have HSL := Lib.hid hl; have HSE := Lib.hid he; have HE := Lib.hid hE; have HL1 := Lib.hid h1; have HL2 := Lib.hid h2
  obtain ⟨Al, cl, rfl⟩ := IntsV.form hl
  obtain ⟨Ae, ce, rfl⟩ := he.form
  obtain ⟨n, hnn⟩ : ∃ n, L.length = n := ⟨_, rfl⟩
  obtain ⟨m, hmm⟩ : ∃ m, E.length = m := ⟨_, rfl⟩
  rw [hnn] at HSL ⊢
  rw [hmm] at HSE ⊢
  have HNN := Lib.hid hnn; have HMM := Lib.hid hmm
  clear hl he hE h1 h2 hnn hmm
  go_enter Try.func6, Try.ntmps6
  go_wp2_with fail
  refine AL.out.mono ?_; rintro e w1 ⟨rfl, hb1⟩
  have MA := Lib.hid (made_sure L E _ _ w1 (HSL.out.below hb1 (Nat.le_refl _)) (HSE.out.below hb1 (Nat.le_refl _)) HE.out HL1.out HL2.out)
  have HB1 := Lib.hid hb1
  clear hb1
  go_wp2_with fail
  refine MA.out.mono ?_
  rintro e w2 ⟨hb2, ⟨_, g0, rfl⟩ | ⟨hn, hm, hnf, g, v, rfl, hG, hv⟩⟩
  · have HB2 := Lib.hid (HB1.out.trans (hb2.mono HB1.out.size))
    have HB3 := Lib.hid (HB2.out.alloc HB2.out.size (.cells #[.slice none 0 0, .slice none 0 0] 27))
    clear hb2
    go_wp2_with fail
    go_ret
    exact ⟨rfl, HB3.out⟩
  · rw [HNN.out] at hn
    rw [HMM.out] at hm hv
    obtain ⟨Av, cv, rfl⟩ := own_form hv
    obtain ⟨hF, hR, hSl⟩ := fine_sort hnf
    obtain ⟨S, hS⟩ : ∃ S, sortE E = S := ⟨_, rfl⟩
    rw [hS] at hF hR hSl hG
    rw [HNN.out] at hR
    rw [HMM.out] at hSl
    have HN10 := Lib.hid hn; have HM30 := Lib.hid hm
    have hB2 := HB1.out.trans (hb2.mono HB1.out.size)
    have hB3 : Below w.heap.size w (w2.alloc (.cells #[.slice Al n cl, .slice Av m cv] 27)) := hB2.alloc hB2.size _
    have hG3 := hG.below (w' := w2.alloc (.cells #[.slice Al n cl, .slice Av m cv] 27)) ((Below.refl _ _).alloc (Nat.le_refl _) _) (Nat.le_refl _)
    have hM := Whole.new w2 27 #[.slice Al n cl, .slice Av m cv]
    obtain ⟨w3, hw3⟩ : ∃ W, w2.alloc (.cells #[.slice Al n cl, .slice Av m cv] 27) = W := ⟨_, rfl⟩
    obtain ⟨mb, hmb⟩ : ∃ b, w2.heap.size = b := ⟨_, rfl⟩
    rw [hw3] at hB3 hG3 hM
    rw [hmb] at hM
    have hpl : (pairsE L.length S).length ≤ 16384 := by
      have := pairsE_le S (by omega) L.length
      rw [HNN.out] at this ⊢
      omega
    have LO := Lib.hid (lines_of hG3 hF (by rw [HNN.out]; omega) (by omega) hpl)
    have HF := Lib.hid hF; have HR := Lib.hid hR; have HSLEN := Lib.hid hSl; have HG := Lib.hid hG3; have HB3 := Lib.hid hB3; have HM := Lib.hid hM; have HW3 := Lib.hid hw3; have HMB := Lib.hid hmb
    clear hF hR hSl hG hnf hS hb2 hv MA hB2 hB3 hG3 hM hn hm hw3 hmb hpl
    go_wp2_with fail
    rw [HW3.out, HMB.out]
    refine LO.out.mono ?_; rintro e w4 ⟨h, rfl, hH, hb4⟩
    rw [HSLEN.out] at hH
    have hB4 := HB3.out.trans (hb4.mono HB3.out.size)
    have hG4 := HG.out.below hb4 (Nat.le_refl _)
    have hM4 := HM.out.below hb4 HM.out.lt
    obtain ⟨D, hD⟩ : ∃ D, sortE (pairsE L.length S) = D := ⟨_, rfl⟩
    rw [hD] at hH
    have HB4 := Lib.hid hB4; have HG4 := Lib.hid hG4; have HM4 := Lib.hid hM4; have HH := Lib.hid hH; have HD := Lib.hid hD
    clear hB4 hG4 hM4 hb4 hH LO hD
    have HRI : Hid (∀ e, e ∈ S → In64 e.1 ∧ In64 e.2) := Lib.hid (fun e he => by have := HR.out e he; have := HF.out.less e he; have := HN10.out; unfold In64; omega)
    go_wp2_with fail
    go_loopg [10, 12] n (fun gh rv yv wr => ∃ u, u ≤ n ∧ gh = n - u ∧ yv = .int .i64 (u : Nat) ∧ wr.ownsRow w4.heap.size 3 1 rv u (intCells (idsL u)) ∧ Below w4.heap.size w4 wr)
    case atStart => exact ⟨0, Nat.zero_le _, rfl, rfl, World.ownsRow_nil _ _ _ 1, Below.refl _ _⟩
    case round =>
      obtain ⟨u, hu, rfl, rfl, hown, hB⟩ := hrel
      obtain ⟨A, c, rfl⟩ := own_form hown
      have LN := len_any (HG4.out.below hB (Nat.le_refl _))
      rw [HNN.out] at LN
      have HLN := Lib.hid LN; have HB := Lib.hid hB; have HO := Lib.hid hown
      have hsz := hB.size
      clear LN hB hown
      by_cases hut : u < n
      · have t3 : decide (u < n) = true := decide_eq_true hut
        have i1 : (u : Int) < n := by omega
        have i2 : (0 : Int) ≤ u := by omega
        have i3 : u ≤ 10 := by have := HN10.out; omega
        have HUT := Lib.hid hut
        clear hut
        go_wp2_with fail
        refine HLN.out.mono ?_; rintro e w6 ⟨rfl, hw⟩; obtain rfl := hw.symm
        go_wp2_with (at_builtin; refine wpList_app1g _ rfl _ _ 22 rfl w4.heap.size 3 j1 (.int .i64 0) 8 Try.underlying22 hi1 ky0 ky1 ky2 rfl _ u _ rfl HO.out _ rfl rfl (by omega) (by omega) hsz ?_)
        intro A3 c3 w7 hown3 hgrow3
        have HB7 := Lib.hid (hgrow3.below HO.out HB.out (Nat.le_refl _) hsz)
        have HO7 := Lib.hid hown3
        clear hown3 hgrow3
        go_wp2_with fail
        go_roundg (n - (u + 1))
        case rel => exact ⟨u + 1, HUT.out, rfl, by go_num, by rw [idsL_succ, intCells_app]; exact HO7.out, HB7.out⟩
        case measure => have := HUT.out; omega
      · obtain rfl : n = u := by omega
        have t3 : decide (n < n) = false := by simp
        obtain ⟨w5, hw5⟩ : ∃ W, wr = W := ⟨_, rfl⟩
        rw [hw5] at HLN HB HO hsz ⊢
        have HB5 := Lib.hid (HB4.out.trans (HB.out.mono HB4.out.size))
        clear hut hw5
        go_wp2_with fail
        refine HLN.out.mono ?_; rintro e w6 ⟨rfl, hw⟩; obtain rfl := hw.symm
        go_wp2_with fail
        go_loopg [11, 13] m (fun gh rv yv wr => ∃ i, i ≤ m ∧ gh = m - i ∧ yv = .int .i64 (i : Nat) ∧ wr.ownsRow w5.heap.size 3 1 rv i (intCells (idsL i)) ∧ Below w5.heap.size w5 wr)
        case atStart => exact ⟨0, Nat.zero_le _, rfl, rfl, World.ownsRow_nil _ _ _ 1, Below.refl _ _⟩
        case round =>
          obtain ⟨i, hi, rfl, rfl, hown, hB⟩ := hrel
          obtain ⟨A2, c2, rfl⟩ := own_form hown
          have hB45 := HB.out.trans (hB.mono HB.out.size)
          have SZ := size_any (HG4.out.below hB45 (Nat.le_refl _))
          rw [HSLEN.out] at SZ
          have HSZ := Lib.hid SZ; have HBi := Lib.hid hB; have HOi := Lib.hid hown; have HB45 := Lib.hid hB45
          have hsz5 := hB.size
          clear SZ hB hown hB45
          by_cases hit : i < m
          · have hiS : i < S.length := by rw [HSLEN.out]; exact hit
            obtain ⟨⟨x, y⟩, hxy⟩ : ∃ e, S.getD i (0, 0) = e := ⟨_, rfl⟩
            have hmem : (x, y) ∈ S := by rw [← hxy, getD_at hiS]; exact List.getElem_mem _
            have hr := HR.out _ hmem
            have hlss := HF.out.less _ hmem
            simp only at hr hlss
            obtain ⟨xn, rfl⟩ : ∃ k : Nat, x = k := ⟨x.toNat, by omega⟩
            obtain ⟨yn, rfl⟩ : ∃ k : Nat, y = k := ⟨y.toNat, by omega⟩
            have hxL : xn < L.length := by rw [HNN.out]; omega
            have hyL : yn < L.length := by rw [HNN.out]; omega
            have DEG := line_degree (n := L.length) hiS hxy (by omega) hyL
            rw [HD.out] at DEG
            have d1 := nearL_len S (xn : Int)
            have d2 := nearL_len S (yn : Int)
            rw [HSLEN.out] at d1 d2
            obtain ⟨dx, hdx⟩ : ∃ k, (nearL S (xn : Int)).length = k := ⟨_, rfl⟩
            obtain ⟨dy, hdy⟩ : ∃ k, (nearL S (yn : Int)).length = k := ⟨_, rfl⟩
            obtain ⟨dz, hdz⟩ : ∃ k, (nearL D (i : Int)).length = k := ⟨_, rfl⟩
            rw [hdx, hdy, hdz] at DEG
            rw [hdx] at d1
            rw [hdy] at d2
            have hm30 := HM30.out
            have EDS := fun (W : World) (hb : Below w5.heap.size w5 W) => edge_any ((HG4.out.below HB.out (Nat.le_refl _)).below hb (Nat.le_refl _)) (i : Nat)
            rw [edgeOr_at hiS, hxy] at EDS
            unfold edgeV at EDS
            simp only at EDS
            obtain ⟨z0, hz0⟩ : ∃ z, hasV S.length (i : Nat) = z := ⟨_, rfl⟩
            rw [hz0] at EDS
            have DH := fun (W : World) (hb : Below w5.heap.size w5 W) => degree_ok (HH.out.below (HB.out.trans (hb.mono HB.out.size)) (Nat.le_refl _)) (v := i) (by simp; exact hit)
            rw [hdz] at DH
            have DX := fun (W : World) (hb : Below w5.heap.size w5 W) => degree_ok (HG4.out.below (HB.out.trans (hb.mono HB.out.size)) (Nat.le_refl _)) hxL
            rw [hdx] at DX
            have DY := fun (W : World) (hb : Below w5.heap.size w5 W) => degree_ok (HG4.out.below (HB.out.trans (hb.mono HB.out.size)) (Nat.le_refl _)) hyL
            rw [hdy] at DY
            have HEDS := Lib.hid EDS; have HDH := Lib.hid DH; have HDX := Lib.hid DX; have HDY := Lib.hid DY
            have t4 : decide (i < m) = true := decide_eq_true hit
            have i1 : (i : Int) < m := by omega
            have i2 : (0 : Int) ≤ i := by omega
            have i3 : i ≤ 30 := by omega
            have s1 : IntKind.i64.wrap ((dx : Int) + dy) = (dx : Int) + dy := IntWalk.i64_in _ (by omega)
            have s2 : IntKind.i64.wrap ((dx : Int) + dy - 2) = dz := by rw [IntWalk.i64_in _ (by omega)]; omega
            have s3 : ((dz : Int) != dz) = false := by simp
            have HIT := Lib.hid hit; have S1 := Lib.hid s1; have S2 := Lib.hid s2
            clear hit hiS hxy hmem hr hlss hxL hyL DEG d1 d2 hdx hdy hdz EDS hz0 DH DX DY s1 s2 hm30
            go_wp2_with fail
            refine HSZ.out.mono ?_; rintro e w6 ⟨rfl, hw⟩; obtain rfl := hw.symm
            go_wp2_with (at_builtin; refine wpList_app1g _ rfl _ _ 22 rfl w5.heap.size 3 j1 (.int .i64 0) 8 Try.underlying22 hi1 ky0 ky1 ky2 rfl _ i _ rfl HOi.out _ rfl rfl (by omega) (by omega) hsz5 ?_)
            intro A3 c3 w7 hown3 hgrow3
            have HB7 := Lib.hid (hgrow3.below HOi.out HBi.out (Nat.le_refl _) hsz5)
            have HO7 := Lib.hid hown3
            clear hown3 hgrow3
            go_wp2_with fail
            refine (HEDS.out _ HB7.out).mono ?_; rintro e w8 ⟨rfl, hb8⟩
            have hb9 : Below w7.heap.size w7 (w8.alloc (.cells #[.int .i64 xn, .int .i64 yn] 40)) := hb8.alloc hb8.size _
            have hX := Whole.new w8 40 #[.int .i64 xn, .int .i64 yn]
            obtain ⟨w9, hw9⟩ : ∃ W, w8.alloc (.cells #[.int .i64 xn, .int .i64 yn] 40) = W := ⟨_, rfl⟩
            obtain ⟨xb, hxb⟩ : ∃ b, w8.heap.size = b := ⟨_, rfl⟩
            rw [hw9] at hb9 hX
            rw [hxb] at hX
            have x0 : w9.cell? ⟨xb, 0, none⟩ = some (.int .i64 xn) := hX.cell 0
            have x1 : w9.cell? ⟨xb, 1, none⟩ = some (.int .i64 yn) := hX.cell 1
            have HB9 := Lib.hid (HB7.out.trans (hb9.mono HB7.out.size))
            have HO9 := Lib.hid (own_below HO7.out hb9 (Nat.le_refl _))
            have q1 := Lib.hid (fun d => HDH.out (w9.drewN d) (below_drewN' HB9.out d))
            have q2 := Lib.hid (fun d => HDX.out (w9.drewN d) (below_drewN' HB9.out d))
            have q3 := Lib.hid (fun d => HDY.out (w9.drewN d) (below_drewN' HB9.out d))
            have s1 := S1.out; have s2 := S2.out
            have HW9 := Lib.hid hw9; have HXB := Lib.hid hxb
            clear hb8 hb9 hX hw9 hxb
            go_upto_region 19 with fail
            rw [HW9.out, HXB.out]
            go_quiet ((first | (go_at_call 26; with_reducible exact Calls.quiet_of_same (q1.out _)) | (go_at_call 26; with_reducible exact Calls.quiet_of_same (q2.out _)) | (go_at_call 26; with_reducible exact Calls.quiet_of_same (q3.out _))))
            go_wp2_with fail
            go_roundg (m - (i + 1))
            case rel => exact ⟨i + 1, HIT.out, rfl, by go_num, by rw [idsL_succ, intCells_app]; exact own_drewN HO9.out _, below_drewN' HB9.out _⟩
            case measure => have := HIT.out; omega
          · obtain rfl : m = i := by omega
            have t4 : decide (m < m) = false := by simp
            obtain ⟨w7, hw7⟩ : ∃ W, wr = W := ⟨_, rfl⟩
            rw [hw7] at HSZ HBi HOi HB45 ⊢
            have HBF := Lib.hid (HB5.out.trans (HBi.out.mono HB5.out.size))
            have HOA := Lib.hid (own_below HO.out HBi.out (Nat.le_refl _))
            have HG7 := Lib.hid (HG4.out.below HB45.out (Nat.le_refl _))
            have HM7 := Lib.hid (HM4.out.below HB45.out HM4.out.lt)
            have LN2 := len_any HG7.out
            rw [HNN.out] at LN2
            have HLN2 := Lib.hid LN2
            clear hit hw7 hsz5 LN2
            go_wp2_with fail
            refine HSZ.out.mono ?_; rintro e w6 ⟨rfl, hw⟩; obtain rfl := hw.symm
            go_wp2_with fail
            go_loopg [16, 17] n (fun gh rv yv wr => ∃ v, v ≤ n ∧ gh = n - v ∧ yv = .int .i64 (v : Nat) ∧ rv = .int .i64 (haveN S v : Nat) ∧ wr = w7)
            case atStart => exact ⟨0, Nat.zero_le _, rfl, rfl, rfl, rfl⟩
            case round =>
              obtain ⟨v, hv, rfl, rfl, rfl, hwr⟩ := hrel
              obtain rfl := hwr.symm
              by_cases hvn : v < n
              · have DG := degree_ok HG7.out (v := v) (by rw [HNN.out]; exact hvn)
                have hs : haveN S (v + 1) = haveN S v + if 0 < (nearL S (v : Int)).length then 1 else 0 := rfl
                have hle := have_le S v
                obtain ⟨d, hd⟩ : ∃ d, (nearL S (v : Int)).length = d := ⟨_, rfl⟩
                obtain ⟨k, hk⟩ : ∃ k, haveN S v = k := ⟨_, rfl⟩
                rw [hd] at DG hs
                rw [hk] at hs hle ⊢
                have hn10 := HN10.out
                have t5 : decide (v < n) = true := decide_eq_true hvn
                have i1 : (v : Int) < n := by omega
                have i2 : (0 : Int) ≤ v := by omega
                have i3 : k ≤ 10 := by omega
                have i4 : v ≤ 10 := by omega
                have HDG := Lib.hid DG; have HVN := Lib.hid hvn
                by_cases hd0 : 0 < d
                · have t6 : decide ((0 : Int) < d) = true := decide_eq_true (by omega)
                  have t6' : decide (0 < d) = true := decide_eq_true hd0
                  rw [if_pos hd0] at hs
                  have HS := Lib.hid hs
                  clear DG hs hle hd hk hn10 hvn hd0
                  go_wp2_with fail
                  refine HLN2.out.mono ?_; rintro e w6 ⟨rfl, hw⟩; obtain rfl := hw.symm
                  go_wp2_with fail
                  refine HDG.out.mono ?_; rintro e w6 ⟨rfl, hw⟩; obtain rfl := hw.symm
                  go_wp2_with fail
                  go_roundg (n - (v + 1))
                  case rel => exact ⟨v + 1, HVN.out, rfl, by go_num, by rw [HS.out]; go_num, rfl⟩
                  case measure => have := HVN.out; omega
                · have t6 : decide ((0 : Int) < d) = false := decide_eq_false (by omega)
                  have t6' : decide (0 < d) = false := decide_eq_false hd0
                  rw [if_neg hd0] at hs
                  have HS := Lib.hid hs
                  clear DG hs hle hd hk hn10 hvn hd0
                  go_wp2_with fail
                  refine HLN2.out.mono ?_; rintro e w6 ⟨rfl, hw⟩; obtain rfl := hw.symm
                  go_wp2_with fail
                  refine HDG.out.mono ?_; rintro e w6 ⟨rfl, hw⟩; obtain rfl := hw.symm
                  go_wp2_with fail
                  go_roundg (n - (v + 1))
                  case rel => exact ⟨v + 1, HVN.out, rfl, by go_num, by rw [HS.out]; rfl, rfl⟩
                  case measure => have := HVN.out; omega
              · obtain rfl : n = v := by omega
                have t5 : decide (n < n) = false := by simp
                have hRL : ∀ e, e ∈ S → 0 ≤ e.1 ∧ e.2 < ((n : Nat) : Int) := HR.out
                have hhv := verts_have hRL HF.out.less
                have hle := have_le S n
                have hn10 := HN10.out
                have hm30 := HM30.out
                obtain ⟨k, hk⟩ : ∃ k, haveN S n = k := ⟨_, rfl⟩
                rw [hk] at hhv hle ⊢
                have hsp := span_all hRL HF.out.less m (by rw [HSLEN.out]; exact Nat.le_refl _)
                have hen := ends_ids S
                rw [HSLEN.out] at hen
                have hsp0 := span_none S m
                have hAll := own_seq HOA.out
                have hIds := own_seq HOi.out
                have in1 : ∀ x, x ∈ idsL n → In64 x := fun x hx => by have := idsL_mem.1 hx; unfold In64; omega
                have SPN := Lib.hid (fun (W : World) (hb : Below w7.heap.size w7 W) => (span_any (HG7.out.below hb (Nat.le_refl _)) (idsL n) _ (hAll.below hb (Nat.le_refl _)) (by rw [idsL_len]; omega) in1 (by rw [HSLEN.out]; omega) HRI.out).mono (fun e w' hh => (show Told w7 W (idsL m) m e w' by obtain ⟨v', h1, h2, h3⟩ := hh; rw [HSLEN.out, hsp] at h2; exact told_own (idsL_len m) h1 h2 h3 hb)))
                have SP0 := Lib.hid (fun (W : World) (hb : Below w7.heap.size w7 W) => (span_any (HG7.out.below hb (Nat.le_refl _)) [] (.slice none 0 0) (Or.inl ⟨rfl, _, _, rfl⟩) (by simp) (by simp) (by rw [HSLEN.out]; omega) HRI.out).mono (fun e w' hh => (show Told w7 W [] 0 e w' by obtain ⟨v', h1, h2, h3⟩ := hh; rw [HSLEN.out, hsp0] at h2; exact told_own rfl h1 h2 h3 hb)))
                have VRT := Lib.hid (fun (W : World) (hb : Below w7.heap.size w7 W) => (verts_any (HG7.out.below hb (Nat.le_refl _)) (idsL m) _ (hIds.below hb (Nat.le_refl _)) (by rw [idsL_len]; omega) HRI.out).mono (fun e w' hh => (show Told w7 W (vertsE S) k e w' by obtain ⟨v', h1, h2, h3⟩ := hh; rw [hen] at h2; exact told_own hhv h1 h2 h3 hb)))
                have END := Lib.hid (fun (W : World) (hb : Below w7.heap.size w7 W) => (ends_any (HG7.out.below hb (Nat.le_refl _)) (idsL m) _ (hIds.below hb (Nat.le_refl _)) (by rw [idsL_len]; omega)).mono (fun e w' hh => (show ToldE w7 W S m e w' by obtain ⟨v', h1, h2, h3⟩ := hh; rw [hen] at h2; exact toldE_own HSLEN.out h1 h2 h3 hb)))
                have c1 : w7.cell? ⟨mb, 1, none⟩ = some (.slice Av m cv) := HM7.out.cell 1
                have hlm : mb < w7.heap.size := HM7.out.lt
                have KS := Lib.hid (fun (W : World) (hb : Below w7.heap.size w7 W) => (show Below w7.heap.size w7 W ∧ W.cell? ⟨mb, 1, none⟩ = some (.slice Av m cv) from ⟨hb, (hb.cell (p := ⟨mb, 1, none⟩) hlm).trans c1⟩))
                have HIDS := Lib.hid (fun (W : World) (hb : Below w7.heap.size w7 W) => hIds.below hb (Nat.le_refl _))
                have hml : Hid ((idsL m).length ≤ 1000000000) := Lib.hid (by rw [idsL_len]; omega)
                have t6 : ((k : Int) == k) = true := by simp
                have t7 : ((m : Int) == m) = true := by simp
                have t8 : ((0 : Int) == 0) = true := rfl
                clear hvn hRL hhv hle hn10 hm30 hk hsp hen hsp0 hAll hIds in1 hlm
                go_wp2_with fail
                refine HLN2.out.mono ?_; rintro e w6 ⟨rfl, hw⟩; obtain rfl := hw.symm
                go_upto_region 27 with fail
                go_cut [4] (fun x wx => x = .bool true ∧ Below w7.heap.size w7 wx)
                case first =>
                  go_region_held3 (fun w' => Below w7.heap.size w7 w' ∧ w'.cell? ⟨mb, 1, none⟩ = some (.slice Av m cv))
                    (exact KS.out _ (by first | assumption | exact below_drewN' (Below.refl _ _) 1))
                    (first
                      | (go_at_call_of 24 (Value.slice none 0 0); refine (SP0.out _ (by first | assumption | exact below_drewN' (Below.refl _ _) 1)).mono ?_; rintro e' wO ⟨A5, c5, rfl, hL5, hbO, hBO⟩)
                      | (go_at_call 24; refine (SPN.out _ (by first | assumption | exact below_drewN' (Below.refl _ _) 1)).mono ?_; rintro e' wN ⟨A1, c1, rfl, hL1, hbN, hBN⟩)
                      | (go_at_call 21; refine (same_told (wr := w7) (hL1 _ (Below.refl _ _)) (HIDS.out _ hBN) hml.out (by assumption)).mono ?_; rintro e' wS ⟨rfl, hbS, hBS⟩)
                      | (go_at_call 22; refine (VRT.out _ (by assumption)).mono ?_; rintro e' wV ⟨A2, c2, rfl, hL2, hbV, hBV⟩)
                      | (go_at_call 19; refine (END.out _ (by assumption)).mono ?_; rintro e' wE ⟨A3, c3, rfl, hbE, hBE⟩))
                  all_goals
                    go_wp2
                    go_meet
                    exact ⟨rfl, by assumption⟩
                case rest =>
                  obtain ⟨rfl, hbx⟩ := hcut
                  have HBX := Lib.hid (HBF.out.trans (hbx.mono HBF.out.size))
                  clear hbx
                  go_wp2_with fail
                  go_ret
                  exact ⟨rfl, HBX.out⟩
end Go.Proofs.Ytjilbnfaclenlaa
