/- VertAll, walked. -/
import Derived.Test.YtploaffmhemjkaaRefSets
import Derived.Test.YtploaffmhemjkaaGrowOwn
import Derived.BigQuiet
import Derived.Deep.RegionHeld3
import Derived.Deep.DrawnRows
import Derived.Deep.CutBlock
namespace Go.Proofs.Ytploaffmhemjkaa
open Go.RowKit

/-- The lists of a level, and which level it is. -/
def AllSt (W : World) (n : Nat) (b : Int → Int → Bool) (gh : Nat) (rv yv : Value) (wr : World) : Prop :=
  ∃ (K kk : Nat) (V : World), V = wr ∧ K ≤ 5 ∧ kk = K + 1 ∧ gh = 5 - K ∧ yv = .int .i64 (kk : Nat) ∧ ListsV V rv (rowL n b K) ∧ Below W.heap.size W V
/-- A place in a list, in a later world. -/
def AtSt (W : World) (r gh : Nat) (yv : Value) (wr : World) : Prop :=
  ∃ (i : Nat) (V : World), V = wr ∧ i ≤ r ∧ gh = r - i ∧ yv = .int .i64 (i : Nat) ∧ Below W.heap.size W V
/-- How often a set was met. -/
def HitSt (W : World) (R : List (List Int)) (s : List Int) (r gh : Nat) (hv yv : Value) (wr : World) : Prop :=
  ∃ (i h : Nat) (V : World), V = wr ∧ i ≤ r ∧ gh = r - i ∧ hv = .int .i64 (h : Nat) ∧ hitsL (R.take i) s = h ∧ yv = .int .i64 (i : Nat) ∧ Below W.heap.size W V
theorem apart_new {w5 w6 wi : World} {v u : Value} {G : List Int} {C : List (List Int)} {base : Nat} (hs : SeqC w6 v G) (hf : ∀ k, v.ownBlock = some k → w5.heap.size ≤ k) (hro : RowsOwn wi base u C) (hsz : wi.heap.size ≤ w5.heap.size) : ApartV w6 v u G := by
  obtain ⟨hs, A, c, rfl, _⟩ := hs
  rcases hs with ⟨h0, _⟩ | ⟨h0, b, off, c', e, hx⟩
  · exact Or.inl (List.eq_nil_of_length_eq_zero h0)
  · injection e with e1 _ _
    subst e1
    refine Or.inr ⟨b, rfl, cellLt (hx 0 h0), fun e => ?_⟩
    obtain ⟨us, hus, _⟩ := hro
    have h1 := (hus.lt b e).2
    have h2 := hf b rfl
    omega
/-- Lists of the call's own, and another that lies apart. -/
def MoreTo (W : World) (C : List (List Int)) (vg : Value) (G : List Int) (v : Value) (wx : World) : Prop := ∃ V, V = wx ∧ RowsOwn V W.heap.size v C ∧ Below W.heap.size W V ∧ SeqC V vg G ∧ ApartV V vg v G
/-- Lists of the call's own. -/
def RowsTo (W : World) (C : List (List Int)) (v : Value) (wx : World) : Prop := ∃ V, V = wx ∧ RowsOwn V W.heap.size v C ∧ Below W.heap.size W V
/-- The next level, while it is made. -/
def NextSt (W : World) (n : Nat) (b : Int → Int → Bool) (R : List (List Int)) (r gh : Nat) (nv yv : Value) (wr : World) : Prop :=
  ∃ i : Nat, i ≤ r ∧ gh = r - i ∧ yv = .int .i64 (i : Nat) ∧ RowsTo W ((R.take i).flatMap fun l => (growL n b l).map fun v => l ++ [v]) nv wr
/-- The next level, while a list is gone on with. -/
def MoreSt (W : World) (D : List (List Int)) (X G : List Int) (p gh : Nat) (vg nv yv : Value) (wr : World) : Prop :=
  ∃ (j : Nat) (V : World), V = wr ∧ j ≤ p ∧ gh = p - j ∧ yv = .int .i64 (j : Nat) ∧ RowsOwn V W.heap.size nv (D ++ (G.take j).map fun v => X ++ [v]) ∧ Below W.heap.size W V ∧ SeqC V vg G ∧ ApartV V vg nv G

set_option maxRecDepth 100000 in
set_option maxHeartbeats 20000000 in
theorem all_law (L : List Int) (E : List (Int × Int)) (vl ve : Value) (w : World) (hl : SeqV w vl L) (he : EdgesV w ve E) (hE : ∀ e, e ∈ E → In64 e.1 ∧ In64 e.2) (h1 : L.length ≤ 9223372036854775807) (h2 : E.length ≤ 9223372036854775807) :
    Calls Try.prog 4 #[vl, ve] w fun e w' => e = .returned (.bool true) ∧ Below w.heap.size w w' := by
  obtain ⟨j1, hi1, ky0, ky1, ky2⟩ := info_parts Try.infoInt6
  obtain ⟨j2, hi2, kz0, kz1, kz2⟩ := info_parts Try.infoRow
  have AL := Lib.hid (alive_ok w)
  have HSL := Lib.hid hl; have HSE := Lib.hid he; have HE := Lib.hid hE; have HL1 := Lib.hid h1; have HL2 := Lib.hid h2
  obtain ⟨Al, cl, rfl⟩ := IntsV.form hl
  obtain ⟨Ae, ce, rfl⟩ := he.form
  obtain ⟨n, hnn⟩ : ∃ n, L.length = n := ⟨_, rfl⟩
  obtain ⟨m, hmm⟩ : ∃ m, E.length = m := ⟨_, rfl⟩
  rw [hnn] at HSL ⊢
  rw [hmm] at HSE ⊢
  have HNN := Lib.hid hnn; have HMM := Lib.hid hmm
  clear hl he hE h1 h2 hnn hmm
  go_enter Try.func4, Try.ntmps4
  go_wp2_with fail
  refine AL.out.mono ?_; rintro e w1 ⟨rfl, hb1⟩
  have MA := Lib.hid (made_sure L E _ _ w1 (HSL.out.below hb1 (Nat.le_refl _)) (HSE.out.below hb1 (Nat.le_refl _)) HE.out HL1.out HL2.out)
  have HB1 := Lib.hid hb1
  clear hb1
  go_wp2_with fail
  refine MA.out.mono ?_
  rintro e w2 ⟨hb2, ⟨_, g0, rfl⟩ | ⟨hn, hm, hnf, g, v, rfl, hG, hv⟩⟩
  · have HB2 := Lib.hid (HB1.out.trans (hb2.mono HB1.out.size))
    have HB3 := Lib.hid (HB2.out.alloc HB2.out.size (.cells #[.slice none 0 0, .slice none 0 0] 27))
    clear hb2
    go_wp2_with fail
    go_ret
    exact ⟨rfl, HB3.out⟩
  · rw [HNN.out] at hn
    rw [HMM.out] at hm hv
    obtain ⟨Av, cv, rfl⟩ := own_form hv
    have hB2 := HB1.out.trans (hb2.mono HB1.out.size)
    by_cases hp7 : 7 < n
    · have t20 : decide ((7 : Int) < n) = true := decide_eq_true (by omega)
      have t20' : decide (7 < n) = true := decide_eq_true hp7
      have HB2 := Lib.hid hB2
      clear hb2 hG hv hnf MA hB2
      go_wp2_with fail
      go_ret
      exact ⟨rfl, (HB2.out.alloc HB2.out.size _)⟩
    have t20 : decide ((7 : Int) < n) = false := decide_eq_false (by omega)
    have t20' : decide (7 < n) = false := decide_eq_false (by omega)
    obtain ⟨hF, hR, hSl⟩ := fine_sort hnf
    obtain ⟨S, hS⟩ : ∃ S, sortE E = S := ⟨_, rfl⟩
    rw [hS] at hF hR hSl hG hv
    rw [HNN.out] at hR
    rw [HMM.out] at hSl
    have hG2 := GF.of hG HNN.out hF hR (by omega) (by omega)
    have hB3 : Below w.heap.size w (w2.alloc (.cells #[.slice Al n cl, .slice Av m cv] 27)) := hB2.alloc hB2.size _
    have hG3 := hG2.below (w' := w2.alloc (.cells #[.slice Al n cl, .slice Av m cv] 27)) ((Below.refl _ _).alloc (Nat.le_refl _) _)
    have hVE := own_edges (hv.alloc (.cells #[.slice Al n cl, .slice Av m cv] 27))
    have hM := Whole.new w2 27 #[.slice Al n cl, .slice Av m cv]
    obtain ⟨w3, hw3⟩ : ∃ W, w2.alloc (.cells #[.slice Al n cl, .slice Av m cv] 27) = W := ⟨_, rfl⟩
    obtain ⟨gb, hgb⟩ : ∃ b, w2.heap.size = b := ⟨_, rfl⟩
    rw [hw3] at hB3 hG3 hM hVE
    rw [hgb] at hM
    have BR := Lib.hid (bare_any hG3)
    have HN7 := Lib.hid (show n ≤ 7 by omega)
    have HSN : Hid (S.length ≤ 1000) := Lib.hid (by omega)
    have HG3 := Lib.hid hG3; have HB3 := Lib.hid hB3; have HW3 := Lib.hid hw3; have HM3 := Lib.hid hM; have HVE := Lib.hid hVE; have HGB := Lib.hid hgb
    clear hb2 hG hv hnf MA hB2 hp7 hF hR hSl hS hG2 hB3 hG3 hw3 hM hVE hgb
    go_upto_region 6 with fail
    rw [HW3.out, HGB.out]
    have CG := Lib.hid (fun (W : World) (hb : Below w3.heap.size w3 W) => (show GF W _ (.pointer (some ⟨g, 0, none⟩)) n S from HG3.out.below hb))
    have CL := Lib.hid (fun (W : World) (hb : Below w3.heap.size w3 W) => (show SeqV W (.slice Al n cl) L from HSL.out.below (HB3.out.trans (hb.mono HB3.out.size)) (Nat.le_refl _)))
    have CE := Lib.hid (fun (W : World) (hb : Below w3.heap.size w3 W) => (show EdgesV W (.slice Av m cv) S from HVE.out.below hb (Nat.le_refl _)))
    have C0 := Lib.hid (fun (W : World) (hb : Below w3.heap.size w3 W) => (show W.cell? ⟨gb, 0, none⟩ = some (.slice Al n cl) from (HM3.out.below hb HM3.out.lt).cell 0))
    have C1 := Lib.hid (fun (W : World) (hb : Below w3.heap.size w3 W) => (show W.cell? ⟨gb, 1, none⟩ = some (.slice Av m cv) from (HM3.out.below hb HM3.out.lt).cell 1))
    go_wp2_with fail
    refine BR.out.mono ?_; rintro e w4 ⟨v4, rfl, hr4, hb4⟩
    have HST : Hid (AllSt w3 n (adj S) 5 v4 (.int .i64 1) w4) := Lib.hid ⟨0, 1, _, rfl, by omega, rfl, rfl, rfl, hr4.lists, hb4⟩
    clear hr4 hb4
    go_wp2_with fail
    go_loopg [8, 9] 5 (fun gh rv yv wr => AllSt w3 n (adj S) gh rv yv wr)
    case atStart => exact HST.out
    case round =>
      obtain ⟨K, kk, wk, rfl, hK, hkk, rfl, rfl, hrow, hbk⟩ := hrel
      obtain ⟨Ar, cr, rfl⟩ := hrow.form
      have HBK := Lib.hid hbk; have HROW := Lib.hid hrow
      by_cases hk5 : K < 5
      · have t1 : decide ((kk : Int) ≤ 5) = true := decide_eq_true (by omega)
        have t1' : decide (kk ≤ 5) = true := decide_eq_true (by omega)
        have hkkb : kk ≤ 5 := by omega
        have hlen := row_len n (adj S) K
        have hhit : ∀ s, s ∈ setsL n (adj S) kk → hitsL (rowL n (adj S) K) s = 1 := fun s hs => row_hits (by rw [← hkk]; exact hs)
        have hcan : ∀ l, l ∈ rowL n (adj S) K → l.length = kk ∧ canL n (adj S) l = true := fun l hl => by rw [hkk]; exact rowL_mem.1 hl
        have hnext : rowL n (adj S) kk = (rowL n (adj S) K).flatMap fun l => (growL n (adj S) l).map fun v => l ++ [v] := by rw [hkk]; rfl
        have hbig : (rowL n (adj S) kk).length ≤ 5764801 := Nat.le_trans (rowL_len HN7.out kk) (Nat.le_trans (Nat.pow_le_pow_right (by omega) (show kk + 1 ≤ 8 by omega)) (by decide))
        have hbig2 : (rowL n (adj S) K).length ≤ 5764801 := Nat.le_trans (rowL_len HN7.out K) (Nat.le_trans (Nat.pow_le_pow_right (by omega) (show K + 1 ≤ 8 by omega)) (by decide))
        rw [← hkk] at hlen
        have RS := Lib.hid (refSets_any S L (.slice Al n cl) (.slice Av m cv) n kk wk (CL.out _ hbk) HNN.out HN7.out (by omega) (CE.out _ hbk) HSN.out)
        have c0 := C0.out _ hbk
        have c1 := C1.out _ hbk
        obtain ⟨R, hR⟩ : ∃ R, rowL n (adj S) K = R := ⟨_, rfl⟩
        obtain ⟨T, hT⟩ : ∃ T, setsL n (adj S) kk = T := ⟨_, rfl⟩
        rw [hR] at hrow HROW hlen hhit hcan hnext hbig2 ⊢
        rw [hT] at RS hlen hhit
        obtain ⟨r, hr⟩ : ∃ r, R.length = r := ⟨_, rfl⟩
        rw [hr] at hrow HROW hlen hbig2 ⊢
        have HHIT := Lib.hid hhit; have HCAN := Lib.hid hcan; have HNX := Lib.hid hnext; have HR := Lib.hid hr; have HLEN := Lib.hid hlen; have HBIG := Lib.hid hbig; have HKK := Lib.hid hkk; have HK5 := Lib.hid hk5
        clear hrow hbk hlen hhit hcan hnext hbig hR hT hr hkk hk5 hK
        go_wp2_with fail
        refine RS.out.mono ?_; rintro e wa ⟨va, rfl, hta, hba⟩
        obtain ⟨At, ct, rfl⟩ := hta.form
        rw [← HLEN.out] at hta ⊢
        have HTA := Lib.hid hta; have HBA := Lib.hid (HBK.out.trans (hba.mono HBK.out.size)); have HRA := Lib.hid (HROW.out.below hba (Nat.le_refl _))
        have tr : ((r : Int) != r) = false := by simp
        clear hta hba c0 c1
        go_wp2_with fail
        go_loopg [11] r (fun gh yv wr => AtSt wa r gh yv wr)
        case atStart => exact ⟨0, _, rfl, Nat.zero_le _, rfl, rfl, Below.refl _ _⟩
        case round =>
          obtain ⟨i, wi, rfl, hi, rfl, rfl, hbi⟩ := hrel
          have HBI := Lib.hid hbi
          by_cases hit : i < r
          · have hiT : i < T.length := by rw [← HLEN.out]; exact hit
            have t2 : decide (i < r) = true := decide_eq_true hit
            have j1' : (i : Int) < r := by omega
            have j2' : (0 : Int) ≤ i := by omega
            have hone := HHIT.out T[i] (List.getElem_mem hiT)
            obtain ⟨s, hs⟩ : ∃ s, T[i] = s := ⟨_, rfl⟩
            rw [hs] at hone
            have HSS := Lib.hid hs
            have HONE := Lib.hid hone; have HIT := Lib.hid hit
            have HIT2 : Hid (HitSt wi R s r r (.int .i64 0) (.int .i64 0) wi) := Lib.hid ⟨0, 0, _, rfl, Nat.zero_le _, rfl, rfl, rfl, rfl, Below.refl _ _⟩
            have HTI := Lib.hid (HTA.out.below hbi (Nat.le_refl _)); have HRI := Lib.hid (HRA.out.below hbi (Nat.le_refl _))
            clear hbi hone hit hs
            go_wp2_with fail
            go_loopg [12, 13] r (fun gh hv yv wr => HitSt wi R s r gh hv yv wr)
            case atStart => exact HIT2.out
            case round =>
              obtain ⟨j, h, wj, rfl, hj, rfl, rfl, hh, rfl, hbj⟩ := hrel
              have HBJ := Lib.hid hbj; have HH := Lib.hid hh
              by_cases hjt : j < r
              · have hjR : j < R.length := by rw [HR.out]; exact hjt
                obtain ⟨br, orr, u1, hAr, hu1, hs1⟩ := (HRI.out.below hbj (Nat.le_refl _)).pos hjR
                obtain ⟨bt, ot, u2, hAt, hu2, hs2⟩ := (HTI.out.below hbj (Nat.le_refl _)).pos hiT
                rw [HSS.out] at hs2
                have hst := hits_step (s := s) hjR
                have hl1 := (HCAN.out R[j] (List.getElem_mem hjR)).1
                have hhle := hits_le (R.take j) s
                rw [List.length_take, hh] at hhle
                obtain ⟨M, hM⟩ : ∃ M, R[j] = M := ⟨_, rfl⟩
                rw [hM] at hs1 hst hl1
                rw [HH.out] at hst
                have hk6 : kk ≤ 6 := by have := HKK.out; have := HK5.out; omega
                have hof := fun (W : World) (hb : Below wj.heap.size wj W) => (refOf_any M u1 W (hs1.below hb (Nat.le_refl _)).1 (by omega)).mono (fun e w' hh => (show ∃ v', e = .returned v' ∧ SeqC w' v' (ofR M) ∧ Below wj.heap.size wj w' by
                  obtain ⟨v, h1, h2, h3⟩ := hh
                  exact ⟨v, h1, h2, hb.trans (h3.mono hb.size)⟩))
                have hol := (ofR_parts _ M rfl).2.2
                have hsm := fun (W : World) (v : Value) (hv : SeqC W v (ofR M)) (hb : Below wj.heap.size wj W) => (same_dec hv.1 (hs2.below hb (Nat.le_refl _)).1 (by omega)).mono (fun e w' hh => (show e = .returned (.bool (decide (ofR M = s))) ∧ Below wj.heap.size wj w' from ⟨hh.1, hb.trans (hh.2.mono hb.size)⟩))
                have hlr := cellLt hu1
                have hlt := cellLt hu2
                have HOF := Lib.hid hof; have HSM := Lib.hid hsm
                have HKS := Lib.hid (fun (W : World) (hb : Below wj.heap.size wj W) => (show Below wj.heap.size wj W ∧ W.cell? ⟨br, orr + j, none⟩ = some u1 ∧ W.cell? ⟨bt, ot + i, none⟩ = some u2 from ⟨hb, (hb.cell (p := ⟨br, orr + j, none⟩) hlr).trans hu1, (hb.cell (p := ⟨bt, ot + i, none⟩) hlt).trans hu2⟩))
                obtain ⟨z, hz⟩ : ∃ z, decide (ofR M = s) = z := ⟨_, rfl⟩
                rw [hz] at HSM
                have HST := Lib.hid hst; have HZ := Lib.hid hz; have HJT := Lib.hid hjt
                have t3 : decide (j < r) = true := decide_eq_true hjt
                have k1 : (j : Int) < r := by omega
                have k2 : (0 : Int) ≤ j := by omega
                have k3 : h ≤ 5764801 := by have := HR.out; omega
                subst hAr hAt
                obtain ⟨_, A1, c1', rfl, _⟩ := id hs1
                obtain ⟨_, A2, c2', rfl, _⟩ := id hs2
                clear hbj hh hjt hu1 hs1 hu2 hs2 hst hl1 hhle hM hof hol hsm hlr hlt hz hjR
                go_upto_region 20 with fail
                go_cut [69] (fun x wx => x = .bool z ∧ CutW wj wx)
                case first =>
                  go_region_held3 (fun w' => Below wj.heap.size wj w' ∧ w'.cell? ⟨br, orr + j, none⟩ = some (.slice A1 M.length c1') ∧ w'.cell? ⟨bt, ot + i, none⟩ = some (.slice A2 s.length c2'))
                    (exact HKS.out _ (by first | assumption | exact below_drewN' (Below.refl _ _) _))
                    (first
                      | (go_at_call 23; refine (HOF.out _ (by first | assumption | exact below_drewN' (Below.refl _ _) _)).mono ?_; rintro e' wT ⟨vT, rfl, hsT, hBT⟩)
                      | (go_at_call 12; refine (HSM.out _ _ (by assumption) (by assumption)).mono ?_; rintro e' wU ⟨rfl, hBU⟩))
                  all_goals
                    go_wp2
                    go_meet
                    exact ⟨rfl, _, rfl, by assumption⟩
                case rest =>
                  obtain ⟨rfl, wz, rfl, hbz⟩ := hcut
                  have HBZ := Lib.hid (HBJ.out.trans (hbz.mono HBJ.out.size))
                  clear hbz
                  cases z with
                  | true =>
                    have HH2 : Hid (hitsL (R.take (j + 1)) s = h + 1) := Lib.hid (by rw [HST.out, if_pos (of_decide_eq_true HZ.out)])
                    go_wp2_with fail
                    go_roundg (r - (j + 1))
                    case rel => exact ⟨j + 1, h + 1, _, rfl, HJT.out, rfl, by go_num, HH2.out, by go_num, HBZ.out⟩
                    case measure => have := HJT.out; omega
                  | false =>
                    have HH2 : Hid (hitsL (R.take (j + 1)) s = h) := Lib.hid (by rw [HST.out, if_neg (of_decide_eq_false HZ.out)]; rfl)
                    go_wp2_with fail
                    go_roundg (r - (j + 1))
                    case rel => exact ⟨j + 1, h, _, rfl, HJT.out, rfl, rfl, HH2.out, by go_num, HBZ.out⟩
                    case measure => have := HJT.out; omega
              · obtain rfl : r = j := by omega
                obtain rfl : h = 1 := by rw [← hh, List.take_of_length_le (by rw [HR.out]; exact Nat.le_refl _)]; exact HONE.out
                have t3 : decide (r < r) = false := by simp
                have HBN := Lib.hid (HBI.out.trans (hbj.mono HBI.out.size))
                clear hbj hh hjt
                go_wp2_with fail
                go_roundg (r - (i + 1))
                case rel => exact ⟨i + 1, _, rfl, HIT.out, rfl, by go_num, HBN.out⟩
                case measure => have := HIT.out; omega
          · obtain rfl : r = i := by omega
            have t2 : decide (r < r) = false := by simp
            have HBW := Lib.hid (HBA.out.trans (hbi.mono HBA.out.size))
            have HRW := Lib.hid (HRA.out.below hbi (Nat.le_refl _))
            obtain ⟨wA, hwA⟩ : ∃ W, W = wi := ⟨_, rfl⟩
            rw [← hwA] at HBW HRW
            have HNS : Hid (NextSt wA n (adj S) R r r (.slice none 0 0) (.int .i64 0) wi) := Lib.hid ⟨0, Nat.zero_le _, rfl, rfl, _, rfl, by rw [← hwA]; exact RowsOwn.nil _ _, by rw [hwA]; exact Below.refl _ _⟩
            clear hbi hit hwA
            go_wp2_with fail
            go_loopg [14, 15] r (fun gh nv yv wr => NextSt wA n (adj S) R r gh nv yv wr)
            case atStart => exact HNS.out
            case round =>
              obtain ⟨i, hi, rfl, rfl, wi, rfl, hro, hbi⟩ := hrel
              obtain ⟨Ai, ci, rfl⟩ := hro.form
              have HRO := Lib.hid hro; have HBI := Lib.hid hbi
              have hb3i := HBW.out.trans (hbi.mono HBW.out.size)
              by_cases hit : i < r
              · have hiR : i < R.length := by rw [HR.out]; exact hit
                obtain ⟨br, orr, u1, hAr, hu1, hs1⟩ := (HRW.out.below hbi (Nat.le_refl _)).pos hiR
                obtain ⟨br', orr', u1', hAr', hu1', hs1'⟩ := HRW.out.pos hiR
                subst hAr
                injection hAr' with hAr'
                injection hAr' with e1 e2
                subst e1 e2
                have huu : u1' = u1 := by
                  have h := (hbi.cell (p := ⟨br, orr + i, none⟩) (cellLt hu1')).trans hu1'
                  rw [hu1] at h
                  injection h with h
                  exact h.symm
                subst huu
                have hlA := cellLt hu1'
                have hfs := flat_step (n := n) (b := adj S) hiR
                obtain ⟨hl1, hcn⟩ := HCAN.out R[i] (List.getElem_mem hiR)
                have hgl := growL_len n (adj S) R[i]
                obtain ⟨X, hX⟩ : ∃ X, R[i] = X := ⟨_, rfl⟩
                rw [hX] at hs1 hs1' hfs hl1 hcn hgl
                have hk6 : kk ≤ 6 := by have := HKK.out; have := HK5.out; omega
                have CN := canonical_any (CG.out _ hb3i) X _ hs1 (by omega)
                rw [hcn] at CN
                have CNN := Lib.hid CN
                obtain ⟨D, hD⟩ : ∃ D, ((R.take i).flatMap fun l => (growL n (adj S) l).map fun v => l ++ [v]) = D := ⟨_, rfl⟩
                obtain ⟨G, hG⟩ : ∃ G, growL n (adj S) X = G := ⟨_, rfl⟩
                rw [hD] at HRO hfs ⊢
                rw [hG] at hfs hgl
                have hbigD : (D ++ G.map fun v => X ++ [v]).length ≤ 5764801 := by
                  refine Nat.le_trans ?_ HBIG.out
                  rw [HNX.out, ← hfs]
                  conv => rhs; rw [← List.take_append_drop (i + 1) R, List.flatMap_append, List.length_append]
                  exact Nat.le_add_right _ _
                have HBIGD := Lib.hid hbigD
                have HXL := Lib.hid (show X.length ≤ 20 by omega)
                have HFS := Lib.hid hfs; have HS1 := Lib.hid hs1; have HU1 := Lib.hid hu1; have HLA := Lib.hid hlA; have HU1A := Lib.hid hu1'; have HIT := Lib.hid hit; have HS1A := Lib.hid hs1'; have HB3I := Lib.hid hb3i; have HGL := Lib.hid hgl; have HGE := Lib.hid hG
                obtain ⟨_, Ax, cx, rfl, hcx⟩ := id hs1
                obtain ⟨px, hpx⟩ : ∃ p, X.length = p := ⟨_, rfl⟩
                rw [hpx] at HS1 HU1 HU1A HS1A hu1
                have HPX := Lib.hid hpx
                have t3 : decide (i < r) = true := decide_eq_true hit
                have k1 : (i : Int) < r := by omega
                have k2 : (0 : Int) ≤ i := by omega
                rw [hpx] at CNN
                clear hro hbi hb3i hs1 hu1' hs1' hlA hfs hl1 hcn hgl hX CN hD hG hbigD hit hcx hpx hiR
                go_wp2_with fail
                refine CNN.out.mono ?_; rintro e w5 ⟨rfl, d5, hw5⟩
                have hb5 : Below wi.heap.size wi w5 := by rw [hw5]; exact below_drewN' (Below.refl _ _) d5
                have hu5 := (hb5.cell (p := ⟨br, orr + i, none⟩) (cellLt hu1)).trans hu1
                have GR := Lib.hid (grow_fresh (CG.out _ (HB3I.out.trans (hb5.mono HB3I.out.size))) X _ (HS1.out.below hb5 (Nat.le_refl _)) (by have := HXL.out; omega))
                have HB5 := Lib.hid hb5
                clear hw5 hb5
                go_wp2_with fail
                refine GR.out.mono ?_; rintro e w6 ⟨v6, rfl, hs6, hb6, hf6⟩
                rw [HGE.out] at hs6
                have hb56 := HB5.out.trans (hb6.mono HB5.out.size)
                have hap6 := apart_new hs6 hf6 HRO.out HB5.out.size
                have HM0 : Hid (MoreSt wA D X G G.length G.length v6 (.slice Ai _ ci) (.int .i64 0) w6) := Lib.hid ⟨0, _, rfl, Nat.zero_le _, rfl, rfl, by rw [List.take_zero, List.map_nil, List.append_nil]; exact HRO.out.below hb56 (Nat.le_refl _), HBI.out.trans (hb56.mono HBI.out.size), hs6, hap6⟩
                obtain ⟨_, Ag, cg, rfl, _⟩ := id hs6
                obtain ⟨g1, hg1⟩ : ∃ q, G.length = q := ⟨_, rfl⟩
                rw [hg1] at HM0 ⊢
                have HG1 := Lib.hid hg1
                have hg1b : g1 ≤ 100 := by have := HGL.out; have := HN7.out; omega
                clear hs6 hb6 hf6 hb56 hap6 hu1 hu5 hg1
                go_wp2_with fail
                go_loopg [14, 17] g1 (fun gh nv yv wr => MoreSt wA D X G g1 gh (.slice Ag g1 cg) nv yv wr)
                case atStart => exact HM0.out
                case round =>
                  obtain ⟨j, wq, rfl, hj, rfl, rfl, hro, hbq, hsg, hap⟩ := hrel
                  obtain ⟨C, hC⟩ : ∃ C, D ++ (G.take j).map (fun v => X ++ [v]) = C := ⟨_, rfl⟩
                  rw [hC] at hro
                  obtain ⟨Aq, cq, rfl⟩ := hro.form
                  have HRO2 := Lib.hid hro; have HBQ := Lib.hid hbq; have HCC := Lib.hid hC
                  by_cases hjt : j < g1
                  · have hjG : j < G.length := by rw [HG1.out]; exact hjt
                    obtain ⟨bg, og, hAg, hcg⟩ := seqPos hsg.1 hjG
                    obtain ⟨u, hu⟩ : ∃ u, G.getD j 0 = u := ⟨_, rfl⟩
                    rw [hu] at hcg
                    have hms := map_step (X := X) hjG
                    rw [hu] at hms
                    subst hAg
                    have hne : some bg ≠ (Value.slice Aq C.length cq).ownBlock := by
                      rcases hap with h | ⟨k, h1, _, h3⟩
                      · rw [h] at hjG; simp at hjG
                      · have hk : bg = k := by
                          have h2 : some bg = some k := h1
                          injection h2
                        rw [hk]
                        exact fun e => h3 e.symm
                    have hq5 : C.length ≤ 5764801 := by
                      rw [← hC]
                      have h1 := HBIGD.out
                      rw [List.length_append, List.length_map] at h1 ⊢
                      rw [List.length_take]
                      omega
                    obtain ⟨us, hus, hrs⟩ := hro
                    obtain ⟨q, hq⟩ : ∃ q, C.length = q := ⟨_, rfl⟩
                    rw [hq] at hus hne hq5 hap HRO2 ⊢
                    have hrow := (hbq.cell (p := ⟨br, orr + i, none⟩) HLA.out).trans HU1A.out
                    have hlr := cellLt hrow
                    have hlg := cellLt hcg
                    have HKS := Lib.hid (fun (W : World) (hb : Below wq.heap.size wq W) => (show Below wA.heap.size wA W ∧ W.cell? ⟨br, orr + i, none⟩ = some (.slice Ax px cx) ∧ W.cell? ⟨bg, og + j, none⟩ = some (.int .i64 u) from ⟨hbq.trans (hb.mono hbq.size), (hb.cell (p := ⟨br, orr + i, none⟩) hlr).trans hrow, (hb.cell (p := ⟨bg, og + j, none⟩) hlg).trans hcg⟩))
                    have HKG := Lib.hid (fun (w6 w8 : World) (o : Obj) (v8 : Value) (hb : Below wq.heap.size wq w6) (hg : Grew (w6.alloc o) (.slice Aq q cq) w8 v8) (h8 : Below wA.heap.size wA w8) => (show Below wA.heap.size wA w8 ∧ w8.cell? ⟨br, orr + i, none⟩ = some (.slice Ax px cx) ∧ w8.cell? ⟨bg, og + j, none⟩ = some (.int .i64 u) from ⟨h8, (h8.cell (p := ⟨br, orr + i, none⟩) HLA.out).trans HU1A.out, hg.1.cell (((hb.alloc hb.size o).cell (p := ⟨bg, og + j, none⟩) hlg).trans hcg) hne⟩))
                    have HGA := Lib.hid (fun (w6 w8 : World) (o : Obj) (v8 : Value) (hb : Below wq.heap.size wq w6) (hg : Grew (w6.alloc o) (.slice Aq q cq) w8 v8) => ApartV.grew (hsg.below (hb.alloc hb.size o) (Nat.le_refl _)) (hap.below (hb.alloc hb.size o).size) hg)
                    have HXC := Lib.hid (fun (W : World) (hb : Below wq.heap.size wq W) => (show SeqV W (.slice Ax px cx) X from (HS1A.out.below (hbq.trans (hb.mono hbq.size)) (Nat.le_refl _)).1))
                    have HUS := Lib.hid hus; have HRS := Lib.hid hrs; have HQ := Lib.hid hq; have HMS := Lib.hid hms; have HJT := Lib.hid hjt
                    have t4 : decide (j < g1) = true := decide_eq_true hjt
                    have m1 : (j : Int) < g1 := by omega
                    have m2 : (0 : Int) ≤ j := by omega
                    clear hbq hsg hap hC hjt hjG hcg hu hms hne hus hrs hq hrow hlr hlg
                    go_upto_region 34 with fail
                    have hls : (wq.drew.alloc (.cells #[.int .i64 u] 3)).heap.size = wq.heap.size + 1 := by first | (rw [World.size_alloc]; rfl) | rw [World.size_alloc]
                    have hlz : (wq.drew.alloc (.cells #[] 3)).heap.size = wq.heap.size + 1 := by first | (rw [World.size_alloc]; rfl) | rw [World.size_alloc]
                    have o3 := own_empty (wq.drew.alloc (.cells #[.int .i64 u] 3)) wq.heap.size (by rw [hls]; exact Nat.le_succ_of_le ((below_drewN' (Below.refl _ _) 1 : Below wq.heap.size wq wq.drew)).size)
                    rw [hls] at o3
                    have OWN3 := Lib.hid o3
                    have lA := cell_new1 (wq.drew.alloc (.cells #[] 3)) u
                    rw [hlz] at lA
                    have LITA := Lib.hid lA
                    have LITB := Lib.hid (show ((wq.drew.alloc (.cells #[.int .i64 u] 3)).alloc (.cells #[] 3)).cell? ⟨wq.heap.size, 0, none⟩ = some (.int .i64 u) from ((Whole.new wq.drew 3 #[.int .i64 u]).alloc (.cells #[] 3)).cell 0)
                    have NEA := Lib.hid (show some (wq.heap.size + 1) ≠ (Value.slice (some ⟨wq.heap.size, 0, none⟩) 0 0).ownBlock from fun e => absurd (Option.some.inj e) (show ¬ (wq.heap.size + 1 = wq.heap.size) by omega))
                    have NEB := Lib.hid (show some wq.heap.size ≠ (Value.slice (some ⟨wq.heap.size + 1, 0, none⟩) 0 0).ownBlock from fun e => absurd (Option.some.inj e) (show ¬ (wq.heap.size = wq.heap.size + 1) by omega))
                    clear hls hlz o3 lA
                    refine wp_region_held_drew (S := fun w' => Below wA.heap.size wA w' ∧ w'.cell? ⟨br, orr + i, none⟩ = some (.slice Ax px cx) ∧ w'.cell? ⟨bg, og + j, none⟩ = some (.int .i64 u)) (by kernel_rfl) ?_ (fun hHeld => ?_)
                    · (try dsimp only); exact HKS.out _ (by first | assumption | exact below_drewN' (Below.refl _ _) _)
                    refine wpAnyH_take (i := 0) (oi := ({ dst := some 99, op := Op.move (Operand.tmp 14), type := 40, pos := "law.go:88", after := #[], guard := none } : Oper)) (v := ?vtc1) rfl (by kernel_rfl) (by kernel_rfl) (by kernel_rfl) (fun _ _ _ h => h) (Or.inl ⟨by rfl, ?hytc1⟩) (by assumption) ?resttc1
                    case hytc1 => intro w hSw; (try dsimp only at hSw); go_simp; all_goals (with_reducible rfl)
                    try simp only [Act.put, List.setIfInBounds_toArray, List.set_cons_zero, List.set_cons_succ]
                    refine wpAnyH_take (i := 2) (oi := ({ dst := some 101, op := Op.move (Operand.tmp 8), type := 40, pos := "law.go:88", after := #[], guard := none } : Oper)) (v := ?vtc2) rfl (by kernel_rfl) (by kernel_rfl) (by kernel_rfl) (fun _ _ _ h => h) (Or.inl ⟨by rfl, ?hytc2⟩) (by assumption) ?resttc2
                    case hytc2 => intro w hSw; (try dsimp only at hSw); go_simp; all_goals (with_reducible rfl)
                    try simp only [Act.put, List.setIfInBounds_toArray, List.set_cons_zero, List.set_cons_succ]
                    refine wpAnyH_take (i := 3) (oi := ({ dst := some 102, op := Op.move (Operand.tmp 15), type := 3, pos := "law.go:88", after := #[], guard := none } : Oper)) (v := ?vtc3) rfl (by kernel_rfl) (by kernel_rfl) (by kernel_rfl) (fun _ _ _ h => h) (Or.inl ⟨by rfl, ?hytc3⟩) (by assumption) ?resttc3
                    case hytc3 => intro w hSw; (try dsimp only at hSw); go_simp; all_goals (with_reducible rfl)
                    try simp only [Act.put, List.setIfInBounds_toArray, List.set_cons_zero, List.set_cons_succ]
                    refine wpAnyH_take (i := 4) (oi := ({ dst := some 103, op := Op.indexAddr 40 (Operand.tmp 101) (Operand.tmp 102), type := 0, pos := "law.go:88", after := #[{ on := 2, ground := Ground.data }, { on := 3, ground := Ground.data }], guard := none } : Oper)) (v := ?vtc4) rfl (by kernel_rfl) (by kernel_rfl) (by kernel_rfl) (fun _ _ _ h => h) (Or.inl ⟨by rfl, ?hytc4⟩) (by assumption) ?resttc4
                    case hytc4 => intro w hSw; (try dsimp only at hSw); go_simp; all_goals (with_reducible rfl)
                    try simp only [Act.put, List.setIfInBounds_toArray, List.set_cons_zero, List.set_cons_succ]
                    refine wpAnyH_take (i := 5) (oi := ({ dst := some 104, op := Op.load 22 (Operand.tmp 103), type := 22, pos := "law.go:88", after := #[{ on := 4, ground := Ground.data }], guard := none } : Oper)) (v := ?vtc5) rfl (by kernel_rfl) (by kernel_rfl) (by kernel_rfl) (fun _ _ _ h => h) (Or.inl ⟨by rfl, ?hytc5⟩) (by assumption) ?resttc5
                    case hytc5 => intro w hSw; (try dsimp only at hSw); go_simp; all_goals (with_reducible rfl)
                    try simp only [Act.put, List.setIfInBounds_toArray, List.set_cons_zero, List.set_cons_succ]
                    refine wpAnyH_take (i := 7) (oi := ({ dst := some 106, op := Op.move (Operand.tmp 16), type := 22, pos := "law.go:88", after := #[], guard := none } : Oper)) (v := ?vtc6) rfl (by kernel_rfl) (by kernel_rfl) (by kernel_rfl) (fun _ _ _ h => h) (Or.inl ⟨by rfl, ?hytc6⟩) (by assumption) ?resttc6
                    case hytc6 => intro w hSw; (try dsimp only at hSw); go_simp; all_goals (with_reducible rfl)
                    try simp only [Act.put, List.setIfInBounds_toArray, List.set_cons_zero, List.set_cons_succ]
                    refine wpAnyH_take (i := 8) (oi := ({ dst := some 107, op := Op.move (Operand.tmp 17), type := 3, pos := "law.go:88", after := #[], guard := none } : Oper)) (v := ?vtc7) rfl (by kernel_rfl) (by kernel_rfl) (by kernel_rfl) (fun _ _ _ h => h) (Or.inl ⟨by rfl, ?hytc7⟩) (by assumption) ?resttc7
                    case hytc7 => intro w hSw; (try dsimp only at hSw); go_simp; all_goals (with_reducible rfl)
                    try simp only [Act.put, List.setIfInBounds_toArray, List.set_cons_zero, List.set_cons_succ]
                    refine wpAnyH_take (i := 9) (oi := ({ dst := some 108, op := Op.indexAddr 22 (Operand.tmp 106) (Operand.tmp 107), type := 0, pos := "law.go:88", after := #[{ on := 7, ground := Ground.data }, { on := 8, ground := Ground.data }], guard := none } : Oper)) (v := ?vtc8) rfl (by kernel_rfl) (by kernel_rfl) (by kernel_rfl) (fun _ _ _ h => h) (Or.inl ⟨by rfl, ?hytc8⟩) (by assumption) ?resttc8
                    case hytc8 => intro w hSw; (try dsimp only at hSw); go_simp; all_goals (with_reducible rfl)
                    try simp only [Act.put, List.setIfInBounds_toArray, List.set_cons_zero, List.set_cons_succ]
                    refine wpAnyH_take (i := 10) (oi := ({ dst := some 109, op := Op.load 3 (Operand.tmp 108), type := 3, pos := "law.go:88", after := #[{ on := 9, ground := Ground.data }], guard := none } : Oper)) (v := ?vtc9) rfl (by kernel_rfl) (by kernel_rfl) (by kernel_rfl) (fun _ _ _ h => h) (Or.inl ⟨by rfl, ?hytc9⟩) (by assumption) ?resttc9
                    case hytc9 => intro w hSw; (try dsimp only at hSw); go_simp; all_goals (with_reducible rfl)
                    try simp only [Act.put, List.setIfInBounds_toArray, List.set_cons_zero, List.set_cons_succ]
                    refine wpAnyH_ready (rs := [1, 11]) (by kernel_rfl) (by simp) ?_
                    refine (AllReadyH.cons (o := ({ dst := some 100, op := Op.buildSlice 22 0 #[], type := 22, pos := "law.go:88", after := #[], guard := none } : Oper)) rfl (fun K hK => ?_) (AllReadyH.cons (o := ({ dst := some 110, op := Op.buildSlice 22 1 #[(0, Operand.tmp 109)], type := 22, pos := "law.go:88", after := #[{ on := 10, ground := Ground.data }], guard := none } : Oper)) rfl (fun K hK => ?_) AllReadyH.nil))
                    · go_simp
                      refine hK.out _ _ ?_ (fun hHeld => ?_)
                      · (try dsimp only); exact HKS.out _ (((below_drewN' (Below.refl _ _) 1 : Below wq.heap.size wq wq.drew)).alloc ((below_drewN' (Below.refl _ _) 1 : Below wq.heap.size wq wq.drew)).size (.cells #[] 3))
                      clear hK K
                      try simp only [Act.put, List.setIfInBounds_toArray, List.set_cons_zero, List.set_cons_succ]
                      refine wpAnyH_ready (rs := [6, 11]) (by kernel_rfl) (by simp) ?_
                      refine (AllReadyH.cons (o := ({ dst := some 105, op := Op.call { callee := Callee.builtin Builtin.append, args := #[Operand.tmp 100, Operand.tmp 104], argTypes := #[22, 22] }, type := 22, pos := "law.go:88", after := #[{ on := 1, ground := Ground.data }, { on := 5, ground := Ground.data }], guard := none } : Oper)) rfl (fun K hK => ?_) (AllReadyH.cons (o := ({ dst := some 110, op := Op.buildSlice 22 1 #[(0, Operand.tmp 109)], type := 22, pos := "law.go:88", after := #[{ on := 10, ground := Ground.data }], guard := none } : Oper)) rfl (fun K hK => ?_) AllReadyH.nil))
                      · have hH := (((below_drewN' (Below.refl _ _) 1 : Below wq.heap.size wq wq.drew)).alloc ((below_drewN' (Below.refl _ _) 1 : Below wq.heap.size wq wq.drew)).size (.cells #[] 3))
                        refine step_appInts (by rfl) _ _ 22 rfl wq.heap.size j1 Try.underlying22 hi1 ky0 ky1 ky2 _ 0 _ rfl (own_empty wq.drew wq.heap.size ((below_drewN' (Below.refl _ _) 1 : Below wq.heap.size wq wq.drew)).size) _ X rfl (HXC.out _ hH) (by have := HXL.out; omega) hH.size ?_
                        intro g2 c2 w2 hown2 hgrow2
                        simp only [Nat.zero_add, List.nil_append] at hown2
                        try simp only [Nat.zero_add]
                        have hB2 : Below wq.heap.size wq w2 := hH.grown hgrow2 hH.size (fun k hk => ((own_empty wq.drew wq.heap.size ((below_drewN' (Below.refl _ _) 1 : Below wq.heap.size wq wq.drew)).size).lt k hk).1)
                        refine hK.out _ _ ?_ (fun hHeld => ?_)
                        · (try dsimp only); exact HKS.out _ hB2
                        clear hK K
                        try simp only [Act.put, List.setIfInBounds_toArray, List.set_cons_zero, List.set_cons_succ]
                        refine wpAnyH_ready (rs := [11]) (by kernel_rfl) (by simp) ?_
                        refine (AllReadyH.cons (o := ({ dst := some 110, op := Op.buildSlice 22 1 #[(0, Operand.tmp 109)], type := 22, pos := "law.go:88", after := #[{ on := 10, ground := Ground.data }], guard := none } : Oper)) rfl (fun K hK => ?_) AllReadyH.nil)
                        go_simp
                        refine hK.out _ _ ?_ (fun hHeld => ?_)
                        · (try dsimp only); exact HKS.out _ (hB2.alloc hB2.size (.cells #[.int .i64 u] 3))
                        clear hK K
                        try simp only [Act.put, List.setIfInBounds_toArray, List.set_cons_zero, List.set_cons_succ]
                        refine wpAnyH_ready (rs := [12]) (by kernel_rfl) (by simp) ?_
                        refine (AllReadyH.cons (o := ({ dst := some 111, op := Op.call { callee := Callee.builtin Builtin.append, args := #[Operand.tmp 105, Operand.tmp 110], argTypes := #[22, 22] }, type := 22, pos := "law.go:88", after := #[{ on := 6, ground := Ground.data }, { on := 11, ground := Ground.data }, { on := 6, ground := Ground.chain }], guard := none } : Oper)) rfl (fun K hK => ?_) AllReadyH.nil)
                        have hH3 := (hB2.alloc hB2.size (.cells #[.int .i64 u] 3))
                        refine step_appInts (by rfl) _ _ 22 rfl wq.heap.size j1 Try.underlying22 hi1 ky0 ky1 ky2 _ X.length _ rfl (hown2.alloc (.cells #[.int .i64 u] 3)) _ [u] rfl (seq_cell1 (cell_new1 w2 u)) (by have := HXL.out; simp; omega) hH3.size ?_
                        intro g4 c4 w6 hown4 hgrow4
                        have hB6 : Below wq.heap.size wq w6 := hH3.grown hgrow4 hH3.size (fun k hk => ((hown2.alloc (.cells #[.int .i64 u] 3)).lt k hk).1)
                        have ho6 : w6.ownsRow wq.heap.size 3 1 (.slice g4 (X.length + 1) c4) (X ++ [u]).length (intCells (X ++ [u])) := by rw [intCells_app, List.length_append]; exact hown4
                        have hs6 : SeqC w6 (.slice g4 (X.length + 1) c4) (X ++ [u]) := own_seqC ho6
                        refine hK.out _ _ ?_ (fun hHeld => ?_)
                        · (try dsimp only); exact HKS.out _ hB6
                        clear hK K
                        try simp only [Act.put, List.setIfInBounds_toArray, List.set_cons_zero, List.set_cons_succ]
                        refine wpAnyH_ready (rs := [13]) (by kernel_rfl) (by simp) ?_
                        refine (AllReadyH.cons (o := ({ dst := some 112, op := Op.buildSlice 40 1 #[(0, Operand.tmp 111)], type := 40, pos := "law.go:88", after := #[{ on := 12, ground := Ground.data }], guard := none } : Oper)) rfl (fun K hK => ?_) AllReadyH.nil)
                        go_simp
                        refine hK.out _ _ ?_ (fun hHeld => ?_)
                        · (try dsimp only); exact HKS.out _ (hB6.alloc hB6.size _)
                        clear hK K
                        try simp only [Act.put, List.setIfInBounds_toArray, List.set_cons_zero, List.set_cons_succ]
                        refine wpAnyH_ready (rs := [14]) (by kernel_rfl) (by simp) ?_
                        refine (AllReadyH.cons (o := ({ dst := some 113, op := Op.call { callee := Callee.builtin Builtin.append, args := #[Operand.tmp 99, Operand.tmp 112], argTypes := #[40, 40] }, type := 40, pos := "law.go:88", after := #[{ on := 0, ground := Ground.data }, { on := 13, ground := Ground.data }, { on := 12, ground := Ground.chain }], guard := none } : Oper)) rfl (fun K hK => ?_) AllReadyH.nil)
                        have hBA6 := HBQ.out.trans (hB6.mono HBQ.out.size)
                        have hBA7 := hBA6.alloc hBA6.size (.cells #[.slice g4 (X.length + 1) c4] 22)
                        refine step_app1 (by rfl) _ _ 40 rfl wA.heap.size 22 j2 (.slice none 0 0) 24 Try.underlying40 hi2 kz0 kz1 kz2 rfl _ q _ rfl ((own_below HUS.out hB6 (Nat.le_refl _)).alloc (.cells #[.slice g4 (X.length + 1) c4] 22)) (.slice g4 (X.length + 1) c4) rfl w6.heap.size rfl ((Whole.new w6 22 #[.slice g4 (X.length + 1) c4]).cell 0) (by omega) (by omega) hBA7.size ?_
                        intro g8 c8 w8 hown8 hgrow8
                        have hB8 : Below wA.heap.size wA w8 := hgrow8.below ((own_below HUS.out hB6 (Nat.le_refl _)).alloc (.cells #[.slice g4 (X.length + 1) c4] 22)) hBA7 (Nat.le_refl _) hBA7.size
                        have hR8 : RowsOwn w8 wA.heap.size (.slice g8 (q + 1) c8) (C ++ [X ++ [u]]) := RowsOwn.more (by rw [HQ.out]; exact ((own_below HUS.out hB6 (Nat.le_refl _)).alloc (.cells #[.slice g4 (X.length + 1) c4] 22))) (fun x y M hx hM => (own_below (HRS.out x y M hx hM) hB6 (Nat.le_refl _)).alloc _) (own_base (ho6.alloc (.cells #[.slice g4 (X.length + 1) c4] 22)) HBQ.out.size) (by rw [HQ.out]; exact hown8) hgrow8
                        have hK8 := HKG.out w6 w8 _ _ hB6 hgrow8 hB8
                        obtain ⟨hs8, ha8⟩ := HGA.out w6 w8 _ _ hB6 hgrow8
                        refine hK.out _ _ ?_ (fun hHeld => ?_)
                        · (try dsimp only); exact hK8
                        clear hK K
                        try simp only [Act.put, List.setIfInBounds_toArray, List.set_cons_zero, List.set_cons_succ]
                        refine wpAnyH_take (i := 15) (oi := ({ dst := some 14, op := Op.assign (Operand.tmp 113), type := 40, pos := "law.go:88", after := #[{ on := 14, ground := Ground.data }, { on := 14, ground := Ground.chain }, { on := 0, ground := Ground.phase }, { on := 1, ground := Ground.phase }, { on := 2, ground := Ground.phase }, { on := 3, ground := Ground.phase }, { on := 4, ground := Ground.phase }, { on := 5, ground := Ground.phase }, { on := 6, ground := Ground.phase }, { on := 7, ground := Ground.phase }, { on := 8, ground := Ground.phase }, { on := 9, ground := Ground.phase }, { on := 10, ground := Ground.phase }, { on := 11, ground := Ground.phase }, { on := 12, ground := Ground.phase }, { on := 13, ground := Ground.phase }, { on := 14, ground := Ground.phase }], guard := none } : Oper)) (v := ?vtc10) rfl (by kernel_rfl) (by kernel_rfl) (by kernel_rfl) (fun _ _ _ h => h) (Or.inl ⟨by rfl, ?hytc10⟩) (by assumption) ?resttc10
                        case hytc10 => intro w hSw; (try dsimp only at hSw); go_simp; all_goals (with_reducible rfl)
                        try simp only [Act.put, List.setIfInBounds_toArray, List.set_cons_zero, List.set_cons_succ]
                        refine wpAnyH_done (by kernel_rfl) ?_ _
                        go_wp2_with fail
                        go_roundg (g1 - (j + 1))
                        case rel => exact ⟨j + 1, _, rfl, HJT.out, rfl, by go_num, by rw [HMS.out, ← List.append_assoc, HCC.out]; exact hR8, hB8, hs8, ha8⟩
                        case measure => have := HJT.out; omega
                      · go_simp
                        refine hK.out _ _ ?_ (fun hHeld => ?_)
                        · (try dsimp only); exact HKS.out _ ((((below_drewN' (Below.refl _ _) 1 : Below wq.heap.size wq wq.drew)).alloc ((below_drewN' (Below.refl _ _) 1 : Below wq.heap.size wq wq.drew)).size (.cells #[] 3)).alloc (((below_drewN' (Below.refl _ _) 1 : Below wq.heap.size wq wq.drew)).alloc ((below_drewN' (Below.refl _ _) 1 : Below wq.heap.size wq wq.drew)).size (.cells #[] 3)).size (.cells #[.int .i64 u] 3))
                        clear hK K
                        try simp only [Act.put, List.setIfInBounds_toArray, List.set_cons_zero, List.set_cons_succ]
                        refine wpAnyH_ready (rs := [6]) (by kernel_rfl) (by simp) ?_
                        refine (AllReadyH.cons (o := ({ dst := some 105, op := Op.call { callee := Callee.builtin Builtin.append, args := #[Operand.tmp 100, Operand.tmp 104], argTypes := #[22, 22] }, type := 22, pos := "law.go:88", after := #[{ on := 1, ground := Ground.data }, { on := 5, ground := Ground.data }], guard := none } : Oper)) rfl (fun K hK => ?_) AllReadyH.nil)
                        have hH := ((((below_drewN' (Below.refl _ _) 1 : Below wq.heap.size wq wq.drew)).alloc ((below_drewN' (Below.refl _ _) 1 : Below wq.heap.size wq wq.drew)).size (.cells #[] 3)).alloc (((below_drewN' (Below.refl _ _) 1 : Below wq.heap.size wq wq.drew)).alloc ((below_drewN' (Below.refl _ _) 1 : Below wq.heap.size wq wq.drew)).size (.cells #[] 3)).size (.cells #[.int .i64 u] 3))
                        refine step_appInts (by rfl) _ _ 22 rfl wq.heap.size j1 Try.underlying22 hi1 ky0 ky1 ky2 _ 0 _ rfl ((own_empty wq.drew wq.heap.size ((below_drewN' (Below.refl _ _) 1 : Below wq.heap.size wq wq.drew)).size).alloc (.cells #[.int .i64 u] 3)) _ X rfl (HXC.out _ hH) (by have := HXL.out; omega) hH.size ?_
                        intro g2 c2 w2 hown2 hgrow2
                        simp only [Nat.zero_add, List.nil_append] at hown2
                        try simp only [Nat.zero_add]
                        have hB2 : Below wq.heap.size wq w2 := hH.grown hgrow2 hH.size (fun k hk => (((own_empty wq.drew wq.heap.size ((below_drewN' (Below.refl _ _) 1 : Below wq.heap.size wq wq.drew)).size).alloc (.cells #[.int .i64 u] 3)).lt k hk).1)
                        have hlit2 := hgrow2.cell LITA.out NEA.out
                        refine hK.out _ _ ?_ (fun hHeld => ?_)
                        · (try dsimp only); exact HKS.out _ hB2
                        clear hK K
                        try simp only [Act.put, List.setIfInBounds_toArray, List.set_cons_zero, List.set_cons_succ]
                        refine wpAnyH_ready (rs := [12]) (by kernel_rfl) (by simp) ?_
                        refine (AllReadyH.cons (o := ({ dst := some 111, op := Op.call { callee := Callee.builtin Builtin.append, args := #[Operand.tmp 105, Operand.tmp 110], argTypes := #[22, 22] }, type := 22, pos := "law.go:88", after := #[{ on := 6, ground := Ground.data }, { on := 11, ground := Ground.data }, { on := 6, ground := Ground.chain }], guard := none } : Oper)) rfl (fun K hK => ?_) AllReadyH.nil)
                        have hH3 := hB2
                        refine step_appInts (by rfl) _ _ 22 rfl wq.heap.size j1 Try.underlying22 hi1 ky0 ky1 ky2 _ X.length _ rfl hown2 _ [u] rfl (seq_cell1 hlit2) (by have := HXL.out; simp; omega) hH3.size ?_
                        intro g4 c4 w6 hown4 hgrow4
                        have hB6 : Below wq.heap.size wq w6 := hH3.grown hgrow4 hH3.size (fun k hk => (hown2.lt k hk).1)
                        have ho6 : w6.ownsRow wq.heap.size 3 1 (.slice g4 (X.length + 1) c4) (X ++ [u]).length (intCells (X ++ [u])) := by rw [intCells_app, List.length_append]; exact hown4
                        have hs6 : SeqC w6 (.slice g4 (X.length + 1) c4) (X ++ [u]) := own_seqC ho6
                        refine hK.out _ _ ?_ (fun hHeld => ?_)
                        · (try dsimp only); exact HKS.out _ hB6
                        clear hK K
                        try simp only [Act.put, List.setIfInBounds_toArray, List.set_cons_zero, List.set_cons_succ]
                        refine wpAnyH_ready (rs := [13]) (by kernel_rfl) (by simp) ?_
                        refine (AllReadyH.cons (o := ({ dst := some 112, op := Op.buildSlice 40 1 #[(0, Operand.tmp 111)], type := 40, pos := "law.go:88", after := #[{ on := 12, ground := Ground.data }], guard := none } : Oper)) rfl (fun K hK => ?_) AllReadyH.nil)
                        go_simp
                        refine hK.out _ _ ?_ (fun hHeld => ?_)
                        · (try dsimp only); exact HKS.out _ (hB6.alloc hB6.size _)
                        clear hK K
                        try simp only [Act.put, List.setIfInBounds_toArray, List.set_cons_zero, List.set_cons_succ]
                        refine wpAnyH_ready (rs := [14]) (by kernel_rfl) (by simp) ?_
                        refine (AllReadyH.cons (o := ({ dst := some 113, op := Op.call { callee := Callee.builtin Builtin.append, args := #[Operand.tmp 99, Operand.tmp 112], argTypes := #[40, 40] }, type := 40, pos := "law.go:88", after := #[{ on := 0, ground := Ground.data }, { on := 13, ground := Ground.data }, { on := 12, ground := Ground.chain }], guard := none } : Oper)) rfl (fun K hK => ?_) AllReadyH.nil)
                        have hBA6 := HBQ.out.trans (hB6.mono HBQ.out.size)
                        have hBA7 := hBA6.alloc hBA6.size (.cells #[.slice g4 (X.length + 1) c4] 22)
                        refine step_app1 (by rfl) _ _ 40 rfl wA.heap.size 22 j2 (.slice none 0 0) 24 Try.underlying40 hi2 kz0 kz1 kz2 rfl _ q _ rfl ((own_below HUS.out hB6 (Nat.le_refl _)).alloc (.cells #[.slice g4 (X.length + 1) c4] 22)) (.slice g4 (X.length + 1) c4) rfl w6.heap.size rfl ((Whole.new w6 22 #[.slice g4 (X.length + 1) c4]).cell 0) (by omega) (by omega) hBA7.size ?_
                        intro g8 c8 w8 hown8 hgrow8
                        have hB8 : Below wA.heap.size wA w8 := hgrow8.below ((own_below HUS.out hB6 (Nat.le_refl _)).alloc (.cells #[.slice g4 (X.length + 1) c4] 22)) hBA7 (Nat.le_refl _) hBA7.size
                        have hR8 : RowsOwn w8 wA.heap.size (.slice g8 (q + 1) c8) (C ++ [X ++ [u]]) := RowsOwn.more (by rw [HQ.out]; exact ((own_below HUS.out hB6 (Nat.le_refl _)).alloc (.cells #[.slice g4 (X.length + 1) c4] 22))) (fun x y M hx hM => (own_below (HRS.out x y M hx hM) hB6 (Nat.le_refl _)).alloc _) (own_base (ho6.alloc (.cells #[.slice g4 (X.length + 1) c4] 22)) HBQ.out.size) (by rw [HQ.out]; exact hown8) hgrow8
                        have hK8 := HKG.out w6 w8 _ _ hB6 hgrow8 hB8
                        obtain ⟨hs8, ha8⟩ := HGA.out w6 w8 _ _ hB6 hgrow8
                        refine hK.out _ _ ?_ (fun hHeld => ?_)
                        · (try dsimp only); exact hK8
                        clear hK K
                        try simp only [Act.put, List.setIfInBounds_toArray, List.set_cons_zero, List.set_cons_succ]
                        refine wpAnyH_take (i := 15) (oi := ({ dst := some 14, op := Op.assign (Operand.tmp 113), type := 40, pos := "law.go:88", after := #[{ on := 14, ground := Ground.data }, { on := 14, ground := Ground.chain }, { on := 0, ground := Ground.phase }, { on := 1, ground := Ground.phase }, { on := 2, ground := Ground.phase }, { on := 3, ground := Ground.phase }, { on := 4, ground := Ground.phase }, { on := 5, ground := Ground.phase }, { on := 6, ground := Ground.phase }, { on := 7, ground := Ground.phase }, { on := 8, ground := Ground.phase }, { on := 9, ground := Ground.phase }, { on := 10, ground := Ground.phase }, { on := 11, ground := Ground.phase }, { on := 12, ground := Ground.phase }, { on := 13, ground := Ground.phase }, { on := 14, ground := Ground.phase }], guard := none } : Oper)) (v := ?vtc11) rfl (by kernel_rfl) (by kernel_rfl) (by kernel_rfl) (fun _ _ _ h => h) (Or.inl ⟨by rfl, ?hytc11⟩) (by assumption) ?resttc11
                        case hytc11 => intro w hSw; (try dsimp only at hSw); go_simp; all_goals (with_reducible rfl)
                        try simp only [Act.put, List.setIfInBounds_toArray, List.set_cons_zero, List.set_cons_succ]
                        refine wpAnyH_done (by kernel_rfl) ?_ _
                        go_wp2_with fail
                        go_roundg (g1 - (j + 1))
                        case rel => exact ⟨j + 1, _, rfl, HJT.out, rfl, by go_num, by rw [HMS.out, ← List.append_assoc, HCC.out]; exact hR8, hB8, hs8, ha8⟩
                        case measure => have := HJT.out; omega
                    · go_simp
                      refine hK.out _ _ ?_ (fun hHeld => ?_)
                      · (try dsimp only); exact HKS.out _ (((below_drewN' (Below.refl _ _) 1 : Below wq.heap.size wq wq.drew)).alloc ((below_drewN' (Below.refl _ _) 1 : Below wq.heap.size wq wq.drew)).size (.cells #[.int .i64 u] 3))
                      clear hK K
                      try simp only [Act.put, List.setIfInBounds_toArray, List.set_cons_zero, List.set_cons_succ]
                      refine wpAnyH_ready (rs := [1]) (by kernel_rfl) (by simp) ?_
                      refine (AllReadyH.cons (o := ({ dst := some 100, op := Op.buildSlice 22 0 #[], type := 22, pos := "law.go:88", after := #[], guard := none } : Oper)) rfl (fun K hK => ?_) AllReadyH.nil)
                      go_simp
                      refine hK.out _ _ ?_ (fun hHeld => ?_)
                      · (try dsimp only); exact HKS.out _ ((((below_drewN' (Below.refl _ _) 1 : Below wq.heap.size wq wq.drew)).alloc ((below_drewN' (Below.refl _ _) 1 : Below wq.heap.size wq wq.drew)).size (.cells #[.int .i64 u] 3)).alloc (((below_drewN' (Below.refl _ _) 1 : Below wq.heap.size wq wq.drew)).alloc ((below_drewN' (Below.refl _ _) 1 : Below wq.heap.size wq wq.drew)).size (.cells #[.int .i64 u] 3)).size (.cells #[] 3))
                      clear hK K
                      try simp only [Act.put, List.setIfInBounds_toArray, List.set_cons_zero, List.set_cons_succ]
                      refine wpAnyH_ready (rs := [6]) (by kernel_rfl) (by simp) ?_
                      refine (AllReadyH.cons (o := ({ dst := some 105, op := Op.call { callee := Callee.builtin Builtin.append, args := #[Operand.tmp 100, Operand.tmp 104], argTypes := #[22, 22] }, type := 22, pos := "law.go:88", after := #[{ on := 1, ground := Ground.data }, { on := 5, ground := Ground.data }], guard := none } : Oper)) rfl (fun K hK => ?_) AllReadyH.nil)
                      have hH := ((((below_drewN' (Below.refl _ _) 1 : Below wq.heap.size wq wq.drew)).alloc ((below_drewN' (Below.refl _ _) 1 : Below wq.heap.size wq wq.drew)).size (.cells #[.int .i64 u] 3)).alloc (((below_drewN' (Below.refl _ _) 1 : Below wq.heap.size wq wq.drew)).alloc ((below_drewN' (Below.refl _ _) 1 : Below wq.heap.size wq wq.drew)).size (.cells #[.int .i64 u] 3)).size (.cells #[] 3))
                      refine step_appInts (by rfl) _ _ 22 rfl wq.heap.size j1 Try.underlying22 hi1 ky0 ky1 ky2 _ 0 _ rfl OWN3.out _ X rfl (HXC.out _ hH) (by have := HXL.out; omega) hH.size ?_
                      intro g2 c2 w2 hown2 hgrow2
                      simp only [Nat.zero_add, List.nil_append] at hown2
                      try simp only [Nat.zero_add]
                      have hB2 : Below wq.heap.size wq w2 := hH.grown hgrow2 hH.size (fun k hk => (OWN3.out.lt k hk).1)
                      have hlit2 := hgrow2.cell LITB.out NEB.out
                      refine hK.out _ _ ?_ (fun hHeld => ?_)
                      · (try dsimp only); exact HKS.out _ hB2
                      clear hK K
                      try simp only [Act.put, List.setIfInBounds_toArray, List.set_cons_zero, List.set_cons_succ]
                      refine wpAnyH_ready (rs := [12]) (by kernel_rfl) (by simp) ?_
                      refine (AllReadyH.cons (o := ({ dst := some 111, op := Op.call { callee := Callee.builtin Builtin.append, args := #[Operand.tmp 105, Operand.tmp 110], argTypes := #[22, 22] }, type := 22, pos := "law.go:88", after := #[{ on := 6, ground := Ground.data }, { on := 11, ground := Ground.data }, { on := 6, ground := Ground.chain }], guard := none } : Oper)) rfl (fun K hK => ?_) AllReadyH.nil)
                      have hH3 := hB2
                      refine step_appInts (by rfl) _ _ 22 rfl wq.heap.size j1 Try.underlying22 hi1 ky0 ky1 ky2 _ X.length _ rfl hown2 _ [u] rfl (seq_cell1 hlit2) (by have := HXL.out; simp; omega) hH3.size ?_
                      intro g4 c4 w6 hown4 hgrow4
                      have hB6 : Below wq.heap.size wq w6 := hH3.grown hgrow4 hH3.size (fun k hk => (hown2.lt k hk).1)
                      have ho6 : w6.ownsRow wq.heap.size 3 1 (.slice g4 (X.length + 1) c4) (X ++ [u]).length (intCells (X ++ [u])) := by rw [intCells_app, List.length_append]; exact hown4
                      have hs6 : SeqC w6 (.slice g4 (X.length + 1) c4) (X ++ [u]) := own_seqC ho6
                      refine hK.out _ _ ?_ (fun hHeld => ?_)
                      · (try dsimp only); exact HKS.out _ hB6
                      clear hK K
                      try simp only [Act.put, List.setIfInBounds_toArray, List.set_cons_zero, List.set_cons_succ]
                      refine wpAnyH_ready (rs := [13]) (by kernel_rfl) (by simp) ?_
                      refine (AllReadyH.cons (o := ({ dst := some 112, op := Op.buildSlice 40 1 #[(0, Operand.tmp 111)], type := 40, pos := "law.go:88", after := #[{ on := 12, ground := Ground.data }], guard := none } : Oper)) rfl (fun K hK => ?_) AllReadyH.nil)
                      go_simp
                      refine hK.out _ _ ?_ (fun hHeld => ?_)
                      · (try dsimp only); exact HKS.out _ (hB6.alloc hB6.size _)
                      clear hK K
                      try simp only [Act.put, List.setIfInBounds_toArray, List.set_cons_zero, List.set_cons_succ]
                      refine wpAnyH_ready (rs := [14]) (by kernel_rfl) (by simp) ?_
                      refine (AllReadyH.cons (o := ({ dst := some 113, op := Op.call { callee := Callee.builtin Builtin.append, args := #[Operand.tmp 99, Operand.tmp 112], argTypes := #[40, 40] }, type := 40, pos := "law.go:88", after := #[{ on := 0, ground := Ground.data }, { on := 13, ground := Ground.data }, { on := 12, ground := Ground.chain }], guard := none } : Oper)) rfl (fun K hK => ?_) AllReadyH.nil)
                      have hBA6 := HBQ.out.trans (hB6.mono HBQ.out.size)
                      have hBA7 := hBA6.alloc hBA6.size (.cells #[.slice g4 (X.length + 1) c4] 22)
                      refine step_app1 (by rfl) _ _ 40 rfl wA.heap.size 22 j2 (.slice none 0 0) 24 Try.underlying40 hi2 kz0 kz1 kz2 rfl _ q _ rfl ((own_below HUS.out hB6 (Nat.le_refl _)).alloc (.cells #[.slice g4 (X.length + 1) c4] 22)) (.slice g4 (X.length + 1) c4) rfl w6.heap.size rfl ((Whole.new w6 22 #[.slice g4 (X.length + 1) c4]).cell 0) (by omega) (by omega) hBA7.size ?_
                      intro g8 c8 w8 hown8 hgrow8
                      have hB8 : Below wA.heap.size wA w8 := hgrow8.below ((own_below HUS.out hB6 (Nat.le_refl _)).alloc (.cells #[.slice g4 (X.length + 1) c4] 22)) hBA7 (Nat.le_refl _) hBA7.size
                      have hR8 : RowsOwn w8 wA.heap.size (.slice g8 (q + 1) c8) (C ++ [X ++ [u]]) := RowsOwn.more (by rw [HQ.out]; exact ((own_below HUS.out hB6 (Nat.le_refl _)).alloc (.cells #[.slice g4 (X.length + 1) c4] 22))) (fun x y M hx hM => (own_below (HRS.out x y M hx hM) hB6 (Nat.le_refl _)).alloc _) (own_base (ho6.alloc (.cells #[.slice g4 (X.length + 1) c4] 22)) HBQ.out.size) (by rw [HQ.out]; exact hown8) hgrow8
                      have hK8 := HKG.out w6 w8 _ _ hB6 hgrow8 hB8
                      obtain ⟨hs8, ha8⟩ := HGA.out w6 w8 _ _ hB6 hgrow8
                      refine hK.out _ _ ?_ (fun hHeld => ?_)
                      · (try dsimp only); exact hK8
                      clear hK K
                      try simp only [Act.put, List.setIfInBounds_toArray, List.set_cons_zero, List.set_cons_succ]
                      refine wpAnyH_take (i := 15) (oi := ({ dst := some 14, op := Op.assign (Operand.tmp 113), type := 40, pos := "law.go:88", after := #[{ on := 14, ground := Ground.data }, { on := 14, ground := Ground.chain }, { on := 0, ground := Ground.phase }, { on := 1, ground := Ground.phase }, { on := 2, ground := Ground.phase }, { on := 3, ground := Ground.phase }, { on := 4, ground := Ground.phase }, { on := 5, ground := Ground.phase }, { on := 6, ground := Ground.phase }, { on := 7, ground := Ground.phase }, { on := 8, ground := Ground.phase }, { on := 9, ground := Ground.phase }, { on := 10, ground := Ground.phase }, { on := 11, ground := Ground.phase }, { on := 12, ground := Ground.phase }, { on := 13, ground := Ground.phase }, { on := 14, ground := Ground.phase }], guard := none } : Oper)) (v := ?vtc12) rfl (by kernel_rfl) (by kernel_rfl) (by kernel_rfl) (fun _ _ _ h => h) (Or.inl ⟨by rfl, ?hytc12⟩) (by assumption) ?resttc12
                      case hytc12 => intro w hSw; (try dsimp only at hSw); go_simp; all_goals (with_reducible rfl)
                      try simp only [Act.put, List.setIfInBounds_toArray, List.set_cons_zero, List.set_cons_succ]
                      refine wpAnyH_done (by kernel_rfl) ?_ _
                      go_wp2_with fail
                      go_roundg (g1 - (j + 1))
                      case rel => exact ⟨j + 1, _, rfl, HJT.out, rfl, by go_num, by rw [HMS.out, ← List.append_assoc, HCC.out]; exact hR8, hB8, hs8, ha8⟩
                      case measure => have := HJT.out; omega
                  · obtain rfl : g1 = j := by omega
                    have t4 : decide (g1 < g1) = false := by simp
                    have HFIN : Hid (((R.take (i + 1)).flatMap fun l => (growL n (adj S) l).map fun v => l ++ [v]) = C) := Lib.hid (by
                      rw [HFS.out, ← hC, List.take_of_length_le (by rw [HG1.out]; exact Nat.le_refl _)])
                    clear hbq hsg hap hC hjt hro
                    go_wp2_with fail
                    go_roundg (r - (i + 1))
                    case rel => exact ⟨i + 1, HIT.out, rfl, by go_num, _, rfl, by rw [HFIN.out]; exact HRO2.out, HBQ.out⟩
                    case measure => have := HIT.out; omega
              · obtain rfl : r = i := by omega
                have t3 : decide (r < r) = false := by simp
                have hrr : ((R.take r).flatMap fun l => (growL n (adj S) l).map fun v => l ++ [v]) = rowL n (adj S) (K + 1) := by
                  rw [List.take_of_length_le (by rw [HR.out]; exact Nat.le_refl _), ← HNX.out, HKK.out]
                have HNR := Lib.hid (cast (congrArg (ListsV wi (.slice Ai ((R.take r).flatMap fun l => (growL n (adj S) l).map fun v => l ++ [v]).length ci)) hrr) HRO.out.lists)
                clear hrr
                have HB3I := Lib.hid hb3i
                clear hro hbi hb3i hit
                go_wp2_with fail
                go_roundg (5 - (K + 1))
                case rel => exact ⟨K + 1, kk + 1, _, rfl, HK5.out, by rw [HKK.out], rfl, by have := HKK.out; have := HK5.out; go_num, HNR.out, HB3I.out⟩
                case measure => have := HK5.out; omega
      · obtain rfl : K = 5 := by omega
        subst hkk
        have HEND := Lib.hid (HB3.out.trans (hbk.mono HB3.out.size))
        clear hbk hrow hk5 hK
        go_wp2_with fail
        go_ret
        exact ⟨rfl, HEND.out⟩
end Go.Proofs.Ytploaffmhemjkaa
