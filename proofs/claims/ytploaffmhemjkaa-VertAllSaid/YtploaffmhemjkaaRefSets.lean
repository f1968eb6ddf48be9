/- The document's Sets. -/
import Derived.Test.YtploaffmhemjkaaAllVP
import Derived.Test.YtploaffmhemjkaaRefT4
import Derived.BigQuiet
import Derived.Deep.RegionHeld3
import Derived.Deep.DrawnRows
import Derived.Deep.CutBlock
namespace Go.Proofs.Ytploaffmhemjkaa
open Go.RowKit

theorem picksR_len : ∀ (S : List Int) (k : Nat), (picksR S k).length ≤ 2 ^ S.length
  | S, 0 => by rw [picksR_zero]; exact Nat.one_le_two_pow
  | [], k + 1 => by rw [picksR]; simp
  | x :: t, k + 1 => by
    have h1 := picksR_len t k
    have h2 := picksR_len t (k + 1)
    rw [picksR, List.length_append, List.length_map, List.length_cons, Nat.pow_succ]
    omega
/-- A row of the call's own whose elements are lists of an elder world. -/
def RowsIn (W w : World) (v : Value) (F : List (List Int)) : Prop :=
  ∃ us : List Value, w.ownsRow W.heap.size 22 1 v F.length us ∧ (∀ (j : Nat) (u : Value) (M : List Int), us[j]? = some u → F[j]? = some M → SeqC W u M) ∧ Below W.heap.size W w
theorem RowsIn.lists {W w : World} {v : Value} {F : List (List Int)} (h : RowsIn W w v F) : ListsV w v F := by
  obtain ⟨us, h, hr, hb⟩ := h
  have hl : us.length = F.length := by have := h.1; simpa using this
  refine ⟨us, hl, fun i u L hu hL => (hr i u L hu hL).below hb (Nat.le_refl _), ?_⟩
  have h0 := h
  rcases h.2 with ⟨rfl, h1⟩ | ⟨g, cap, cur, rfl, _, hh, hcap, _⟩
  · exact Or.inl ⟨List.eq_nil_of_length_eq_zero h1, _, _, rfl⟩
  · rcases Nat.eq_zero_or_pos F.length with h3 | h3
    · exact Or.inl ⟨List.eq_nil_of_length_eq_zero h3, _, _, by rw [h3]⟩
    · refine Or.inr ⟨h3, g, 0, cap, rfl, fun i hi => ?_⟩
      rw [Nat.zero_add, h0.cellAt i (by omega)]
theorem rows_snoc {W : World} {us : List Value} {F : List (List Int)} {u : Value} {M : List Int} (hl : us.length = F.length) (hr : ∀ (j : Nat) (u : Value) (M : List Int), us[j]? = some u → F[j]? = some M → SeqC W u M) (hu : SeqC W u M) :
    ∀ (j : Nat) (x : Value) (N : List Int), (us ++ [u])[j]? = some x → (F ++ [M])[j]? = some N → SeqC W x N := by
  intro j x N hx hN
  rcases Nat.lt_or_ge j F.length with hj | hj
  · rw [List.getElem?_append_left (by omega)] at hx hN
    exact hr j x N hx hN
  · rw [List.getElem?_append_right (by omega)] at hx hN
    rcases (by omega : j = F.length ∨ F.length < j) with rfl | h1
    · rw [hl, Nat.sub_self] at hx
      rw [Nat.sub_self] at hN
      simp at hx hN
      subst hx hN
      exact hu
    · rw [List.getElem?_eq_none (by simp; omega)] at hx
      cases hx
/-- What the document's Sets has found. -/
def SetsSt (W : World) (n : Nat) (b : Int → Int → Bool) (P : List (List Int)) (gh : Nat) (ov yv : Value) (wr : World) : Prop :=
  ∃ i V, V = wr ∧ i ≤ P.length ∧ gh = P.length - i ∧ yv = .int .i64 (i : Nat) ∧ RowsIn W V ov ((P.take i).filter fun s => (listL n b s).isSome)

set_option maxRecDepth 100000 in
set_option maxHeartbeats 4000000 in
theorem refSets_any (S : List (Int × Int)) (L : List Int) (vl ve : Value) (n k : Nat) (w : World) (hl : SeqV w vl L) (hn : L.length = n) (hn7 : n ≤ 7) (hk7 : k ≤ 7) (he : EdgesV w ve S) (hS : S.length ≤ 1000) :
    Calls Try.prog 22 #[.agg #[vl, ve], .int .i64 k] w fun e w' => ∃ v', e = .returned v' ∧ ListsV w' v' (setsL n (adj S) k) ∧ Below w.heap.size w w' := by
  obtain ⟨i0, hi0, hz0, hz1, hz2⟩ := info_parts Try.infoInt6
  obtain ⟨j1, hi1, ky0, ky1, ky2⟩ := info_parts Try.infoRow
  obtain ⟨Al, cl, rfl⟩ := IntsV.form hl
  rw [hn] at hl ⊢
  have hb0 : Below w.heap.size w (w.alloc (.cells #[.slice Al n cl, ve] 27)) := (Below.refl _ _).alloc (Nat.le_refl _) _
  have hG := Whole.new w 27 #[.slice Al n cl, ve]
  obtain ⟨w0, hw0⟩ : ∃ W, w.alloc (.cells #[.slice Al n cl, ve] 27) = W := ⟨_, rfl⟩
  obtain ⟨gb, hgb⟩ : ∃ b, w.heap.size = b := ⟨_, rfl⟩
  rw [hw0] at hb0 hG
  rw [hgb] at hG
  have HOW := Lib.hid (World.ownsRow_nil w0 w0.heap.size 3 1)
  have HE := Lib.hid (he.below hb0 (Nat.le_refl _)); have HL := Lib.hid (hl.below hb0 (Nat.le_refl _))
  have HB0 := Lib.hid hb0; have HG := Lib.hid hG; have HW0 := Lib.hid hw0; have HGB := Lib.hid hgb; have HN := Lib.hid hn
  clear hl he hb0 hG hw0 hgb hn
  go_enter Try.func22, Try.ntmps22
  go_wp2_with fail
  rw [HW0.out, HGB.out]
  go_loopg [5, 6] n (fun gh rv yv wr => ∃ i, i ≤ n ∧ gh = n - i ∧ yv = .int .i64 (i : Nat) ∧ Below w0.heap.size w0 wr ∧ wr.ownsRow w0.heap.size 3 1 rv i (intCells (idsL i)))
  case atStart => exact ⟨0, Nat.zero_le _, rfl, rfl, Below.refl _ _, HOW.out⟩
  case round =>
    obtain ⟨i, hi, rfl, rfl, hB, hown⟩ := hrel
    obtain ⟨Ao, co, rfl⟩ := own_form hown
    have hGr := HG.out.below hB HG.out.lt
    have c0 : wr.cell? ⟨gb, 0, none⟩ = some (.slice Al n cl) := hGr.cell 0
    have HBi := Lib.hid hB; have HO := Lib.hid hown
    by_cases hlt : i < n
    · have hs1 := hB.size
      have t3 : decide (i < n) = true := decide_eq_true hlt
      have i1 : (i : Int) < n := by omega
      have i2 : (0 : Int) ≤ i := by omega
      have HLT := Lib.hid hlt
      clear hB hown hGr hlt
      go_wp2_with (at_builtin; refine wpList_app1g _ rfl _ _ 22 rfl w0.heap.size 3 i0 (.int .i64 0) 8 Try.underlying22 hi0 hz0 hz1 hz2 rfl _ i _ rfl HO.out _ rfl rfl (by omega) (by omega) hs1 ?_)
      intro A3 c3 w3 hown3 hgrow3
      have hb3 : Below w0.heap.size w0 w3 := hgrow3.below HO.out HBi.out (Nat.le_refl _) hs1
      have HOW3 := Lib.hid hown3; have HB3 := Lib.hid hb3
      clear hown3 hgrow3 hb3
      go_wp2_with fail
      go_roundg (n - (i + 1))
      case rel => exact ⟨i + 1, HLT.out, rfl, by go_num, HB3.out, by rw [idsL_succ, intCells_app]; exact HOW3.out⟩
      case measure => have := HLT.out; omega
    · obtain rfl : n = i := by omega
      have t3 : decide (n < n) = false := by simp
      have RP := Lib.hid (refPicks_any (idsL n) k _ wr (own_seq hown) (idsL_rising n) (by rw [idsL_len]; omega))
      clear hlt hB hown hGr
      go_wp2_with fail
      refine RP.out.mono ?_; rintro e w2 ⟨v2, O, rfl, hup, hls, hb2⟩
      have hO := hup.all (idsL_rising n)
      subst hO
      have hBw := HBi.out.trans (hb2.mono HBi.out.size)
      obtain ⟨Ap, cp, rfl⟩ := hls.form
      have hpl : (picksL (idsL n) k).length ≤ 128 := by
        rw [picksL_R]
        refine Nat.le_trans (picksR_len _ _) ?_
        rw [idsL_len]
        exact Nat.le_trans (Nat.pow_le_pow_right (by omega) hn7) (by decide)
      have hsl : setsL n (adj S) k = (picksL (idsL n) k).filter fun s => (listL n (adj S) s).isSome := rfl
      obtain ⟨P, hP⟩ : ∃ P, picksL (idsL n) k = P := ⟨_, rfl⟩
      rw [hP] at hls hpl hsl ⊢
      have hmem : ∀ (i : Nat) (hi : i < P.length), P[i].length ≤ 7 := fun i hi => by
        have h := List.getElem_mem hi
        have h2 : P[i] ∈ picksL (idsL n) k := by rw [hP]; exact h
        rw [picksL_R, picksR_mem] at h2
        omega
      have HLS := Lib.hid hls; have HPL := Lib.hid hpl; have HSL := Lib.hid hsl; have HMEM := Lib.hid hmem
      have HG2 := Lib.hid (HG.out.below hBw HG.out.lt); have HE2 := Lib.hid (HE.out.below hBw (Nat.le_refl _)); have HL2 := Lib.hid (HL.out.below hBw (Nat.le_refl _))
      have HB2 := Lib.hid (HB0.out.trans (hBw.mono HB0.out.size))
      have HST : Hid (SetsSt w2 n (adj S) P P.length (.slice none 0 0) (.int .i64 0) w2) := Lib.hid ⟨0, _, rfl, Nat.zero_le _, rfl, rfl, [], World.ownsRow_nil _ _ _ _, fun j u M h => by simp at h, Below.refl _ _⟩
      obtain ⟨pl, hpl2⟩ : ∃ pl, P.length = pl := ⟨_, rfl⟩
      rw [hpl2] at HST HLS hpl ⊢
      have HPL2 := Lib.hid hpl2
      clear hup hls hb2 hBw hsl hP hmem hpl2
      go_wp2_with fail
      go_loopg [8, 9] pl (fun gh ov yv wr => SetsSt w2 n (adj S) P gh ov yv wr)
      case atStart => exact HST.out
      case round =>
        obtain ⟨i, wq, rfl, hi, rfl, rfl, us, hus, hrs, hbq⟩ := hrel
        rw [HPL2.out] at hi
        obtain ⟨Au, cu, rfl⟩ := own_form hus
        have HBQ := Lib.hid hbq
        obtain ⟨F, hF⟩ : ∃ F, ((P.take i).filter fun s => (listL n (adj S) s).isSome) = F := ⟨_, rfl⟩
        have hFl : F.length ≤ 128 := by
          rw [← hF]
          refine Nat.le_trans (List.length_filter_le _ _) ?_
          rw [List.length_take]
          have := HPL.out
          omega
        rw [hF] at hus hrs ⊢
        by_cases hit : i < pl
        · have hiP : i < P.length := by rw [HPL2.out]; exact hit
          obtain ⟨bp, op, u, hAp, hu, hsu⟩ := (HLS.out.below hbq (Nat.le_refl _)).pos hiP
          obtain ⟨bp', op', u', hAp', hu', hsu'⟩ := HLS.out.pos hiP
          have hG2 := HG2.out.below hbq HG2.out.lt
          have c0 : wq.cell? ⟨gb, 0, none⟩ = some (.slice Al n cl) := hG2.cell 0
          have c1 : wq.cell? ⟨gb, 1, none⟩ = some ve := hG2.cell 1
          have hlg := cellLt c0
          have hlu := cellLt hu
          subst hAp
          injection hAp' with hAp'
          injection hAp' with e1 e2
          subst e1 e2
          have huu : u' = u := by
            have h := (hbq.cell (p := ⟨bp, op + i, none⟩) (cellLt hu')).trans hu'
            rw [hu] at h
            injection h with h
            exact h.symm
          subst huu
          have hst := setsL_step (n := n) (b := adj S) hiP
          rw [hF] at hst
          have hm7 := HMEM.out i hiP
          obtain ⟨M, hM⟩ : ∃ M, P[i] = M := ⟨_, rfl⟩
          rw [hM] at hsu hsu' hst hm7
          obtain ⟨z, hz⟩ : ∃ z, (listL n (adj S) M).isSome = z := ⟨_, rfl⟩
          rw [hz] at hst
          have hLC := fun (W : World) (hb : Below wq.heap.size wq W) => (refList_any S L M (.slice Al n cl) ve u' n W (HL2.out.below (hbq.trans (hb.mono hbq.size)) (Nat.le_refl _)) HN.out (HE2.out.below (hbq.trans (hb.mono hbq.size)) (Nat.le_refl _)) hS (hsu.below hb (Nat.le_refl _)).1 (by omega)).mono (fun e w' hh => (show ∃ v, e = .returned (.tuple #[v, .bool z]) ∧ Below wq.heap.size wq w' by
            obtain ⟨v, h1, h2, h3⟩ := hh
            rw [hz] at h1
            exact ⟨v, h1, hb.trans (h3.mono hb.size)⟩))
          have HLC := Lib.hid hLC
          have HKS := Lib.hid (fun (W : World) (hb : Below wq.heap.size wq W) => (show Below wq.heap.size wq W ∧ W.cell? ⟨gb, 0, none⟩ = some (.slice Al n cl) ∧ W.cell? ⟨gb, 1, none⟩ = some ve ∧ W.cell? ⟨bp, op + i, none⟩ = some u' from ⟨hb, (hb.cell (p := ⟨gb, 0, none⟩) hlg).trans c0, (hb.cell (p := ⟨gb, 1, none⟩) hlg).trans c1, (hb.cell (p := ⟨bp, op + i, none⟩) hlu).trans hu⟩))
          have HST2 := Lib.hid hst; have HSU := Lib.hid hsu'; have HUS := Lib.hid hus; have HRS := Lib.hid hrs; have HIT := Lib.hid hit
          obtain ⟨_, A', c', rfl, _⟩ := id hsu
          obtain ⟨fl, hfl⟩ : ∃ fl, F.length = fl := ⟨_, rfl⟩
          have HFL := Lib.hid hfl
          rw [hfl] at HUS hFl ⊢
          have t3 : decide (i < pl) = true := decide_eq_true hit
          have i1 : (i : Int) < pl := by omega
          have i2 : (0 : Int) ≤ i := by omega
          clear hus hrs hbq hF hit hiP hu hsu hu' hsu' hG2 c0 c1 hlg hlu hst hM hz hLC hfl
          go_upto_region 11 with fail
          go_cut [11] (fun y wx => y = .bool z ∧ CutW wq wx)
          case first =>
            go_region_held3 (fun w' => Below wq.heap.size wq w' ∧ w'.cell? ⟨gb, 0, none⟩ = some (.slice Al n cl) ∧ w'.cell? ⟨gb, 1, none⟩ = some ve ∧ w'.cell? ⟨bp, op + i, none⟩ = some (.slice A' M.length c'))
              (exact HKS.out _ (by first | assumption | exact below_drewN' (Below.refl _ _) _))
              (first
                | (go_at_call 11; refine (HLC.out _ (by first | assumption | exact below_drewN' (Below.refl _ _) _)).mono ?_; rintro e' wT ⟨vT, rfl, hBT⟩))
            all_goals
              go_wp2
              go_meet
              exact ⟨rfl, _, rfl, by assumption⟩
          case rest =>
            obtain ⟨rfl, wz, rfl, hbz⟩ := hcut
            have huz := (HKS.out _ hbz).2.2.2
            have hBZ := HBQ.out.trans (hbz.mono HBQ.out.size)
            have HBZ := Lib.hid hBZ
            have HUZ := Lib.hid (own_below HUS.out hbz (Nat.le_refl _))
            have hs1 := hBZ.size
            clear hbz hBZ
            cases z with
            | false =>
              have HF2 : Hid (((P.take (i + 1)).filter fun s => (listL n (adj S) s).isSome) = F) := Lib.hid (by have h := HST2.out; rwa [if_neg Bool.false_ne_true, List.append_nil] at h)
              go_wp2_with fail
              go_roundg (pl - (i + 1))
              case rel => exact ⟨i + 1, _, rfl, by rw [HPL2.out]; exact HIT.out, by rw [HPL2.out], by go_num, us, by rw [HF2.out, HFL.out]; exact HUZ.out, by rw [HF2.out]; exact HRS.out, HBZ.out⟩
              case measure => have := HIT.out; have := HPL2.out; omega
            | true =>
              have HF2 : Hid (((P.take (i + 1)).filter fun s => (listL n (adj S) s).isSome) = F ++ [M]) := Lib.hid HST2.out
              go_wp2_with (at_builtin; refine wpList_app1g _ rfl _ _ 40 rfl w2.heap.size 22 j1 (.slice none 0 0) 24 Try.underlying40 hi1 ky0 ky1 ky2 rfl _ fl _ rfl HUZ.out _ rfl rfl (by omega) (by omega) hs1 ?_)
              intro A3 c3 w23 hown3 hgrow3
              have HB23 := Lib.hid (hgrow3.below HUZ.out HBZ.out (Nat.le_refl _) hs1)
              have HR23 := Lib.hid (rows_snoc (by have h := HUS.out.1; rw [HFL.out]; simpa using h) HRS.out HSU.out)
              have HOW3 := Lib.hid hown3
              clear hown3 hgrow3
              go_wp2_with fail
              go_roundg (pl - (i + 1))
              case rel => exact ⟨i + 1, _, rfl, by rw [HPL2.out]; exact HIT.out, by rw [HPL2.out], by go_num, _, by rw [HF2.out, List.length_append, HFL.out]; exact HOW3.out, by rw [HF2.out]; exact HR23.out, HB23.out⟩
              case measure => have := HIT.out; have := HPL2.out; omega
        · obtain rfl : pl = i := by omega
          have t3 : decide (pl < pl) = false := by simp
          have hfin : ListsV wq (.slice Au F.length cu) (setsL n (adj S) k) := by
            rw [HSL.out, show P.filter (fun s => (listL n (adj S) s).isSome) = F by rw [← hF, List.take_of_length_le (by rw [HPL2.out]; exact Nat.le_refl _)]]
            exact RowsIn.lists ⟨us, hus, hrs, hbq⟩
          have HFIN := Lib.hid hfin
          have HEND := Lib.hid (HB2.out.trans (hbq.mono HB2.out.size))
          clear hus hrs hbq hF hit hfin
          go_wp2_with fail
          go_ret
          exact ⟨_, rfl, HFIN.out, HEND.out⟩
end Go.Proofs.Ytploaffmhemjkaa
