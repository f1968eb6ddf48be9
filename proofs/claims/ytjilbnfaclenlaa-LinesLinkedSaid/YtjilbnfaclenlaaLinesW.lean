/- lines: appendPairs, Of. -/
import Derived.Test.YtjilbnfaclenlaaLaw0
namespace Go.Proofs.Ytjilbnfaclenlaa
open Go.RowKit

theorem drop_cons {l : List Int} {i : Nat} (h : i < l.length) : l.drop i = l.getD i 0 :: l.drop (i + 1) := by
  rw [List.drop_eq_getElem_cons h]
  simp [List.getD, h]
theorem zeros_seqL (w : World) (t : TypeId) (k : Nat) : SeqV (w.alloc (.cells (madeCells #[.int .i64 0] k) t)) (.slice (some ⟨w.heap.size, 0, none⟩) k k) (List.replicate k 0) := by
  rcases Nat.eq_zero_or_pos k with h | h
  · subst h; exact Or.inl ⟨rfl, _, _, rfl⟩
  · have := seq_block (L := List.replicate k 0) (Whole.new w t (madeCells #[.int .i64 0] k)) (by rw [toList_madeCells_one]; simp [intCells]) (by simpa using h) k
    rwa [List.length_replicate] at this
theorem fault_zerosL (k : Nat) {E : List (Int × Int)} (hE : E.length ≤ 16384) (hg : Good k E) (hk : k ≤ 4096) : newFault (List.replicate k 0) E = none :=
  newFault_none.2 ⟨by simpa using hk, hE, fun x hx => by rw [List.eq_of_mem_replicate hx]; omega, by simpa using hg⟩

set_option maxRecDepth 100000 in
set_option maxHeartbeats 2000000 in
theorem appendPairs_any (P : List (Int × Int)) (ids : List Int) (v vi : Value) (w : World) (base b' : Nat) (hv : w.ownsRow base 40 2 v P.length (eL P)) (hi : w.ownsRow b' 3 1 vi ids.length (intCells ids)) (hbase : base ≤ w.heap.size)
    (hsum : P.length + (prs ids).length ≤ 16384) (hids : ids.length ≤ 1000000) :
    Calls Try.prog 30 #[v, vi] w fun e w' => ∃ v', e = .returned v' ∧ w'.ownsRow base 40 2 v' (P ++ prs ids).length (eL (P ++ prs ids)) ∧ Grew w v w' v' := by
  obtain ⟨j0, hj0, hz0, hz1, hz2⟩ := info_parts Try.infoAE
  obtain ⟨A, c, rfl⟩ := own_form hv
  obtain ⟨Ai, ci, rfl⟩ := own_form hi
  obtain ⟨n, hn⟩ : ∃ n, ids.length = n := ⟨_, rfl⟩
  obtain ⟨r, hr⟩ : ∃ r, P.length = r := ⟨_, rfl⟩
  obtain ⟨T, hT⟩ : ∃ T, P ++ prs ids = T := ⟨_, rfl⟩
  have htl : T.length ≤ 16384 := by rw [← hT, List.length_append]; omega
  have hcap := own_cap hi
  rw [hn] at hi hids hcap ⊢
  rw [hr] at hv ⊢
  rw [hT]
  have HN := Lib.hid hn; have HV := Lib.hid hv; have HI := Lib.hid hi; have HTL := Lib.hid htl; have HT := Lib.hid hT; have HR := Lib.hid hr
  clear hn hr hT hv hi hsum htl
  go_enter Try.func30, Try.ntmps30
  go_wp2_with fail
  go_loopg [0, 11] n (fun gh rv yv wr => ∃ (i : Nat) (Q : List (Int × Int)), i ≤ n ∧ gh = n - i ∧ yv = .int .i64 (i : Nat) ∧ Q ++ prs (ids.drop i) = T ∧ wr.ownsRow base 40 2 rv Q.length (eL Q) ∧ Grew w (.slice A r c) wr rv)
  case atStart => exact ⟨0, P, Nat.zero_le _, rfl, rfl, by rw [List.drop_zero]; exact HT.out, by rw [HR.out]; exact HV.out, Grew.refl _ _⟩
  case round =>
    obtain ⟨i, Q, hi', rfl, rfl, hQ, hown, hgr⟩ := hrel
    obtain ⟨A2, c2, rfl⟩ := own_form hown
    by_cases hlt : i < n
    · have hiL : i < ids.length := by rw [HN.out]; exact hlt
      have hir := HI.out.kept hgr.1 (own_apart HI.out HV.out (by decide))
      have hsi := own_seq hir
      obtain ⟨bi, oi, rfl, hc⟩ := SeqV.pos hsi hiL
      obtain ⟨a, ha⟩ : ∃ a, ids.getD i 0 = a := ⟨_, rfl⟩
      rw [ha] at hc
      have hQ2 : Q ++ ((ids.drop (i + 1)).drop 0).map (fun b => (a, b)) ++ prs (ids.drop (i + 1)) = T := by
        rw [← hQ, drop_cons hiL, ha, List.drop_zero, List.append_assoc]
        rfl
      have t3 : decide (i < n) = true := decide_eq_true hlt
      have i1 : (i : Int) < n := by omega
      have i2 : (0 : Int) ≤ i := by omega
      have i3 : (i : Int) + 1 ≤ n := by omega
      have i4 : (0 : Int) ≤ (i : Int) + 1 := by omega
      have hs := hgr.1.size
      have HQ2 := Lib.hid hQ2; have HOW := Lib.hid hown; have HGR := Lib.hid hgr; have HIR := Lib.hid hir; have HLT := Lib.hid hlt
      clear hQ hQ2 hown hgr hir hsi hiL ha hlt
      have HAP := Lib.hid (own_cap HIR.out)
      by_cases hck : i + 1 = ci
      · have hnn : n = i + 1 := by have := HAP.out; omega
        subst hnn
        subst hck
        go_wp2_with fail
        go_loopg [0, 21] 0 (fun gh rv yv wr' => gh = 0 ∧ rv = .slice A2 Q.length c2 ∧ yv = .int .i64 0 ∧ wr' = wr)
        case atStart => exact ⟨rfl, rfl, rfl, rfl⟩
        case round =>
          obtain ⟨rfl, rfl, rfl, rfl⟩ := hrel
          have t4 : decide ((0 : Int) < 0) = false := by decide
          go_wp2_with fail
          go_roundg (i + 1 - (i + 1))
          case rel =>
            have hd : ids.drop (i + 1) = [] := List.drop_of_length_le (by rw [HN.out]; omega)
            have := HQ2.out
            rw [hd] at this
            exact ⟨i + 1, Q, Nat.le_refl _, rfl, by go_num, by rw [hd]; simpa [prs] using this, HOW.out, HGR.out⟩
          case measure => omega
      · have hck' : ¬ ci = i + 1 := fun h => hck h.symm
        have hck2 : ¬ (i : Int) + 1 = ci := by omega
        have hck3 : ¬ (ci : Int) = (i : Int) + 1 := by omega
        have i5 : (i : Int) + 1 ≤ ci := by have := HAP.out; omega
        obtain ⟨r2, hr2⟩ : ∃ r2, n - (i + 1) = r2 := ⟨_, rfl⟩
        have HR2 := Lib.hid hr2
        go_wp2_with fail
        go_loopg [0, 21] r2 (fun gh rv yv wr => ∃ (j : Nat) (Q : List (Int × Int)), j ≤ r2 ∧ gh = r2 - j ∧ yv = .int .i64 (j : Nat) ∧ Q ++ ((ids.drop (i + 1)).drop j).map (fun b => (a, b)) ++ prs (ids.drop (i + 1)) = T ∧ wr.ownsRow base 40 2 rv Q.length (eL Q) ∧ Grew w (.slice A r c) wr rv)
        case atStart => exact ⟨0, Q, Nat.zero_le _, rfl, rfl, HQ2.out, HOW.out, HGR.out⟩
        case round =>
          obtain ⟨j, Q', hj, rfl, rfl, hQ', hown, hgr⟩ := hrel
          obtain ⟨A3, c3, rfl⟩ := own_form hown
          by_cases hjr : j < r2
          · have hijL : i + 1 + j < ids.length := by rw [HN.out]; have := HR2.out; omega
            have hir := HI.out.kept hgr.1 (own_apart HI.out HV.out (by decide))
            obtain ⟨b2, o2, e2, hc2⟩ := SeqV.pos (own_seq hir) hijL
            injection e2 with e2
            injection e2 with e2 e3
            subst e2 e3
            obtain ⟨b, hb⟩ : ∃ b, ids.getD (i + 1 + j) 0 = b := ⟨_, rfl⟩
            rw [hb] at hc2
            have hd : (ids.drop (i + 1)).drop j = b :: (ids.drop (i + 1)).drop (j + 1) := by
              rw [List.drop_drop, List.drop_drop, drop_cons hijL, hb]
              rfl
            have hnext : (Q' ++ [(a, b)]) ++ ((ids.drop (i + 1)).drop (j + 1)).map (fun b => (a, b)) ++ prs (ids.drop (i + 1)) = T := by
              rw [← hQ', hd]; simp
            obtain ⟨q, hq⟩ : ∃ q, Q'.length = q := ⟨_, rfl⟩
            have hql : q + 1 ≤ 16384 := by
              have h1 := congrArg List.length hnext
              have h2 := HTL.out
              simp only [List.length_append, List.length_singleton] at h1
              omega
            rw [hq] at hown hgr ⊢
            have hc3 : wr.cell? ⟨bi, oi + (i + 1) + j, none⟩ = some (.int .i64 b) := by rw [Nat.add_assoc]; exact hc2
            have t4 : decide (j < r2) = true := decide_eq_true hjr
            have k1 : (j : Int) < r2 := by omega
            have k2 : (0 : Int) ≤ j := by omega
            have t5 : decide ((16384 : Int) < (q : Int) + 1) = false := decide_eq_false (by omega)
            have t5' : decide ((16384 : Int) < ((q + 1 : Nat) : Int)) = false := decide_eq_false (by omega)
            have t5'' : decide (16384 < q + 1) = false := decide_eq_false (by omega)
            have hsz : base ≤ (wr.alloc (.cells #[.int .i64 a, .int .i64 b] 40)).heap.size := by have := hgr.1.size; simp; omega
            have HO4 := Lib.hid (hown.alloc (.cells #[.int .i64 a, .int .i64 b] 40))
            have HN4 := Lib.hid (edges_new wr 40 a b 1)
            have HG4 : Hid (Grew w (.slice A r c) (wr.alloc (.cells #[.int .i64 a, .int .i64 b] 40)) (.slice A3 q c3)) := Lib.hid (hgr.trans (Grew.of_below ((Below.refl _ _).alloc (Nat.le_refl _) _)))
            have HNX := Lib.hid hnext; have HQL := Lib.hid hq; have HJR := Lib.hid hjr; have HQ16 := Lib.hid hql
            clear hQ' hown hgr hir hc2 hd hnext hq hql hjr hijL hb
            go_wp2_with (at_builtin; refine wpList_appEdges _ rfl _ _ 46 40 rfl base j0 (.agg #[.int .i64 0, .int .i64 0]) Try.underlying46 hj0 hz0 rfl hz1 hz2 _ q _ rfl HO4.out _ [(a, b)] rfl HN4.out (by have := HQ16.out; simp; omega) hsz ?_)
            intro A5 c5 w5 hown5 hgrow5
            have HG5 := Lib.hid (HG4.out.trans hgrow5)
            have HO5 := Lib.hid hown5
            clear hown5 hgrow5
            go_wp2_with fail
            go_roundg (r2 - (j + 1))
            case rel => exact ⟨j + 1, Q' ++ [(a, b)], HJR.out, rfl, by go_num, HNX.out, by rw [List.length_append, HQL.out, eL_app]; exact HO5.out, HG5.out⟩
            case measure => have := HJR.out; omega
          · obtain rfl : j = r2 := by omega
            have t4 : decide (j < j) = false := by simp
            have hQf : Q' ++ prs (ids.drop (i + 1)) = T := by
              have hd : (ids.drop (i + 1)).drop j = [] := List.drop_of_length_le (by rw [List.length_drop, HN.out]; have := HR2.out; omega)
              rw [← hQ', hd]; simp
            have HQF := Lib.hid hQf; have HO4 := Lib.hid hown; have HG4 := Lib.hid hgr
            clear hjr hQ' hown hgr hQf
            go_wp2_with fail
            go_roundg (n - (i + 1))
            case rel => exact ⟨i + 1, Q', HLT.out, rfl, by go_num, HQF.out, HO4.out, HG4.out⟩
            case measure => have := HLT.out; omega
    · obtain rfl : i = n := by omega
      have t3 : decide (i < i) = false := by simp
      have hQT : Q = T := by rw [← hQ, List.drop_of_length_le (by rw [HN.out]; omega)]; simp [prs]
      have HO := Lib.hid hown; have HGR := Lib.hid hgr; have HQT := Lib.hid hQT
      clear hlt hQ hown hgr hQT
      go_wp2_with fail
      go_ret
      exact ⟨_, rfl, by rw [← HQT.out]; exact HO.out, HGR.out⟩

set_option maxRecDepth 100000 in
set_option maxHeartbeats 2000000 in
theorem lines_of {w : World} {base g : Nat} {L : List Int} {S : List (Int × Int)} (hG : GraphOwn w base g L S) (hF : Fine S) (hL : L.length ≤ 4096) (hS : S.length ≤ 4096) (hsum : (pairsE L.length S).length ≤ 16384) :
    Calls Try.prog 10 #[.pointer (some ⟨g, 0, none⟩)] w fun e w' => ∃ h, e = .returned (.tuple #[.pointer (some ⟨h, 0, none⟩), .nilIface]) ∧ GraphOwn w' w.heap.size h (List.replicate S.length 0) (sortE (pairsE L.length S)) ∧ Below w.heap.size w w' := by
  obtain ⟨j1, hi1, ky0, ky1, ky2⟩ := info_parts Try.infoInt6
  have mkI : ∀ (k : Nat) (V : World), k ≤ 5000 → (Instr.makeSlice 22 (.int .i64 (k : Nat)) (.int .i64 (k : Nat))).run Try.prog V = .ok (.slice (some ⟨V.heap.size, 0, none⟩) k k) (V.alloc (.cells (madeCells #[.int .i64 0] k) 3)) := by
    intro k V hk
    have h := run_make (P := Try.prog) V 22 3 j1 (.int .i64 0) Try.underlying22 hi1 ky0 .i64 .i64 (k : Int) (k : Int) (by omega) (by omega) (by rw [ky2]; omega) (by omega)
    rw [h, ky1, Int.toNat_natCast, Nat.mul_one]
    rfl
  have hgood := pairsE_good (n := L.length) hF
  obtain ⟨n, hn⟩ : ∃ n, L.length = n := ⟨_, rfl⟩
  obtain ⟨m, hm⟩ : ∃ m, S.length = m := ⟨_, rfl⟩
  have HG := Lib.hid hG; have HN := Lib.hid hn; have HM := Lib.hid hm
  have LN := len_any hG
  rw [hn] at LN hL hsum hgood ⊢
  rw [hm] at hS hgood ⊢
  have HLN := Lib.hid LN; have HGOOD := Lib.hid hgood; have HSUM := Lib.hid hsum
  have MK := fun V => mkI m V (by omega)
  clear hG hn hm LN hsum hgood mkI hi1 ky0 ky1 ky2
  go_enter Try.func10, Try.ntmps10
  go_wp2_with fail
  refine HLN.out.mono ?_; rintro e w1 ⟨rfl, hw⟩; obtain rfl := hw.symm
  go_wp2_with fail
  go_loopg [4, 10] n (fun gh rv yv wr => ∃ u, u ≤ n ∧ gh = n - u ∧ yv = .int .i64 (u : Nat) ∧ wr.ownsRow w.heap.size 40 2 rv (pairsE u S).length (eL (pairsE u S)) ∧ Below w.heap.size w wr)
  case atStart => exact ⟨0, Nat.zero_le _, rfl, rfl, World.ownsRow_nil _ _ _ 2, Below.refl _ _⟩
  case round =>
    obtain ⟨u, hu, rfl, rfl, hown, hB⟩ := hrel
    obtain ⟨A, c, rfl⟩ := own_form hown
    have hG := HG.out.below hB (Nat.le_refl _)
    by_cases hut : u < n
    · have AT := at_ok hG (by rw [HM.out]; omega) (v := u) (by rw [HN.out]; exact hut)
      have hMl : (atL S (u : Int)).length ≤ 1000000 := by rw [← near_at_len S (u : Int) _ rfl]; have := nearL_len S (u : Int); have := HM.out; omega
      have hle : (pairsE (u + 1) S).length ≤ 16384 := by
        have key : ∀ k, (pairsE (u + 1) S).length ≤ (pairsE (u + 1 + k) S).length := fun k => by
          induction k with
          | zero => exact Nat.le_refl _
          | succ k ih =>
            have e := congrArg List.length (pairsE_succ (u + 1 + k) S)
            rw [List.length_append] at e
            show (pairsE (u + 1) S).length ≤ (pairsE (u + 1 + k + 1) S).length
            omega
        have := key (n - (u + 1))
        rw [show u + 1 + (n - (u + 1)) = n by omega] at this
        have := HSUM.out
        omega
      have hsucc := pairsE_succ u S
      obtain ⟨Q, hQ⟩ : ∃ Q, pairsE u S = Q := ⟨_, rfl⟩
      obtain ⟨M, hM⟩ : ∃ M, atL S (u : Int) = M := ⟨_, rfl⟩
      rw [hQ, hM] at hsucc
      rw [hsucc] at hle
      rw [hM] at AT hMl
      rw [hQ] at hown ⊢
      have HAT := Lib.hid AT; have HOW := Lib.hid hown; have HB := Lib.hid hB; have HLE := Lib.hid hle; have HSU := Lib.hid hsucc; have HUT := Lib.hid hut; have HML := Lib.hid hMl
      have t3 : decide (u < n) = true := decide_eq_true hut
      clear AT hown hB hG hMl hle hsucc hQ hM hut
      go_wp2_with fail
      refine HAT.out.mono ?_; rintro e w2 ⟨v2, rfl, ho2, hb2⟩
      have AP := Lib.hid (appendPairs_any Q M _ v2 w2 w.heap.size wr.heap.size (own_below HOW.out hb2 (Nat.le_refl _)) ho2 (HB.out.trans (hb2.mono HB.out.size)).size (by have := HLE.out; rw [List.length_append] at this; exact this) HML.out)
      have HB2 := Lib.hid (HB.out.trans (hb2.mono HB.out.size)); have HOW2 := Lib.hid (own_below HOW.out hb2 (Nat.le_refl _))
      clear ho2 hb2
      go_wp2_with fail
      refine AP.out.mono ?_; rintro e w3 ⟨v3, rfl, ho3, hg3⟩
      obtain ⟨A3, c3, rfl⟩ := own_form ho3
      have HB3 := Lib.hid (hg3.below HOW2.out HB2.out (Nat.le_refl _) HB2.out.size)
      have HO3 := Lib.hid ho3
      obtain ⟨q, hq⟩ : ∃ q, (Q ++ prs M).length = q := ⟨_, rfl⟩
      have hq2 : q ≤ 16384 := by rw [← hq]; exact HLE.out
      have t4 : decide ((16384 : Int) < q) = false := decide_eq_false (by omega)
      have t4' : decide (16384 < q) = false := decide_eq_false (by omega)
      rw [hq] at HO3 ⊢
      have HQ := Lib.hid hq
      clear ho3 hg3 hq
      go_wp2_with fail
      go_roundg (n - (u + 1))
      case rel => exact ⟨u + 1, HUT.out, rfl, by go_num, by rw [HSU.out, HQ.out]; exact HO3.out, HB3.out⟩
      case measure => have := HUT.out; omega
    · obtain rfl : u = n := by omega
      have t3 : decide (u < u) = false := by simp
      have SZ := size_any hG
      rw [HM.out] at SZ
      have hb4 : Below w.heap.size w (wr.alloc (.cells (madeCells #[.int .i64 0] m) 3)) := hB.alloc hB.size _
      have hev := (own_edges hown).below (w' := wr.alloc (.cells (madeCells #[.int .i64 0] m) 3)) ((Below.refl _ _).alloc (Nat.le_refl _) _) (Nat.le_refl _)
      have hin : ∀ e, e ∈ pairsE u S → In64 e.1 ∧ In64 e.2 := fun e he => by
        have := HGOOD.out.2 e he
        unfold In64; omega
      have NG := Lib.hid (new_good (List.replicate m 0) (pairsE u S) _ _ _ (zeros_seqL wr 3 m) hev hin (fault_zerosL m HSUM.out HGOOD.out hS))
      have HSZ := Lib.hid SZ; have HB4 := Lib.hid hb4
      clear hut hown hB hG SZ hb4 hev hin
      go_wp2_with fail
      refine HSZ.out.mono ?_; rintro e w2 ⟨rfl, hw⟩; obtain rfl := hw.symm
      go_wp2_with fail
      refine NG.out.mono ?_; rintro e w5 ⟨h, rfl, hH, hb5⟩
      have HH := Lib.hid (hH.weaken HB4.out.size); have HB5 := Lib.hid (HB4.out.trans (hb5.mono HB4.out.size))
      clear hH hb5
      go_wp2_with fail
      go_ret2
      exact ⟨h, rfl, HH.out, HB5.out⟩
end Go.Proofs.Ytjilbnfaclenlaa
