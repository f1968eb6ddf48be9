/- lines: Of, where there are too many pairs. -/
import Derived.Test.YtjilbnfaclenlaaDoorLinesW
import Derived.Test.YtjilbnfaclenlaaDoorFault2
namespace Go.Proofs.YtjilbnfaclenlaaDoor
open Go.RowKit

set_option maxRecDepth 100000 in
set_option maxHeartbeats 2000000 in
theorem appendPairs_over (P : List (Int × Int)) (ids : List Int) (v vi : Value) (w : World) (base b' : Nat) (hv : w.ownsRow base 25 2 v P.length (eL P)) (hi : w.ownsRow b' 3 1 vi ids.length (intCells ids)) (hbase : base ≤ w.heap.size)
    (hsum : 16384 < P.length + (prs ids).length) (hP : P.length ≤ 16384) (hids : ids.length ≤ 1000000) :
    Calls Tryd.prog 20 #[v, vi] w fun e w' => ∃ v' F, e = .returned v' ∧ w'.ownsRow base 25 2 v' 16385 (eL F) ∧ Grew w v w' v' ∧ (∃ G, F ++ G = P ++ prs ids) := by
  obtain ⟨j0, hj0, hz0, hz1, hz2⟩ := info_parts Tryd.infoAE
  obtain ⟨A, c, rfl⟩ := own_form hv
  obtain ⟨Ai, ci, rfl⟩ := own_form hi
  obtain ⟨n, hn⟩ : ∃ n, ids.length = n := ⟨_, rfl⟩
  obtain ⟨r, hr⟩ : ∃ r, P.length = r := ⟨_, rfl⟩
  obtain ⟨T, hT⟩ : ∃ T, P ++ prs ids = T := ⟨_, rfl⟩
  have htl : 16384 < T.length := by rw [← hT, List.length_append]; omega
  have hcap := own_cap hi
  rw [hn] at hi hids hcap ⊢
  rw [hr] at hv ⊢
  rw [hT]
  have HN := Lib.hid hn; have HV := Lib.hid hv; have HI := Lib.hid hi; have HTL := Lib.hid htl; have HT := Lib.hid hT; have HR := Lib.hid hr; have HP := Lib.hid hP
  clear hn hr hT hv hi hsum htl hP
  go_enter Tryd.func20, Tryd.ntmps20
  go_wp2_with fail
  go_loopg [0, 11] n (fun gh rv yv wr => ∃ (i : Nat) (Q : List (Int × Int)), Q.length ≤ 16384 ∧ i ≤ n ∧ gh = n - i ∧ yv = .int .i64 (i : Nat) ∧ Q ++ prs (ids.drop i) = T ∧ wr.ownsRow base 25 2 rv Q.length (eL Q) ∧ Grew w (.slice A r c) wr rv)
  case atStart => exact ⟨0, P, HP.out, Nat.zero_le _, rfl, rfl, by rw [List.drop_zero]; exact HT.out, by rw [HR.out]; exact HV.out, Grew.refl _ _⟩
  case round =>
    obtain ⟨i, Q, hq16, hi', rfl, rfl, hQ, hown, hgr⟩ := hrel
    obtain ⟨A2, c2, rfl⟩ := own_form hown
    by_cases hlt : i < n
    · have hiL : i < ids.length := by rw [HN.out]; exact hlt
      have hir := HI.out.kept hgr.1 (own_apart HI.out HV.out (by decide))
      have hsi := own_seq hir
      obtain ⟨bi, oi, rfl, hc⟩ := SeqV.pos hsi hiL
      obtain ⟨a, ha⟩ : ∃ a, ids.getD i 0 = a := ⟨_, rfl⟩
      rw [ha] at hc
      have hQ2 : Q ++ ((ids.drop (i + 1)).drop 0).map (fun b => (a, b)) ++ prs (ids.drop (i + 1)) = T := by
        rw [← hQ, drop_cons hiL, ha, List.drop_zero, List.append_assoc]
        rfl
      have t3 : decide (i < n) = true := decide_eq_true hlt
      have i1 : (i : Int) < n := by omega
      have i2 : (0 : Int) ≤ i := by omega
      have i3 : (i : Int) + 1 ≤ n := by omega
      have i4 : (0 : Int) ≤ (i : Int) + 1 := by omega
      have hs := hgr.1.size
      have HQ2 := Lib.hid hQ2; have HOW := Lib.hid hown; have HGR := Lib.hid hgr; have HIR := Lib.hid hir; have HLT := Lib.hid hlt; have HQ16 := Lib.hid hq16
      clear hq16 hQ hQ2 hown hgr hir hsi hiL ha hlt
      have HAP := Lib.hid (own_cap HIR.out)
      by_cases hck : i + 1 = ci
      · have hnn : n = i + 1 := by have := HAP.out; omega
        subst hnn
        subst hck
        go_wp2_with fail
        go_loopg [0, 21] 0 (fun gh rv yv wr' => gh = 0 ∧ rv = .slice A2 Q.length c2 ∧ yv = .int .i64 0 ∧ wr' = wr)
        case atStart => exact ⟨rfl, rfl, rfl, rfl⟩
        case round =>
          obtain ⟨rfl, rfl, rfl, rfl⟩ := hrel
          have t4 : decide ((0 : Int) < 0) = false := by decide
          go_wp2_with fail
          go_roundg (i + 1 - (i + 1))
          case rel =>
            have hd : ids.drop (i + 1) = [] := List.drop_of_length_le (by rw [HN.out]; omega)
            have := HQ2.out
            rw [hd] at this
            exact ⟨i + 1, Q, HQ16.out, Nat.le_refl _, rfl, by go_num, by rw [hd]; simpa [prs] using this, HOW.out, HGR.out⟩
          case measure => omega
      · have hck' : ¬ ci = i + 1 := fun h => hck h.symm
        have hck2 : ¬ (i : Int) + 1 = ci := by omega
        have hck3 : ¬ (ci : Int) = (i : Int) + 1 := by omega
        have i5 : (i : Int) + 1 ≤ ci := by have := HAP.out; omega
        obtain ⟨r2, hr2⟩ : ∃ r2, n - (i + 1) = r2 := ⟨_, rfl⟩
        have HR2 := Lib.hid hr2
        go_wp2_with fail
        go_loopg [0, 21] r2 (fun gh rv yv wr => ∃ (j : Nat) (Q : List (Int × Int)), Q.length ≤ 16384 ∧ j ≤ r2 ∧ gh = r2 - j ∧ yv = .int .i64 (j : Nat) ∧ Q ++ ((ids.drop (i + 1)).drop j).map (fun b => (a, b)) ++ prs (ids.drop (i + 1)) = T ∧ wr.ownsRow base 25 2 rv Q.length (eL Q) ∧ Grew w (.slice A r c) wr rv)
        case atStart => exact ⟨0, Q, HQ16.out, Nat.zero_le _, rfl, rfl, HQ2.out, HOW.out, HGR.out⟩
        case round =>
          obtain ⟨j, Q', hq16', hj, rfl, rfl, hQ', hown, hgr⟩ := hrel
          obtain ⟨A3, c3, rfl⟩ := own_form hown
          by_cases hjr : j < r2
          · have hijL : i + 1 + j < ids.length := by rw [HN.out]; have := HR2.out; omega
            have hir := HI.out.kept hgr.1 (own_apart HI.out HV.out (by decide))
            obtain ⟨b2, o2, e2, hc2⟩ := SeqV.pos (own_seq hir) hijL
            injection e2 with e2
            injection e2 with e2 e3
            subst e2 e3
            obtain ⟨b, hb⟩ : ∃ b, ids.getD (i + 1 + j) 0 = b := ⟨_, rfl⟩
            rw [hb] at hc2
            have hd : (ids.drop (i + 1)).drop j = b :: (ids.drop (i + 1)).drop (j + 1) := by
              rw [List.drop_drop, List.drop_drop, drop_cons hijL, hb]
              rfl
            have hnext : (Q' ++ [(a, b)]) ++ ((ids.drop (i + 1)).drop (j + 1)).map (fun b => (a, b)) ++ prs (ids.drop (i + 1)) = T := by
              rw [← hQ', hd]; simp
            obtain ⟨q, hq⟩ : ∃ q, Q'.length = q := ⟨_, rfl⟩
            rw [hq] at hq16'
            rw [hq] at hown hgr ⊢
            have hc3 : wr.cell? ⟨bi, oi + (i + 1) + j, none⟩ = some (.int .i64 b) := by rw [Nat.add_assoc]; exact hc2
            have t4 : decide (j < r2) = true := decide_eq_true hjr
            have k1 : (j : Int) < r2 := by omega
            have k2 : (0 : Int) ≤ j := by omega
            have hsz : base ≤ (wr.alloc (.cells #[.int .i64 a, .int .i64 b] 25)).heap.size := by have := hgr.1.size; simp; omega
            have HO4 := Lib.hid (hown.alloc (.cells #[.int .i64 a, .int .i64 b] 25))
            have HN4 := Lib.hid (edges_new wr 25 a b 1)
            have HG4 : Hid (Grew w (.slice A r c) (wr.alloc (.cells #[.int .i64 a, .int .i64 b] 25)) (.slice A3 q c3)) := Lib.hid (hgr.trans (Grew.of_below ((Below.refl _ _).alloc (Nat.le_refl _) _)))
            have HNX := Lib.hid hnext; have HQL := Lib.hid hq; have HJR := Lib.hid hjr; have HQ16 := Lib.hid hq16'
            clear hQ' hown hgr hir hc2 hd hnext hq hq16' hjr hijL hb
            go_wp2_with (at_builtin; refine wpList_appEdges _ rfl _ _ 23 25 rfl base j0 (.agg #[.int .i64 0, .int .i64 0]) Tryd.underlying23 hj0 hz0 rfl hz1 hz2 _ q _ rfl HO4.out _ [(a, b)] rfl HN4.out (by have := HQ16.out; simp; omega) hsz ?_)
            intro A5 c5 w5 hown5 hgrow5
            have HG5 := Lib.hid (HG4.out.trans hgrow5)
            have HO5 := Lib.hid hown5
            clear hown5 hgrow5
            by_cases hfull : q = 16384
            · subst hfull
              have t5 : decide ((16384 : Int) < (16384 : Int) + 1) = true := by decide
              have HRET : Hid (w5.ownsRow base 25 2 (.slice A5 (16384 + 1) c5) 16385 (eL (Q' ++ [(a, b)]))) := Lib.hid (by rw [eL_app]; exact HO5.out)
              go_wp2_with fail
              go_ret
              exact ⟨_, Q' ++ [(a, b)], rfl, HRET.out, HG5.out, _, by rw [← List.append_assoc]; exact HNX.out⟩
            have hq15 : q + 1 ≤ 16384 := by have := HQ16.out; omega
            have t5 : decide ((16384 : Int) < (q : Int) + 1) = false := decide_eq_false (by omega)
            have t5' : decide ((16384 : Int) < ((q + 1 : Nat) : Int)) = false := decide_eq_false (by omega)
            have t5'' : decide (16384 < q + 1) = false := decide_eq_false (by omega)
            have HQ15 := Lib.hid hq15
            clear hq15 hfull
            go_wp2_with fail
            go_roundg (r2 - (j + 1))
            case rel => exact ⟨j + 1, Q' ++ [(a, b)], by rw [List.length_append, HQL.out]; exact HQ15.out, HJR.out, rfl, by go_num, HNX.out, by rw [List.length_append, HQL.out, eL_app]; exact HO5.out, HG5.out⟩
            case measure => have := HJR.out; omega
          · obtain rfl : j = r2 := by omega
            have t4 : decide (j < j) = false := by simp
            have hQf : Q' ++ prs (ids.drop (i + 1)) = T := by
              have hd : (ids.drop (i + 1)).drop j = [] := List.drop_of_length_le (by rw [List.length_drop, HN.out]; have := HR2.out; omega)
              rw [← hQ', hd]; simp
            have HQF := Lib.hid hQf; have HQ16' := Lib.hid hq16'; have HO4 := Lib.hid hown; have HG4 := Lib.hid hgr
            clear hjr hQ' hown hgr hQf hq16'
            go_wp2_with fail
            go_roundg (n - (i + 1))
            case rel => exact ⟨i + 1, Q', HQ16'.out, HLT.out, rfl, by go_num, HQF.out, HO4.out, HG4.out⟩
            case measure => have := HLT.out; omega
    · obtain rfl : i = n := by omega
      have t3 : decide (i < i) = false := by simp
      exfalso
      have hQT : Q = T := by rw [← hQ, List.drop_of_length_le (by rw [HN.out]; omega)]; simp [prs]
      rw [hQT] at hq16
      have := HTL.out
      omega


/-- What Of tells of too many. -/
def OverTo (w : World) (e : Ending) (w' : World) : Prop :=
  ∃ (V : Nat → Value) (B : Nat → Nat) (nb : Nat) (nm : ByteArray), e = .returned (.tuple #[.pointer none, V 0]) ∧ (∃ x, V 0 = .iface 77 x) ∧ ErrAt w' 1 V B (fun _ => ⟨#[108, 105, 110, 101, 115]⟩) nb 6 0 nm ∧ Below w.heap.size w w'

set_option maxRecDepth 100000 in
set_option maxHeartbeats 2000000 in
theorem lines_over {w : World} {base g : Nat} {L : List Int} {S : List (Int × Int)} (hG : GraphOwn w base g L S) (hL : L.length ≤ 4096) (h0 : 0 < L.length) (hS : S.length ≤ 4096) (hover : 16384 < (prs (atL S 0)).length) :
    Calls Tryd.prog 6 #[.pointer (some ⟨g, 0, none⟩)] w (OverTo w) := by
  obtain ⟨j1, hi1, ky0, ky1, ky2⟩ := info_parts Tryd.infoInt6
  have mkI : ∀ (k : Nat) (V : World), k ≤ 5000 → (Instr.makeSlice 31 (.int .i64 (k : Nat)) (.int .i64 (k : Nat))).run Tryd.prog V = .ok (.slice (some ⟨V.heap.size, 0, none⟩) k k) (V.alloc (.cells (madeCells #[.int .i64 0] k) 3)) := by
    intro k V hk
    have h := run_make (P := Tryd.prog) V 31 3 j1 (.int .i64 0) Tryd.underlying31 hi1 ky0 .i64 .i64 (k : Int) (k : Int) (by omega) (by omega) (by rw [ky2]; omega) (by omega)
    rw [h, ky1, Int.toNat_natCast, Nat.mul_one]
    rfl
  obtain ⟨n, hn⟩ : ∃ n, L.length = n := ⟨_, rfl⟩
  obtain ⟨m, hm⟩ : ∃ m, S.length = m := ⟨_, rfl⟩
  have LN := len_any hG
  have AT := at_ok hG (by omega) h0
  have SZ := fun (W : World) (hb : Below w.heap.size w W) => size_any (hG.below hb (Nat.le_refl _))
  have hMl : (atL S 0).length ≤ 1000000 := by rw [← near_at_len S 0 _ rfl]; have := nearL_len S 0; omega
  have hMin : ∀ e, e ∈ prs (atL S 0) → In64 e.1 ∧ In64 e.2 := fun e he => by
    have h1 := prs_mem he
    obtain ⟨a, ha, ha1, _⟩ := at_mem h1.1
    obtain ⟨b, hb, hb1, _⟩ := at_mem h1.2
    unfold In64; omega
  rw [show ((0 : Nat) : Int) = 0 from rfl] at AT
  obtain ⟨M, hM⟩ : ∃ M, atL S 0 = M := ⟨_, rfl⟩
  rw [hM] at AT hMl hMin hover
  rw [hn] at LN hL h0
  rw [hm] at SZ hS
  have MK := fun V => mkI m V (by omega)
  have HLN := Lib.hid LN; have HAT := Lib.hid AT; have HSZ := Lib.hid SZ; have HML := Lib.hid hMl; have HMI := Lib.hid hMin; have HOV := Lib.hid hover
  have t3 : decide ((0 : Int) < n) = true := decide_eq_true (by omega)
  have t3' : decide (0 < n) = true := decide_eq_true h0
  have t4 : decide ((16384 : Int) < 16385) = true := by decide
  clear hG hn hm LN AT SZ hMl hMin hover hM mkI hi1 ky0 ky1 ky2
  go_enter Tryd.func6, Tryd.ntmps6
  go_wp2_with fail
  refine HLN.out.mono ?_; rintro e w1 ⟨rfl, hw⟩; obtain rfl := hw.symm
  go_wp2_with fail
  go_loopg [4, 10] 1 (fun gh rv yv wr => gh = 1 ∧ yv = .int .i64 0 ∧ rv = .slice none 0 0 ∧ wr = w)
  case atStart => exact ⟨rfl, rfl, rfl, rfl⟩
  case round =>
    obtain ⟨rfl, rfl, rfl, hwr⟩ := hrel
    obtain rfl := hwr.symm
    go_wp2_with fail
    refine HAT.out.mono ?_; rintro e w2 ⟨v2, rfl, ho2, hb2⟩
    have AP := Lib.hid (appendPairs_over [] M (.slice none 0 0) v2 w2 w.heap.size w.heap.size (World.ownsRow_nil _ _ _ 2) ho2 hb2.size (by simpa using HOV.out) (by simp) HML.out)
    have HB2 := Lib.hid hb2
    clear ho2 hb2
    go_wp2_with fail
    refine AP.out.mono ?_; rintro e w3 ⟨v3, F, rfl, ho3, hg3, G, hFG⟩
    obtain ⟨A3, c3, rfl⟩ := own_form ho3
    have HB3 := Lib.hid (hg3.below (World.ownsRow_nil w2 w.heap.size 25 2) HB2.out (Nat.le_refl _) HB2.out.size)
    have hFl : F.length = 16385 := by have := ho3.1; rw [eL_len] at this; omega
    have hFin : ∀ e, e ∈ F → In64 e.1 ∧ In64 e.2 := fun e he => HMI.out e (by rw [← List.nil_append (prs M), ← hFG]; exact List.mem_append_left _ he)
    have hb4 : Below w.heap.size w (w3.alloc (.cells (madeCells #[.int .i64 0] m) 3)) := HB3.out.alloc HB3.out.size _
    have hev := (own_edges ho3).below (w' := w3.alloc (.cells (madeCells #[.int .i64 0] m) 3)) ((Below.refl _ _).alloc (Nat.le_refl _) _) (Nat.le_refl _)
    have NB := Lib.hid (new_bad (List.replicate m 0) F _ _ _ (zeros_seqL w3 3 m) hev hFin (by simp; omega) (by omega) 6 0 (by unfold newFault; rw [if_pos (Or.inr (by omega))]))
    have HSZ3 := Lib.hid (HSZ.out _ HB3.out); have HB4 := Lib.hid hb4
    clear ho3 hg3 hFG hFl hFin hb4 hev
    go_wp2_with fail
    refine HSZ3.out.mono ?_; rintro e w4 ⟨rfl, hw⟩; obtain rfl := hw.symm
    go_wp2_with fail
    refine NB.out.mono ?_; rintro e w5 ⟨u, rfl, ⟨nb, nm, rfl, hN5⟩, hb5⟩
    have HB5 := Lib.hid (HB4.out.trans (hb5.mono HB4.out.size)); have HN5 := Lib.hid hN5
    have IN := Lib.hid (in_any ⟨#[108, 105, 110, 101, 115]⟩ 59 (.pointer (some ⟨nb, 0, none⟩)) w5)
    clear hb5 hN5
    go_wp2_with fail
    refine IN.out.mono ?_; rintro e w6 ⟨rfl, hw6⟩
    have hS6 := Whole.new w5 79 #[.string ⟨#[108, 105, 110, 101, 115]⟩, .iface 59 (.pointer (some ⟨nb, 0, none⟩))]
    have hN6 := HN5.out.alloc (.cells #[.string ⟨#[108, 105, 110, 101, 115]⟩, .iface 59 (.pointer (some ⟨nb, 0, none⟩))] 79)
    have hB6 := HB5.out.alloc HB5.out.size (.cells #[.string ⟨#[108, 105, 110, 101, 115]⟩, .iface 59 (.pointer (some ⟨nb, 0, none⟩))] 79)
    obtain ⟨sb, hsb⟩ : ∃ b, w5.heap.size = b := ⟨_, rfl⟩
    rw [hw6] at hS6 hN6 hB6
    rw [hsb] at hS6
    have HS6 := Lib.hid hS6; have HN6 := Lib.hid hN6; have HB6 := Lib.hid hB6; have HSB := Lib.hid hsb
    clear hS6 hN6 hB6 hw6 hsb
    rw [HSB.out]
    go_wp2_with fail
    go_ret2
    have hV : ErrAt w6 1 (fun i => if i = 0 then .iface 77 (.pointer (some ⟨sb, 0, none⟩)) else .iface 59 (.pointer (some ⟨nb, 0, none⟩))) (fun _ => sb) (fun _ => ⟨#[108, 105, 110, 101, 115]⟩) nb 6 0 nm := by
      have one : ∀ i, i < 1 → i = 0 := fun i hi => by omega
      refine ⟨⟨fun i hi => ?_, fun i _ => HS6.out.cell 0, fun i hi => ?_⟩, rfl, HN6.out⟩
      · rw [one i hi]; rfl
      · rw [one i hi]; exact HS6.out.cell 1
    exact ⟨_, _, nb, nm, rfl, ⟨_, rfl⟩, hV, HB6.out⟩
end Go.Proofs.YtjilbnfaclenlaaDoor
