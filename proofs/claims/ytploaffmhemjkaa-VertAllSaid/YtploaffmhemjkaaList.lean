/- vert.List. -/
import Derived.Test.YtploaffmhemjkaaListP
import Derived.Test.YtploaffmhemjkaaLaw0
import Derived.Test.YtploaffmhemjkaaCan
import Derived.Test.YtploaffmhemjkaaGraphNear
namespace Go.Proofs.Ytploaffmhemjkaa
open Go.RowKit

theorem GF.near {w : World} {base n : Nat} {g : Value} {S : List (Int × Int)} (h : GF w base g n S) (v : Int) : Calls Try.prog 33 #[g, .int .i64 v] w fun e w' => ∃ v', e = .returned v' ∧ w'.ownsRow w.heap.size 3 1 v' (nearL S v).length (intCells (nearL S v)) ∧ Below w.heap.size w w' := by
  have hln := h.len
  have hF := h.fine
  have hR := h.rng
  cases hv : hasV n v with
  | false =>
    have hnil : nearL S v = [] := by
      cases hc : nearL S v with
      | nil => rfl
      | cons a t =>
        have hm : a ∈ nearL S v := by rw [hc]; simp
        rw [near_mem hF] at hm
        have := hR _ hm
        unfold ris at this
        simp only at this
        unfold hasV at hv
        simp at hv
        omega
    rw [hnil]
    refine (near_no n v _ w hln hv).mono ?_
    rintro e w' ⟨rfl, rfl⟩
    exact ⟨_, rfl, World.ownsRow_nil _ _ _ 1, Below.refl _ _⟩
  | true =>
    obtain ⟨k, rfl, hk⟩ := hasV_yes hv
    obtain ⟨⟨g, L, rfl, hl, hG⟩ | ⟨rfl, rfl, rfl⟩, _, _, hS, hn⟩ := h
    · exact near_ok hG (by omega) (by rw [hl]; exact hk)
    · omega

theorem cellLt {w : World} {a : Addr} {v : Value} (h : w.cell? a = some v) : a.block < w.heap.size :=
  Classical.byContradiction fun hn => by
    have h0 : w.heap[a.block]? = none := Array.getElem?_eq_none (by omega)
    simp [World.cell?, h0] at h
/-- A list's cells lie apart from a row that grows. -/
def ApartV (w : World) (v u : Value) (L : List Int) : Prop := L = [] ∨ ∃ k, v.ownBlock = some k ∧ k < w.heap.size ∧ u.ownBlock ≠ some k
theorem ApartV.grew {w w' : World} {v u u' : Value} {L : List Int} (h : SeqC w v L) (ha : ApartV w v u L) (hg : Grew w u w' u') : SeqC w' v L ∧ ApartV w' v u' L := by
  obtain ⟨hs, A, c, rfl, hc⟩ := h
  rcases ha with rfl | ⟨k, hk, hlt, hne⟩
  · exact ⟨⟨seqV_nil _ _ _, A, c, rfl, hc⟩, Or.inl rfl⟩
  · refine ⟨⟨?_, A, c, rfl, hc⟩, Or.inr ⟨k, hk, Nat.lt_of_lt_of_le hlt hg.1.size, ?_⟩⟩
    · rcases hs with h0 | ⟨h0, b, off, c', e, hx⟩
      · exact Or.inl h0
      · refine Or.inr ⟨h0, b, off, c', e, fun i hi => hg.1.cell (hx i hi) ?_⟩
        injection e with e1 _ _
        subst e1
        have hb : b = k := by
          have : some b = some k := hk
          injection this
        rw [hb]
        exact fun e => hne e.symm
    · rcases hg.2 with h | ⟨g, h, hge⟩
      · rw [h]; exact hne
      · rw [h]
        intro e
        injection e with e
        omega
theorem ApartV.own {w w' : World} {v u : Value} {L : List Int} {ys : List Value} {m b : Nat} (hu : w.ownsRow b 3 1 u m ys) (h : w'.ownsRow w.heap.size 3 1 v L.length (intCells L)) : ApartV w' v u L := by
  cases hb : v.ownBlock with
  | none =>
    left
    rcases h.2 with ⟨_, h0⟩ | ⟨g, cap, cur, rfl, _⟩
    · exact List.eq_nil_of_length_eq_zero h0
    · cases hb
  | some k =>
    refine Or.inr ⟨k, hb, (h.lt k hb).2, fun e => ?_⟩
    have h1 := (h.lt k hb).1
    have h2 := (hu.lt k e).2
    omega
theorem ApartV.below {w w' : World} {v u : Value} {L : List Int} (h : ApartV w v u L) (hs : w.heap.size ≤ w'.heap.size) : ApartV w' v u L := by
  rcases h with h | ⟨k, h1, h2, h3⟩
  · exact Or.inl h
  · exact Or.inr ⟨k, h1, by omega, h3⟩
/-- A list and a row made behind it. -/
theorem ApartV.fresh {w w' : World} {v u : Value} {L : List Int} {ys : List Value} {m : Nat} (h : SeqC w v L) (hu : w'.ownsRow w.heap.size 3 1 u m ys) (hs : w.heap.size ≤ w'.heap.size) : ApartV w' v u L := by
  obtain ⟨hs', A, c, rfl, hc⟩ := h
  rcases hs' with ⟨h0, _⟩ | ⟨h0, b, off, c', e, hx⟩
  · exact Or.inl (List.eq_nil_of_length_eq_zero h0)
  · injection e with e1 _ _
    subst e1
    have hb : b < w.heap.size := cellLt (hx 0 h0)
    refine Or.inr ⟨b, rfl, by omega, fun e => ?_⟩
    have := (hu.lt b e).1
    omega

/-- The lists while one is found. -/
def ListSt (W : World) (S : List (Int × Int)) (T : List Int) (x : Option (List Int)) (gh : Nat) (lv sv ov : Value) (wr : World) : Prop :=
  ∃ l Lf O, LSt S T l Lf O ∧ gh = T.length - l.length ∧ SeqC wr lv Lf ∧ SeqC wr ov O ∧ wr.ownsRow W.heap.size 3 1 sv l.length (intCells l) ∧ ApartV wr lv sv Lf ∧ ApartV wr ov sv O ∧ listGo (adj S) T (T.length - l.length) l = x ∧ Below W.heap.size W wr
/-- What List tells. -/
def ListTo (w : World) (x : Option (List Int)) (e : Ending) (w' : World) : Prop := ∃ v, e = .returned (.tuple #[v, .bool x.isSome]) ∧ SeqC w' v (x.getD []) ∧ Below w.heap.size w w'

set_option maxRecDepth 100000 in
set_option maxHeartbeats 400000 in
theorem list_any {w : World} {base m : Nat} {g : Value} {S : List (Int × Int)} (hG : GF w base g m S) (s : List Int) (vs : Value) (hs : SeqV w vs s) (hn : s.length ≤ 100000) :
    Calls Try.prog 10 #[g, vs] w (ListTo w (listL m (adj S) s)) := by
  obtain ⟨j1, hi1, ky0, ky1, ky2⟩ := info_parts Try.infoInt6
  have OF := Lib.hid (setOf_any s vs w hs (by omega))
  obtain ⟨A, c, rfl⟩ := IntsV.form hs
  obtain ⟨ns, hns⟩ : ∃ n, s.length = n := ⟨_, rfl⟩
  rw [hns] at OF ⊢
  obtain ⟨p1, _, p3⟩ := ofR_parts _ s rfl
  have hll : listL m (adj S) s = if (ofR s).all (hasV m) then listGo (adj S) (ofR s) (ofR s).length [] else none := rfl
  obtain ⟨T, hT⟩ : ∃ T, ofR s = T := ⟨_, rfl⟩
  rw [hT] at OF p1 p3 hll
  obtain ⟨x, hx⟩ : ∃ x, listL m (adj S) s = x := ⟨_, rfl⟩
  rw [hx] at hll ⊢
  have HLL := Lib.hid hll
  have HT := Lib.hid p1; have HG := Lib.hid hG
  have HT5 := Lib.hid (show T.length ≤ 100000 by omega)
  clear hs hll hT p1 p3 hns hG hx hn
  go_enter Try.func10, Try.ntmps10
  go_wp2_with fail
  refine OF.out.mono ?_; rintro e w1 ⟨v1, rfl, hs1, hb1⟩
  have HS1 := Lib.hid hs1; have HB1 := Lib.hid hb1; have HG1 := Lib.hid (HG.out.below hb1)
  obtain ⟨hsv, A1, c1, rfl, hc1⟩ := id hs1
  rcases Nat.eq_zero_or_pos T.length with h0 | h0
  · have hT0 : T = [] := List.eq_nil_of_length_eq_zero h0
    subst hT0
    have hxx : x = some [] := HLL.out
    subst hxx
    clear hs1 hb1 hsv
    go_wp2_with fail
    go_ret2
    exact ⟨_, rfl, ⟨seqV_nil _ _ _, _, _, rfl, Nat.zero_le _⟩, HB1.out⟩
  · obtain ⟨k, hk⟩ : ∃ k, T.length = k := ⟨_, rfl⟩
    have hall := rising_all (n := m) HT.out h0
    obtain ⟨b, off, hA, x0⟩ := seqPos hsv (i := 0) h0
    rw [Nat.add_zero] at x0
    obtain ⟨b', off', hA', x1⟩ := seqPos hsv (i := k - 1) (by omega)
    subst hA
    injection hA' with hA'
    injection hA' with e1 e2
    subst e1 e2
    have hT5 := HT5.out
    rw [hk] at hall h0 hc1 hT5 ⊢
    obtain ⟨y0, hy0⟩ : ∃ y, T.getD 0 0 = y := ⟨_, rfl⟩
    obtain ⟨y1, hy1⟩ : ∃ y, T.getD (k - 1) 0 = y := ⟨_, rfl⟩
    rw [hy0] at x0 hall
    rw [hy1] at x1 hall
    have HK := Lib.hid hk; have HALL := Lib.hid hall; have HC1 := Lib.hid hc1
    have LN := Lib.hid (fun d => (HG1.out.drewN d).len)
    have i0 : (0 : Int) < k := by omega
    have i1 : (0 : Int) ≤ (k : Int) - 1 := by omega
    have i2 : (k : Int) - 1 < k := by omega
    have t1 : ((k : Int) == 0) = false := by simp; omega
    have i3 : (1 : Int) ≤ c1 := by omega
    have i4 : 1 ≤ c1 := by omega
    clear hs1 hb1 hsv hk hall hc1 hy0 hy1 h0
    by_cases hy0 : y0 < 0
    · have k1 : decide (y0 < 0) = true := decide_eq_true hy0
      have hxx : x = none := by rw [HLL.out, HALL.out, decide_eq_false (show ¬ 0 ≤ y0 by omega)]; rfl
      subst hxx
      clear hy0
      go_upto_region 4 with fail
      go_quiet ((go_at_call 25; with_reducible exact Calls.quiet_of_same (LN.out _)))
      go_wp2_with fail
      go_ret2
      exact ⟨_, rfl, ⟨seqV_nil _ _ _, _, _, rfl, Nat.zero_le _⟩, below_drewN' HB1.out _⟩
    · have k1 : decide (y0 < 0) = false := decide_eq_false hy0
      by_cases hy1 : (m : Int) ≤ y1
      · have k2 : decide ((m : Int) ≤ y1) = true := decide_eq_true hy1
        have hxx : x = none := by rw [HLL.out, HALL.out, decide_eq_false (show ¬ y1 < (m : Int) by omega), Bool.and_false]; rfl
        subst hxx
        clear hy0 hy1
        go_upto_region 4 with fail
        go_quiet ((go_at_call 25; with_reducible exact Calls.quiet_of_same (LN.out _)))
        go_wp2_with fail
        go_ret2
        exact ⟨_, rfl, ⟨seqV_nil _ _ _, _, _, rfl, Nat.zero_le _⟩, below_drewN' HB1.out _⟩
      · have k2 : decide ((m : Int) ≤ y1) = false := decide_eq_false hy1
        have HX : Hid (listGo (adj S) T T.length [] = x) := Lib.hid (by
          rw [HLL.out, HALL.out, decide_eq_true (show 0 ≤ y0 by omega), decide_eq_true (show y1 < (m : Int) by omega)]
          rfl)
        have mk : ∀ V : World, (Instr.makeSlice 22 (.int .i64 0) (.int .i64 (k : Nat))).run Try.prog V = .ok (.slice (some ⟨V.heap.size, 0, none⟩) 0 k) (V.alloc (.cells (madeCells #[.int .i64 0] k) 3)) := by
          intro V
          have h := run_make (P := Try.prog) V 22 3 j1 (.int .i64 0) Try.underlying22 hi1 ky0 .i64 .i64 0 (k : Int) (by omega) (by omega) (by rw [ky2]; omega) (by omega)
          rw [h, ky1, Int.toNat_natCast, Nat.mul_one]
          rfl
        clear hy0 hy1
        go_upto_region 4 with fail
        go_quiet ((go_at_call 25; with_reducible exact Calls.quiet_of_same (LN.out _)))
        go_upto_region 6 with fail
        have hb2 : Below w.heap.size w (w1.drewN nq) := below_drewN' HB1.out nq
        have hb3 := hb2.alloc hb2.size (.cells (madeCells #[.int .i64 0] k) 3)
        have hown := World.ownsRow_made (base := w.heap.size) (e := 3) (size := 1) (w1.drewN nq) (madeCells #[.int .i64 0] k) k hb2.size (by unfold maxLen; omega) (by simp [madeCells])
        have hown1 := World.ownsRow_made (base := (w1.drewN nq).heap.size) (e := 3) (size := 1) (w1.drewN nq) (madeCells #[.int .i64 0] k) k (Nat.le_refl _) (by unfold maxLen; omega) (by simp [madeCells])
        have hs2 := HS1.out.below (below_drewN' (Below.refl _ _) nq) (Nat.le_refl _)
        rw [HK.out] at hs2
        have hs3 := hs2.below ((Below.refl _ (w1.drewN nq)).alloc (Nat.le_refl _) (.cells (madeCells #[.int .i64 0] k) 3)) (Nat.le_refl _)
        have ho2 : SeqC (w1.drewN nq) (.slice (some ⟨b, off, none⟩) 1 c1) (T.take 1) := ⟨seq_take hs2.1 1 (by omega), _, _, by rw [List.length_take, HK.out, Nat.min_eq_left (by omega)], by rw [List.length_take, HK.out, Nat.min_eq_left (by omega)]; omega⟩
        have ho3 := ho2.below ((Below.refl _ (w1.drewN nq)).alloc (Nat.le_refl _) (.cells (madeCells #[.int .i64 0] k) 3)) (Nat.le_refl _)
        have HST : Hid (ListSt w S T x k (.slice (some ⟨b, off, none⟩) k c1) (.slice (some ⟨w1.heap.size, 0, none⟩) 0 k) (.slice (some ⟨b, off, none⟩) 1 c1) ((w1.drewN nq).alloc (.cells (madeCells #[.int .i64 0] k) 3))) :=
          Lib.hid ⟨[], T, T.take 1, LSt.start S HT.out, by rw [HK.out]; rfl, hs3, ho3, hown, ApartV.fresh hs2 hown1 (by simp), ApartV.fresh ho2 hown1 (by simp), HX.out, hb3⟩
        clear hb2 hb3 hown hown1 hs2 hs3 ho2 ho3
        go_wp2_with fail
        go_loopg [6, 7, 8] k (fun gh lv sv ov wr => ListSt w S T x gh lv sv ov wr)
        case atStart => exact HST.out
        case round =>
          obtain ⟨l, Lf, O, hst, rfl, hlf, ho, hown, hal, hao, hgo, hB⟩ := hrel
          have hsz := hB.size
          have hle := hst.le HT.out
          have hlfl := hst.lf_len
          have hol := hst.o_len
          have HLF := Lib.hid hlf; have HO := Lib.hid ho; have HW := Lib.hid hown; have HAL := Lib.hid hal; have HAO := Lib.hid hao; have HGO := Lib.hid hgo; have HB := Lib.hid hB; have HST2 := Lib.hid hst
          obtain ⟨_, Al, cl, rfl, _⟩ := id hlf
          obtain ⟨_, Ao, co, rfl, _⟩ := id ho
          obtain ⟨As, cs, rfl⟩ := own_form hown
          rw [HK.out] at hle hlfl hol
          cases O with
          | nil =>
            have hdone := hst.done HT.out (by intro e; rw [e] at HK; have := HK.out; simp at this; omega)
            rw [hgo] at hdone
            clear hlf ho hown hal hao hgo hB hst
            cases Lf with
            | nil =>
              rw [if_pos rfl] at hdone
              subst hdone
              obtain ⟨q, hq⟩ : ∃ q, l.length = q := ⟨_, rfl⟩
              rw [hq] at HW ⊢
              clear hq
              go_wp2_with fail
              go_ret2
              exact ⟨_, rfl, own_seqC HW.out, HB.out⟩
            | cons a t =>
              rw [if_neg (by simp)] at hdone
              subst hdone
              have t9 : decide ((0 : Int) < ((t.length + 1 : Nat) : Int)) = true := decide_eq_true (by omega)
              go_wp2_with fail
              go_ret2
              exact ⟨_, rfl, ⟨seqV_nil _ _ _, _, _, rfl, Nat.zero_le _⟩, HB.out⟩
          | cons v O' =>
            have hnx := hst.next HT.out
            have hstep := hst.step HG.out.fine HT.out
            have hgs := listGo_step hnx.1 hnx.2
            rw [hgo] at hgs
            obtain ⟨bo, oo, hAo, hx⟩ := seqPos ho.1 (i := 0) (by simp)
            rw [Nat.add_zero, show (v :: O').getD 0 0 = v from rfl] at hx
            have HGS := Lib.hid hgs; have HSTEP := Lib.hid hstep
            have HLT := Lib.hid hnx.2
            have hnr := nearL_len S v
            have hfew := HG.out.few
            have HNR := Lib.hid (show (nearL S v).length ≤ 1000 by omega)
            have HU := Lib.hid (mergeL_len true true true _ (v :: O') (nearL S v) (Nat.le_refl _))
            have HBU := Lib.hid (mergeL_len true false false _ Lf [v] (Nat.le_refl _))
            obtain ⟨n, hn⟩ : ∃ n, l.length = n := ⟨_, rfl⟩
            obtain ⟨p, hp⟩ : ∃ p, (v :: O').length = p := ⟨_, rfl⟩
            obtain ⟨q, hq⟩ : ∃ q, Lf.length = q := ⟨_, rfl⟩
            rw [hn] at HW HAL HAO hle ⊢
            rw [hp] at HO HAO hol HU ⊢
            rw [hq] at HLF HAL hlfl HBU ⊢
            have HN := Lib.hid hn; have HP := Lib.hid hp; have HQ := Lib.hid hq
            have t9 : decide ((0 : Int) < (p : Nat)) = true := decide_eq_true (by rw [← hp, List.length_cons]; omega)
            have t9' : decide (0 < p) = true := decide_eq_true (by rw [← hp]; simp)
            have i5 : (0 : Int) < p := by rw [← hp, List.length_cons]; omega
            subst hAo
            clear hlf ho hown hal hao hgo hB hst hnx hstep hgs hn hp hq hnr hfew
            go_wp2_with (at_builtin; refine wpList_app1g _ rfl _ _ 22 rfl w.heap.size 3 j1 (.int .i64 0) 8 Try.underlying22 hi1 ky0 ky1 ky2 rfl _ n _ rfl HW.out _ rfl rfl (by omega) (by omega) hsz ?_)
            intro A3 c3 w7 hown3 hgrow3
            obtain ⟨hlf7, hal7⟩ := ApartV.grew HLF.out HAL.out hgrow3
            obtain ⟨ho7, hao7⟩ := ApartV.grew HO.out HAO.out hgrow3
            have hB7 := hgrow3.below HW.out HB.out (Nat.le_refl _) hsz
            have hown3' : w7.ownsRow w.heap.size 3 1 (.slice A3 (n + 1) c3) (n + 1) (intCells (l ++ [v])) := by rw [intCells_app]; exact hown3
            have L7 := Lib.hid (setLess_own Lf v _ w7 hlf7 (by rw [HQ.out]; omega))
            have HOW7 := Lib.hid hown3'; have HB7 := Lib.hid hB7; have HO7 := Lib.hid ho7; have HAO7 := Lib.hid hao7
            clear hown3 hgrow3 hlf7 hal7 ho7 hao7 hB7 hown3' HLF HAL HO HAO HW
            go_wp2_with fail
            refine L7.out.mono ?_; rintro e w8 ⟨v8, rfl, ho8, hb8⟩
            have hB8 := HB7.out.trans (hb8.mono HB7.out.size)
            have N8 := Lib.hid ((HG.out.below hB8).near v)
            have HA8 := Lib.hid (ApartV.own HOW7.out ho8); have HS8 := Lib.hid (own_seqC ho8); have HB8 := Lib.hid hB8
            have HOW8 := Lib.hid (own_below HOW7.out hb8 (Nat.le_refl _)); have HO8 := Lib.hid (HO7.out.below hb8 (Nat.le_refl _))
            obtain ⟨A8, c8, rfl⟩ := own_form ho8
            clear ho8 hb8 hB8
            go_wp2_with fail
            refine N8.out.mono ?_; rintro e w9 ⟨v9, rfl, ho9, hb9⟩
            have hB9 := HB8.out.trans (hb9.mono HB8.out.size)
            have U9 := Lib.hid (union_any (v :: O') (nearL S v) _ _ w9 (HO8.out.below hb9 (Nat.le_refl _)) (own_seqC ho9) (by rw [HP.out]; omega) (by have := HNR.out; omega))
            have HB9 := Lib.hid hB9; have HOW9 := Lib.hid (own_below HOW8.out hb9 (Nat.le_refl _)); have HS9 := Lib.hid (HS8.out.below hb9 (Nat.le_refl _)); have HA9 := Lib.hid (HA8.out.below hb9.size)
            obtain ⟨A9, c9, rfl⟩ := own_form ho9
            clear ho9 hb9 hB9
            go_wp2_with fail
            refine U9.out.mono ?_; rintro e w10 ⟨v10, rfl, hs10, hb10⟩
            have hB10 := HB9.out.trans (hb10.mono HB9.out.size)
            have K10 := Lib.hid (both_own (unionL (v :: O') (nearL S v)) (butL Lf [v]) _ _ w10 hs10 (HS9.out.below hb10 (Nat.le_refl _)) (by have := HU.out; have := HNR.out; unfold unionL; omega) (by have := HBU.out; unfold butL; simp at this; omega))
            have HB10 := Lib.hid hB10; have HOW10 := Lib.hid (own_below HOW9.out hb10 (Nat.le_refl _)); have HS10 := Lib.hid (HS9.out.below hb10 (Nat.le_refl _)); have HA10 := Lib.hid (HA9.out.below hb10.size)
            obtain ⟨_, A10, c10, rfl, _⟩ := id hs10
            clear hs10 hb10 hB10
            go_wp2_with fail
            refine K10.out.mono ?_; rintro e w11 ⟨v11, rfl, ho11, hb11⟩
            have HB11 := Lib.hid (HB10.out.trans (hb11.mono HB10.out.size))
            have HOW11 := Lib.hid (own_below HOW10.out hb11 (Nat.le_refl _)); have HS11 := Lib.hid (HS10.out.below hb11 (Nat.le_refl _)); have HA11 := Lib.hid (HA10.out.below hb11.size)
            have HAO11 := Lib.hid (ApartV.own HOW10.out ho11); have HO11 := Lib.hid (own_seqC ho11)
            obtain ⟨A11, c11, rfl⟩ := own_form ho11
            clear ho11 hb11
            go_wp2_with fail
            go_roundg (T.length - (l ++ [v]).length)
            case rel => exact ⟨l ++ [v], butL Lf [v], bothL (unionL (v :: O') (nearL S v)) (butL Lf [v]), HSTEP.out, rfl, HS11.out, HO11.out, by rw [List.length_append, HN.out]; exact HOW11.out, HA11.out, HAO11.out, HGS.out.symm, HB11.out⟩
            case measure => have := HLT.out; rw [List.length_append]; simp; omega
end Go.Proofs.Ytploaffmhemjkaa
