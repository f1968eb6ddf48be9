/- vert.Next, Bare. -/
import Derived.Test.YtploaffmhemjkaaList
namespace Go.Proofs.Ytploaffmhemjkaa
open Go.RowKit

def idsL (k : Nat) : List Int := (List.range k).map fun (i : Nat) => (i : Int)
theorem idsL_succ (k : Nat) : idsL (k + 1) = idsL k ++ [(k : Int)] := by
  unfold idsL
  rw [List.range_succ, List.map_append]
  rfl
theorem idsL_len (k : Nat) : (idsL k).length = k := by simp [idsL]
theorem idsL_mem {k : Nat} {x : Int} : x ∈ idsL k ↔ hasV k x = true := by
  unfold idsL hasV
  rw [List.mem_map, Bool.and_eq_true, decide_eq_true_eq, decide_eq_true_eq]
  constructor
  · rintro ⟨i, hi, rfl⟩
    have := List.mem_range.1 hi
    omega
  · rintro ⟨h0, h1⟩
    exact ⟨x.toNat, List.mem_range.2 (by omega), by omega⟩
theorem idsL_rising (k : Nat) : Rising (idsL k) := by
  unfold idsL Rising
  rw [List.pairwise_map]
  exact List.pairwise_lt_range.imp (fun h => by omega)
/-- The vertices beside a list, rising. -/
def nxtL (n : Nat) (b : Int → Int → Bool) (l : List Int) : List Int := (idsL n).filter fun v => l.isEmpty || (!l.contains v && bes b l v)
theorem nxtL_rising (n : Nat) (b : Int → Int → Bool) (l : List Int) : Rising (nxtL n b l) := (idsL_rising n).filter _
theorem nxtL_nil (n : Nat) (b : Int → Int → Bool) : nxtL n b [] = idsL n := by
  unfold nxtL
  exact List.filter_eq_self.2 (fun _ _ => rfl)
theorem nxtL_mem {n : Nat} {b : Int → Int → Bool} {l : List Int} {y : Int} : y ∈ nxtL n b l ↔ hasV n y = true ∧ (l = [] ∨ (y ∉ l ∧ bes b l y = true)) := by
  unfold nxtL
  rw [List.mem_filter, idsL_mem]
  simp
theorem nxtL_len (n : Nat) (b : Int → Int → Bool) (l : List Int) : (nxtL n b l).length ≤ n := by
  have := List.length_filter_le (fun v => l.isEmpty || (!l.contains v && bes b l v)) (idsL n)
  rwa [idsL_len] at this
theorem adj_range {S : List (Int × Int)} {n : Nat} (hR : ∀ e, e ∈ S → 0 ≤ e.1 ∧ e.2 < (n : Int)) {u v : Int} (h : adj S u v = true) : hasV n v = true := by
  rw [adj_comm] at h
  cases hv : hasV n v with
  | true => rfl
  | false =>
    unfold adj at h
    rw [idL_range hR hv] at h
    cases h
/-- Those beside some, in a row. -/
def beside (S : List (Int × Int)) (T : List Int) : List Int := T.flatMap (nearL S)
theorem beside_succ {S : List (Int × Int)} {T : List Int} {i : Nat} (hi : i < T.length) : beside S (T.take (i + 1)) = beside S (T.take i) ++ nearL S (T.getD i 0) := by
  unfold beside
  rw [List.take_succ_eq_append_getElem hi, List.flatMap_append]
  simp [List.getD, hi]
theorem beside_len (S : List (Int × Int)) : ∀ T : List Int, (beside S T).length ≤ T.length * S.length
  | [] => by simp [beside]
  | a :: t => by
    have ih := beside_len S t
    have h1 := nearL_len S a
    unfold beside at ih ⊢
    rw [List.flatMap_cons, List.length_append, List.length_cons, Nat.add_mul]
    omega
theorem next_eq {S : List (Int × Int)} {n : Nat} (hF : Fine S) (hR : ∀ e, e ∈ S → 0 ≤ e.1 ∧ e.2 < (n : Int)) {l : List Int} (hl : l ≠ []) : butL (ofR (beside S (ofR l))) (ofR l) = nxtL n (adj S) l := by
  obtain ⟨p1, p2, _⟩ := ofR_parts _ l rfl
  obtain ⟨q1, q2, _⟩ := ofR_parts _ (beside S (ofR l)) rfl
  obtain ⟨b1, b2⟩ := butL_spec q1 p1
  refine rising_eq b1 (nxtL_rising _ _ _) (fun y => ?_)
  rw [b2, q2, p2, nxtL_mem, bes_iff]
  unfold beside
  rw [List.mem_flatMap]
  constructor
  · rintro ⟨⟨u, hu, hy⟩, hn⟩
    rw [adj_near hF] at hy
    exact ⟨adj_range hR hy, Or.inr ⟨hn, u, (p2 u).1 hu, hy⟩⟩
  · rintro ⟨_, h | ⟨hn, u, hu, hy⟩⟩
    · exact absurd h hl
    · exact ⟨⟨u, (p2 u).2 hu, (adj_near hF).2 hy⟩, hn⟩

set_option maxRecDepth 100000 in
set_option maxHeartbeats 1000000 in
theorem next_any {w : World} {base m : Nat} {g : Value} {S : List (Int × Int)} (hG : GF w base g m S) (l : List Int) (vl : Value) (hl : SeqV w vl l) (hn : l.length ≤ 1000) :
    Calls Try.prog 19 #[g, vl] w fun e w' => ∃ v', e = .returned v' ∧ w'.ownsRow w.heap.size 3 1 v' (nxtL m (adj S) l).length (intCells (nxtL m (adj S) l)) ∧ Below w.heap.size w w' := by
  obtain ⟨j1, hi1, ky0, ky1, ky2⟩ := info_parts Try.infoInt6
  have OF := Lib.hid (setOf_any l vl w hl (by omega))
  obtain ⟨A, c, rfl⟩ := IntsV.form hl
  obtain ⟨n, hln⟩ : ∃ n, l.length = n := ⟨_, rfl⟩
  rw [hln] at hn OF ⊢
  have hlow := hG.low
  rcases Nat.eq_zero_or_pos n with h0 | h0
  · have hl0 : l = [] := List.eq_nil_of_length_eq_zero (by omega)
    subst hl0 h0
    rw [nxtL_nil]
    have LN := Lib.hid hG.len
    clear hG hl hln
    go_enter Try.func19, Try.ntmps19
    go_wp2_with fail
    refine LN.out.mono ?_; rintro e w1 ⟨rfl, hw⟩; obtain rfl := hw.symm
    go_wp2_with fail
    go_loopg [5, 15] m (fun gh rv yv wr => ∃ i, i ≤ m ∧ gh = m - i ∧ yv = .int .i64 (i : Nat) ∧ wr.ownsRow w.heap.size 3 1 rv i (intCells (idsL i)) ∧ Below w.heap.size w wr)
    case atStart => exact ⟨0, Nat.zero_le _, rfl, rfl, World.ownsRow_nil _ _ _ 1, Below.refl _ _⟩
    case round =>
      obtain ⟨i, hi, rfl, rfl, hown, hB⟩ := hrel
      obtain ⟨A, c, rfl⟩ := own_form hown
      have HO := Lib.hid hown; have HB := Lib.hid hB
      have hsz := hB.size
      by_cases hit : i < m
      · have t5 : decide (i < m) = true := decide_eq_true hit
        have i1 : (i : Int) < m := by omega
        have i2 : (0 : Int) ≤ i := by omega
        have HIT := Lib.hid hit
        clear hown hB hit
        go_wp2_with (at_builtin; refine wpList_app1g _ rfl _ _ 22 rfl w.heap.size 3 j1 (.int .i64 0) 8 Try.underlying22 hi1 ky0 ky1 ky2 rfl _ i _ rfl HO.out _ rfl rfl (by omega) (by omega) hsz ?_)
        intro A3 c3 w7 hown3 hgrow3
        have HB7 := Lib.hid (hgrow3.below HO.out HB.out (Nat.le_refl _) hsz)
        have HO7 := Lib.hid (show w7.ownsRow w.heap.size 3 1 (.slice A3 (i + 1) c3) (i + 1) (intCells (idsL (i + 1))) by rw [idsL_succ, intCells_app]; exact hown3)
        clear hown3 hgrow3
        go_wp2_with fail
        go_roundg (m - (i + 1))
        case rel => exact ⟨i + 1, HIT.out, rfl, by go_num, HO7.out, HB7.out⟩
        case measure => have := HIT.out; omega
      · obtain rfl : m = i := by omega
        have t5 : decide (m < m) = false := by simp
        clear hown hB hit
        go_wp2_with fail
        go_ret
        exact ⟨_, rfl, by rw [idsL_len]; exact HO.out, HB.out⟩
  · have hne : l ≠ [] := fun e => by rw [e] at hln; simp at hln; omega
    obtain ⟨p1, p2, p3⟩ := ofR_parts _ l rfl
    have heq := next_eq hG.fine hG.rng hne
    have hbl := beside_len S (ofR l)
    have hfew := hG.few
    have hbl2 : (beside S (ofR l)).length ≤ 1000000 := by
      refine Nat.le_trans hbl ?_
      exact Nat.le_trans (Nat.mul_le_mul (show (ofR l).length ≤ 1000 by omega) hfew) (by omega)
    have hpre : ∀ i, (beside S ((ofR l).take i)).length ≤ 1000000 := fun i => by
      refine Nat.le_trans (beside_len S _) ?_
      refine Nat.le_trans (Nat.mul_le_mul (show ((ofR l).take i).length ≤ 1000 by rw [List.length_take]; omega) hfew) (by omega)
    have t0 : ((n : Int) == 0) = false := by simp; omega
    obtain ⟨R, hR⟩ : ∃ R, nxtL m (adj S) l = R := ⟨_, rfl⟩
    obtain ⟨T, hT⟩ : ∃ T, ofR l = T := ⟨_, rfl⟩
    rw [hT] at heq OF hbl2 hpre p3
    rw [hR] at heq ⊢
    have HG := Lib.hid hG; have HEQ := Lib.hid heq; have HPRE := Lib.hid hpre; have HBL := Lib.hid hbl2; have HNR := Lib.hid (fun v => Nat.le_trans (nearL_len S v) hfew)
    have hT1 : T.length ≤ 1000 := by omega
    clear hG hl hln hne p1 p2 p3 heq hbl hfew hbl2 hpre hR hT
    go_enter Try.func19, Try.ntmps19
    go_wp2_with fail
    refine OF.out.mono ?_; rintro e w1 ⟨v1, rfl, hs1, hb1⟩
    obtain ⟨k, hk⟩ : ∃ k, T.length = k := ⟨_, rfl⟩
    obtain ⟨_, A1, c1, rfl, _⟩ := id hs1
    rw [hk] at hs1 hT1 ⊢
    have HS1 := Lib.hid hs1; have HB1 := Lib.hid hb1; have HK := Lib.hid hk
    clear hs1 hb1 hk
    go_wp2_with fail
    go_loopg [5, 28] k (fun gh rv yv wr => ∃ i, i ≤ k ∧ gh = k - i ∧ yv = .int .i64 (i : Nat) ∧ wr.ownsRow w1.heap.size 3 1 rv (beside S (T.take i)).length (intCells (beside S (T.take i))) ∧ Below w1.heap.size w1 wr)
    case atStart => exact ⟨0, Nat.zero_le _, rfl, rfl, World.ownsRow_nil _ _ _ 1, Below.refl _ _⟩
    case round =>
      obtain ⟨i, hi, rfl, rfl, hown, hB⟩ := hrel
      have hp := HPRE.out i
      have hsz := hB.size
      by_cases hit : i < k
      · have hiT : i < T.length := by rw [HK.out]; exact hit
        have hsu := beside_succ (S := S) hiT
        obtain ⟨bx, ox, hAx, hx⟩ := seqPos (HS1.out.1.below hB (Nat.le_refl _)) hiT
        obtain ⟨u, hu⟩ : ∃ u, T.getD i 0 = u := ⟨_, rfl⟩
        rw [hu] at hx hsu
        have NR := Lib.hid ((HG.out.below (HB1.out.trans (hB.mono HB1.out.size))).near u)
        obtain ⟨M, hM⟩ : ∃ M, beside S (T.take i) = M := ⟨_, rfl⟩
        rw [hM] at hown hp hsu
        obtain ⟨q, hq⟩ : ∃ q, M.length = q := ⟨_, rfl⟩
        rw [hq] at hown hp
        obtain ⟨A, c, rfl⟩ := own_form hown
        have HO := Lib.hid hown; have HB := Lib.hid hB; have HSU := Lib.hid hsu; have HQ := Lib.hid hq; have HIT := Lib.hid hit
        have t5 : decide (i < k) = true := decide_eq_true hit
        have i1 : (i : Int) < k := by omega
        have i2 : (0 : Int) ≤ i := by omega
        subst hAx
        clear hown hB hit hiT hsu hu hM hq
        go_wp2_with fail
        refine NR.out.mono ?_; rintro e w2 ⟨v2, rfl, ho2, hb2⟩
        have hs2 := own_seq ho2
        have hO2 := own_below HO.out hb2 (Nat.le_refl _)
        have hB2 := HB.out.trans (hb2.mono HB.out.size)
        have hsz2 := hB2.size
        obtain ⟨r, hr⟩ : ∃ r, (nearL S u).length = r := ⟨_, rfl⟩
        have hr9 := HNR.out u
        rw [hr] at ho2 hr9
        obtain ⟨A2, c2, rfl⟩ := own_form ho2
        have HS2 := Lib.hid hs2; have HO2 := Lib.hid hO2; have HB2 := Lib.hid hB2; have HR := Lib.hid hr
        clear ho2 hb2 hs2 hO2 hB2 hr
        go_wp2_with (at_builtin; refine wpList_appInts _ rfl _ _ 22 rfl w1.heap.size j1 Try.underlying22 hi1 ky0 ky1 ky2 _ q _ rfl HO2.out _ (nearL S u) rfl HS2.out (by rw [HR.out]; omega) hsz2 ?_)
        intro A3 c3 w7 hown3 hgrow3
        have HB7 := Lib.hid (hgrow3.below HO2.out HB2.out (Nat.le_refl _) hsz2)
        have HO7 := Lib.hid (show w7.ownsRow w1.heap.size 3 1 (.slice A3 (q + (nearL S u).length) c3) (beside S (T.take (i + 1))).length (intCells (beside S (T.take (i + 1)))) by rw [HSU.out, intCells_app, List.length_append, HQ.out]; exact hown3)
        clear hown3 hgrow3
        go_wp2_with fail
        go_roundg (k - (i + 1))
        case rel => exact ⟨i + 1, HIT.out, rfl, by go_num, HO7.out, HB7.out⟩
        case measure => have := HIT.out; omega
      · obtain rfl : k = i := by omega
        have t5 : decide (k < k) = false := by simp
        have htk : T.take k = T := List.take_of_length_le (by rw [HK.out]; exact Nat.le_refl _)
        rw [htk] at hown hp
        have OF2 := Lib.hid (setOf_any (beside S T) _ wr (own_seq hown) (by omega))
        obtain ⟨_, _, hle⟩ := ofR_parts _ (beside S T) rfl
        have HLE := Lib.hid hle
        obtain ⟨q, hq⟩ : ∃ q, (beside S T).length = q := ⟨_, rfl⟩
        rw [hq] at hown hp
        obtain ⟨A, c, rfl⟩ := own_form hown
        have HB := Lib.hid (HB1.out.trans (hB.mono HB1.out.size)); have HS := Lib.hid (HS1.out.below hB (Nat.le_refl _)); have HQ := Lib.hid hq
        clear hown hB hit htk hle hq
        go_wp2_with fail
        refine OF2.out.mono ?_; rintro e w2 ⟨v2, rfl, hs2, hb2⟩
        have BT := Lib.hid (but_own _ T _ _ w2 hs2 (HS.out.below hb2 (Nat.le_refl _)) (by have := HLE.out; rw [HQ.out] at this; omega) (by rw [HK.out]; omega))
        rw [HEQ.out] at BT
        have HB2 := Lib.hid (HB.out.trans (hb2.mono HB.out.size))
        obtain ⟨_, A2, c2, rfl, _⟩ := id hs2
        clear hs2 hb2
        go_wp2_with fail
        refine BT.out.mono ?_; rintro e w3 ⟨v3, rfl, ho3, hb3⟩
        have HO3 := Lib.hid (own_base ho3 HB2.out.size); have HB3 := Lib.hid (HB2.out.trans (hb3.mono HB2.out.size))
        obtain ⟨A3, c3, rfl⟩ := own_form ho3
        clear ho3 hb3
        go_wp2_with fail
        go_ret
        exact ⟨_, rfl, HO3.out, HB3.out⟩
end Go.Proofs.Ytploaffmhemjkaa
