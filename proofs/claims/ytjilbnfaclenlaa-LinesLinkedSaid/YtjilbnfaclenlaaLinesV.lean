/- lines: Verts. -/
import Derived.Test.YtjilbnfaclenlaaLinesM
namespace Go.Proofs.Ytjilbnfaclenlaa
open Go.RowKit

/-- A vertex is put behind, if it does not stand there. -/
def addV (Q : List Int) (v : Int) : List Int := if v ∈ Q then Q else Q ++ [v]
/-- The vertices of some edges, as they first stand. -/
def vertsE (E : List (Int × Int)) : List Int := E.foldl (fun Q e => addV (addV Q e.1) e.2) []
theorem addV_le (Q : List Int) (v : Int) : (addV Q v).length ≤ Q.length + 1 := by
  unfold addV
  split <;> simp
theorem vertsE_snoc (E : List (Int × Int)) (e : Int × Int) : vertsE (E ++ [e]) = addV (addV (vertsE E) e.1) e.2 := by
  unfold vertsE
  rw [List.foldl_append]
  rfl
theorem vertsE_le : ∀ (k : Nat) (E : List (Int × Int)), E.length = k → (vertsE E).length ≤ 2 * k
  | 0, E, h => by rw [List.eq_nil_of_length_eq_zero h]; exact Nat.le_refl _
  | k + 1, E, h => by
    have hne : E ≠ [] := by intro e; rw [e] at h; simp at h
    have e1 := List.dropLast_concat_getLast hne
    rw [← e1, vertsE_snoc]
    have h1 := vertsE_le k E.dropLast (by simp [h])
    have h2 := addV_le (vertsE E.dropLast) (E.getLast hne).1
    have h3 := addV_le (addV (vertsE E.dropLast) (E.getLast hne).1) (E.getLast hne).2
    omega

theorem run_mapNone (w : World) : (Instr.makeMap 66 none).run Try.prog w = .ok (.map (some w.heap.size)) (w.alloc (.map #[] 0)) := by
  simp [Instr.makeMap, Result.andThen]

set_option maxRecDepth 100000 in
set_option maxHeartbeats 2000000 in
theorem verts_any {w : World} {base g : Nat} {L : List Int} {S : List (Int × Int)} (hG : GraphOwn w base g L S) (l : List Int) (vl : Value) (hl : SeqV w vl l) (hn : l.length ≤ 1000000) (hE : ∀ e, e ∈ S → In64 e.1 ∧ In64 e.2) :
    Calls Try.prog 22 #[.pointer (some ⟨g, 0, none⟩), vl] w fun e w' => ∃ v', e = .returned v' ∧ w'.ownsRow w.heap.size 3 1 v' (vertsE (endsL S l)).length (intCells (vertsE (endsL S l))) ∧ Below w.heap.size w w' := by
  have hEin : ∀ e, e ∈ endsL S l → In64 e.1 ∧ In64 e.2 := fun e he => by
    unfold endsL at he
    rw [List.mem_filterMap] at he
    obtain ⟨id, _, he⟩ := he
    split at he
    · injection he with he
      rw [← he]
      exact edgeOr_in hE id
    · cases he
  have hEl := endsL_le S l
  obtain ⟨j1, hi1, ky0, ky1, ky2⟩ := info_parts Try.infoInt6
  have hb1 := (Below.refl w.heap.size w).alloc (Nat.le_refl _) (.map #[] 0)
  have HEN := Lib.hid (ends_any (hG.below hb1 (Nat.le_refl _)) l vl (hl.below hb1 (Nat.le_refl _)) hn)
  have HB0 := Lib.hid hb1
  have HS0 := Lib.hid (IntSet.made w)
  obtain ⟨E, hEE⟩ : ∃ E, endsL S l = E := ⟨_, rfl⟩
  rw [hEE] at HEN hEin hEl ⊢
  obtain ⟨n, hnn⟩ : ∃ n, E.length = n := ⟨_, rfl⟩
  rw [hnn] at HEN hEl
  have HN := Lib.hid hnn; have HEI := Lib.hid hEin
  have hn2 : n ≤ 1000000 := by omega
  have hmk := run_mapNone w
  clear hG hl hnn hEE hEin hb1 hEl hE hn
  go_enter Try.func22, Try.ntmps22
  go_wp2_with fail
  refine HEN.out.mono ?_; rintro e w2 ⟨ve, rfl, hve, hb2⟩
  obtain ⟨A0, c0, rfl⟩ := own_form hve
  have hS2 := HS0.out.below hb2 (Nat.le_refl _)
  have hB2 := HB0.out.trans (hb2.mono HB0.out.size)
  have hve' : w2.ownsRow (w.heap.size + 1) 40 2 (.slice A0 n c0) n (eL E) := own_base hve (by simp)
  have HVE := Lib.hid hve'; have HS2 := Lib.hid hS2; have HB2 := Lib.hid hB2
  clear hve hb2 hS2 hB2 hve'
  go_wp2_with fail
  go_loopg [5, 18] n (fun gh rv yv wr => ∃ i, i ≤ n ∧ gh = n - i ∧ yv = .int .i64 (i : Nat) ∧ wr.ownsRow (w.heap.size + 1) 3 1 rv (vertsE (E.take i)).length (intCells (vertsE (E.take i))) ∧ wr.ownsRow (w.heap.size + 1) 40 2 (.slice A0 n c0) n (eL E) ∧ IntSet wr w.heap.size (vertsE (E.take i)) ∧ Below w.heap.size w wr)
  case atStart => exact ⟨0, Nat.zero_le _, rfl, rfl, World.ownsRow_nil _ _ _ 1, HVE.out, HS2.out, HB2.out⟩
  case round =>
    obtain ⟨i, hi, rfl, rfl, hown, hve, hset, hB⟩ := hrel
    obtain ⟨A, c, rfl⟩ := own_form hown
    by_cases hlt : i < n
    · have hiE : i < E.length := by rw [HN.out]; exact hlt
      obtain ⟨bb, off, rfl, d0, d1⟩ := EdgesV.pos (by have := own_edges hve; exact this) hiE
      obtain ⟨⟨x, y⟩, he⟩ : ∃ e, E.getD i (0, 0) = e := ⟨_, rfl⟩
      rw [he] at d0 d1
      simp only at d0 d1
      have hE1 : E[i] = (x, y) := by rw [← he]; simp [List.getD, hiE]
      have hin := HEI.out (x, y) (by rw [← hE1]; exact List.getElem_mem _)
      have hnext : vertsE (E.take (i + 1)) = addV (addV (vertsE (E.take i)) x) y := by rw [List.take_succ_eq_append_getElem hiE, hE1, vertsE_snoc]
      have hle : (vertsE (E.take i)).length ≤ 2 * n := by
        have := vertsE_le (E.take i).length (E.take i) rfl
        rw [List.length_take] at this
        omega
      obtain ⟨Q, hQ⟩ : ∃ Q, vertsE (E.take i) = Q := ⟨_, rfl⟩
      rw [hQ] at hown hset hnext hle ⊢
      have t3 : decide (i < n) = true := decide_eq_true hlt
      have i1 : (i : Int) < n := by omega
      have i2 : (0 : Int) ≤ i := by omega
      have hb1 : Below wr.heap.size wr ((wr.alloc (.cells #[.int .i64 x, .int .i64 y] 40)).alloc (.cells #[.int .i64 x, .int .i64 y] 3)) := ((Below.refl wr.heap.size wr).alloc (Nat.le_refl _) _).alloc (by simp) _
      have hX := Whole.new wr 40 #[.int .i64 x, .int .i64 y]
      have hlit := whole_next wr (.cells #[.int .i64 x, .int .i64 y] 40) 3 #[.int .i64 x, .int .i64 y]
      have x0 : (wr.alloc (.cells #[.int .i64 x, .int .i64 y] 40)).cell? ⟨wr.heap.size, 0, none⟩ = some (.int .i64 x) := hX.cell 0
      have x1 : (wr.alloc (.cells #[.int .i64 x, .int .i64 y] 40)).cell? ⟨wr.heap.size, 1, none⟩ = some (.int .i64 y) := hX.cell 1
      have hO1 := own_below hown hb1 (Nat.le_refl _)
      have hV1 := own_below hve hb1 (Nat.le_refl _)
      have hS1 := hset.below hb1 (Nat.le_refl _)
      have hB1 := hB.trans (hb1.mono hB.size)
      have hnl : ∀ k, (Value.slice A Q.length c).ownBlock = some k → k ≠ wr.heap.size + 1 := fun k hk => by have := (hown.lt k hk).2; omega
      have hmb := hset.lt
      obtain ⟨lb, hlb⟩ : ∃ b, wr.heap.size + 1 = b := ⟨_, rfl⟩
      have hml : w.heap.size < lb := by omega
      rw [hlb] at hlit hnl
      have HLB := Lib.hid hlb; have HML := Lib.hid hml
      have HO1 := Lib.hid hO1; have HV1 := Lib.hid hV1; have HS1 := Lib.hid hS1; have HB1 := Lib.hid hB1; have HLIT := Lib.hid hlit; have HNL := Lib.hid hnl; have HIN := Lib.hid hin; have HNX := Lib.hid hnext; have HLE := Lib.hid hle; have HLT := Lib.hid hlt; have HMB := Lib.hid hmb
      clear hown hve hset hB hb1 hX hlit hO1 hV1 hS1 hB1 hnl hin hnext hle hlt hiE he hE1 hQ hmb hlb hml
      go_wp2_with fail
      rw [HLB.out]
      go_loopg [5, 28] 2 (fun gh rv yv ws => ∃ j Q', j ≤ 2 ∧ gh = 2 - j ∧ yv = .int .i64 (j : Nat) ∧ Q' = ([x, y].take j).foldl addV Q ∧ ws.ownsRow (w.heap.size + 1) 3 1 rv Q'.length (intCells Q') ∧ ws.ownsRow (w.heap.size + 1) 40 2 (.slice (some ⟨bb, off, none⟩) n c0) n (eL E) ∧ IntSet ws w.heap.size Q' ∧ Below w.heap.size w ws ∧ Whole ws lb 3 #[.int .i64 x, .int .i64 y] ∧ (∀ k, rv.ownBlock = some k → k ≠ lb))
      case atStart => exact ⟨0, Q, Nat.zero_le _, rfl, rfl, rfl, HO1.out, HV1.out, HS1.out, HB1.out, HLIT.out, HNL.out⟩
      case round =>
        obtain ⟨j, Q', hj, rfl, rfl, hQ', hown, hve, hset, hB, hlit, hnl⟩ := hrel
        obtain ⟨A2, c2, rfl⟩ := own_form hown
        by_cases hlt : j < 2
        · obtain ⟨v, hv⟩ : ∃ v, [x, y].getD j 0 = v := ⟨_, rfl⟩
          have hfacts : wr.cell? ⟨lb, j, none⟩ = some (.int .i64 v) ∧ In64 v ∧ ([x, y].take (j + 1)).foldl addV Q = addV Q' v ∧ Q'.length ≤ 2 * n + 2 := by
            have h1 := addV_le Q x
            have h2 := HLE.out
            rcases (by omega : j = 0 ∨ j = 1) with rfl | rfl
            · subst hv; exact ⟨hlit.cell 0, HIN.out.1, by rw [hQ']; rfl, by rw [hQ']; show Q.length ≤ _; omega⟩
            · subst hv; exact ⟨hlit.cell 1, HIN.out.2, by rw [hQ']; rfl, by rw [hQ']; show (addV Q x).length ≤ _; omega⟩
          obtain ⟨hc, hin, hstep, hq2⟩ := hfacts
          have hc0 : wr.cell? ⟨lb, 0 + j, none⟩ = some (.int .i64 v) := by rw [Nat.zero_add]; exact hc
          obtain ⟨nn, D, hmap, hnn, hD⟩ := hset
          have hk := keyOf_int hin
          have hd := hD _ _ hk
          have hnn2 : nn < maxLen := by unfold maxLen; omega
          obtain ⟨q, hq⟩ : ∃ q, Q'.length = q := ⟨_, rfl⟩
          rw [hq] at hown hq2 hnl ⊢
          have t3 : decide ((j : Int) < 2) = true := decide_eq_true (by omega)
          have t3' : decide (j < 2) = true := decide_eq_true hlt
          have k1 : (j : Int) < 2 := by omega
          have k2 : (0 : Int) ≤ j := by omega
          have hbu : Below wr.heap.size wr (wr.alloc (.cells #[] 67)) := (Below.refl _ _).alloc (Nat.le_refl _) _
          have HBU := Lib.hid hbu
          have HMAP := Lib.hid (fun (W : World) (hb : Below wr.heap.size wr W) => ints_below hmap hb (Nat.le_refl _))
          have HOU := Lib.hid (own_below hown hbu (Nat.le_refl _)); have HVU := Lib.hid (own_below hve hbu (Nat.le_refl _)); have HBBU := Lib.hid (hB.trans (hbu.mono hB.size)); have HLU := Lib.hid (hlit.below hbu hlit.lt)
          have HNL2 := Lib.hid hnl; have HD := Lib.hid hD; have HNN := Lib.hid hnn; have HK := Lib.hid hk; have HQ := Lib.hid hq; have HST := Lib.hid hstep; have HJ := Lib.hid hlt; have HQ2 := Lib.hid hq2
          obtain ⟨z, hz⟩ : ∃ z, decide (v ∈ Q') = z := ⟨_, rfl⟩
          rw [hz] at hd
          have HD1 := Lib.hid hd; have HZ := Lib.hid hz
          clear hmap hown hve hB hlit hnl hD hnn hk hq hstep hlt hd hz hbu hin hv hQ' hq2
          cases z with
          | true =>
            have hS5 : Hid (IntSet (wr.alloc (.cells #[] 67)) w.heap.size Q') := Lib.hid ⟨nn, D, HMAP.out _ HBU.out, HNN.out, HD.out⟩
            have hstay : Hid (addV Q' v = Q') := Lib.hid (by unfold addV; rw [if_pos (of_decide_eq_true HZ.out)])
            go_wp2_with (at_lookup; refine wpList_lookup_own_unit _ rfl _ _ 66 rfl 3 67 int_key Try.underlying66 (zero_unit _) w.heap.size nn D rfl (HMAP.out _ (Below.refl _ _)) _ (.int .i64 v) rfl HK.out ?_; rw [HD1.out])
            go_roundg (2 - (j + 1))
            case rel => exact ⟨j + 1, Q', HJ.out, rfl, by go_num, by rw [HST.out, hstay.out], by rw [HQ.out]; exact HOU.out, HVU.out, hS5.out, HBBU.out, HLU.out, HNL2.out⟩
            case measure => have := HJ.out; omega
          | false =>
            have hmore : Hid (addV Q' v = Q' ++ [v]) := Lib.hid (by unfold addV; rw [if_neg (of_decide_eq_false HZ.out)])
            go_wp2_with (first | (at_lookup; refine wpList_lookup_own_unit _ rfl _ _ 66 rfl 3 67 int_key Try.underlying66 (zero_unit _) w.heap.size nn D rfl (HMAP.out _ (Below.refl _ _)) _ (.int .i64 v) rfl HK.out ?_; rw [HD1.out]) | (at_mapUpdate; refine wpList_mapUpdate_own _ rfl _ _ _ 66 rfl 3 67 int_key Try.underlying66 Go.unitElem w.heap.size nn D rfl (HMAP.out _ HBU.out) hnn2 _ _ (.int .i64 v) rfl rfl HK.out (.agg []) [] Go.unitElem_mk ?_))
            intro w4 hown4 hgrow4
            have hS4 := IntSet.put HK.out HNN.out (HMAP.out _ HBU.out).isMap HD.out hown4
            have hO4 := HOU.out.kept hgrow4 (Or.inr (fun e => by have := (HOU.out.lt _ e).1; omega))
            have hV4 := HVU.out.kept hgrow4 (Or.inr (fun e => by have := (HVU.out.lt _ e).1; omega))
            have hB4 : Below w.heap.size w w4 := HBBU.out.grown hgrow4 HBBU.out.size (fun q hq => by injection hq with hq; omega)
            have hL4 := HLU.out.grown hgrow4 (fun he => by injection he with he; have := HML.out; omega)
            have hsz : w.heap.size + 1 ≤ w4.heap.size := hS4.lt
            have HS4 := Lib.hid hS4; have HO4 := Lib.hid hO4; have HV4 := Lib.hid hV4; have HB4 := Lib.hid hB4; have HL4 := Lib.hid hL4
            clear hown4 hgrow4 hS4 hO4 hV4 hB4 hL4
            go_wp2_with (at_builtin; refine wpList_app1g _ rfl _ _ 22 rfl (w.heap.size + 1) 3 j1 (.int .i64 0) 8 Try.underlying22 hi1 ky0 ky1 ky2 rfl _ q _ rfl HO4.out _ rfl rfl (by have := HQ2.out; omega) (by omega) hsz ?_)
            intro A3 c3 w9 hown3 hgrow3
            have hb9 : Below w.heap.size w w9 := hgrow3.below HO4.out HB4.out (Nat.le_succ _) hsz
            have hs9 : IntSet w9 w.heap.size (Q' ++ [v]) := HS4.out.kept hgrow3.1 (fun e => by have := (HO4.out.lt _ e.symm).1; omega)
            have hv9 := HV4.out.kept hgrow3.1 (own_apart HV4.out HO4.out (by decide))
            have hl9 := HL4.out.grown hgrow3.1 (fun he => HNL2.out _ he.symm rfl)
            have hn9 : ∀ k, (Value.slice A3 (q + 1) c3).ownBlock = some k → k ≠ lb := fun k hk => by
              rcases hgrow3.2 with h | ⟨g', h, hg'⟩
              · rw [h] at hk; exact HNL2.out k hk
              · rw [h] at hk; injection hk with hk; have := HL4.out.lt; omega
            have HO9 := Lib.hid hown3; have HB9 := Lib.hid hb9; have HS9 := Lib.hid hs9; have HV9 := Lib.hid hv9; have HL9 := Lib.hid hl9; have HN9 := Lib.hid hn9
            clear hown3 hgrow3 hb9 hs9 hv9 hl9 hn9
            go_wp2_with fail
            go_roundg (2 - (j + 1))
            case rel => exact ⟨j + 1, Q' ++ [v], HJ.out, rfl, by go_num, by rw [HST.out, hmore.out], by rw [intCells_app, List.length_append, HQ.out]; exact HO9.out, HV9.out, HS9.out, HB9.out, HL9.out, HN9.out⟩
            case measure => have := HJ.out; omega
        · obtain rfl : j = 2 := by omega
          have t3 : decide (((2 : Nat) : Int) < 2) = false := by decide
          have hQ2 : vertsE (E.take (i + 1)) = Q' := by rw [HNX.out, hQ']; rfl
          have HO := Lib.hid hown; have HVF := Lib.hid hve; have HSF := Lib.hid hset; have HBF := Lib.hid hB; have HQF := Lib.hid hQ2
          clear hown hve hset hB hQ2 hQ' hlit hnl hlt
          go_wp2_with fail
          go_roundg (n - (i + 1))
          case rel => exact ⟨i + 1, HLT.out, rfl, by go_num, by rw [HQF.out]; exact HO.out, HVF.out, by rw [HQF.out]; exact HSF.out, HBF.out⟩
          case measure => have := HLT.out; omega
    · obtain rfl : i = n := by omega
      have t3 : decide (i < i) = false := by simp
      have hf : E.take i = E := List.take_of_length_le (by rw [HN.out]; omega)
      rw [hf] at hown ⊢
      have HO := Lib.hid (own_base hown (Nat.le_succ _)); have HB := Lib.hid hB
      clear hlt hown hB hset hve hf
      go_wp2_with fail
      go_ret
      exact ⟨_, rfl, HO.out, HB.out⟩
end Go.Proofs.Ytjilbnfaclenlaa
