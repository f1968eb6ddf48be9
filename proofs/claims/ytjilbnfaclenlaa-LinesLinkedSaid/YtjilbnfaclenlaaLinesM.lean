/- lines: sets of ints, Span. -/
import Derived.Test.YtjilbnfaclenlaaLinesT
namespace Go.Proofs.Ytjilbnfaclenlaa
open Go.RowKit

theorem int_key : Go.Maps.Keyed Try.prog 3 := Go.Maps.int_keyed Try.underlying3
theorem keyOf_int {x : Int} (h : In64 x) : keyOf Try.prog 3 (.int .i64 x) = some (.int .i64 x) := Go.Maps.keyOf_int_mk Try.underlying3 (wf_in64 h)
/-- A map that is a set of ints. -/
def IntSet (w : World) (b : Nat) (E : List Int) : Prop :=
  ∃ (n : Nat) (D : DataW Unit), w.ownsMap Try.prog 3 (Go.unitElem (H := Unit)) b n D ∧ n ≤ E.length ∧ ∀ (x : Int) (kl : Lit), keyOf Try.prog 3 (.int .i64 x) = some kl → Go.Maps.has D kl = decide (x ∈ E)
theorem IntSet.made (w : World) : IntSet (w.alloc (.map #[] 0)) w.heap.size [] :=
  ⟨0, .map [], World.ownsMap_made w _ _ _, Nat.le_refl _, fun e kl _ => by simp [Go.Maps.has]⟩
theorem IntSet.lt {w : World} {b : Nat} {E : List Int} (h : IntSet w b E) : b < w.heap.size := by
  obtain ⟨n, D, h, _⟩ := h
  exact h.lt
theorem IntSet.kept {w w' : World} {b : Nat} {E : List Int} {r : Option Nat} (h : IntSet w b E) (hg : w.grownBy w' r) (hne : some b ≠ r) : IntSet w' b E := by
  obtain ⟨n, D, h, h1, h2⟩ := h
  exact ⟨n, D, h.kept hg hne, h1, h2⟩
theorem IntSet.below {w w' : World} {b : Nat} {E : List Int} {B : Nat} (h : IntSet w b E) (hb : Below B w w') (hB : w.heap.size ≤ B) : IntSet w' b E :=
  h.kept (r := none) ⟨hb.os, hb.tape, hb.output, hb.size, fun i hi _ => hb.block i (by omega)⟩ (by simp)
theorem ints_below {w w' : World} {b n : Nat} {D : DataW Unit} {B : Nat} (h : w.ownsMap Try.prog 3 (Go.unitElem (H := Unit)) b n D) (hb : Below B w w') (hB : w.heap.size ≤ B) : w'.ownsMap Try.prog 3 (Go.unitElem (H := Unit)) b n D :=
  h.kept (show w.grownBy w' none from ⟨hb.os, hb.tape, hb.output, hb.size, fun i hi _ => hb.block i (by omega)⟩) (by simp)
theorem IntSet.put {w' : World} {b n : Nat} {E : List Int} {D : DataW Unit} {e : Int} {kl : Lit} {d : DataW Unit} (hk : keyOf Try.prog 3 (.int .i64 e) = some kl) (hn : n ≤ E.length) (hi : Go.Maps.IsMap D)
    (hD : ∀ (e : Int) (kl : Lit), keyOf Try.prog 3 (.int .i64 e) = some kl → Go.Maps.has D kl = decide (e ∈ E)) (h' : w'.ownsMap Try.prog 3 (Go.unitElem (H := Unit)) b (n + 1) (D.put kl d)) : IntSet w' b (E ++ [e]) := by
  refine ⟨n + 1, _, h', by simp; omega, fun x kx hx => ?_⟩
  by_cases hxe : x = e
  · subst hxe
    have hkk : kx = kl := by
      rw [hk] at hx
      exact (Option.some.inj hx).symm
    rw [hkk]
    rw [Go.Maps.has_put_same hi (int_key.key hk)]
    simp
  · have hne : kx ≠ kl := by
      intro h
      rw [h] at hx
      have := int_key.inj hx hk
      injection this with _ this
      exact hxe this
    rw [Go.Maps.has_put_other hne, hD x kx hx]
    simp [hxe]
theorem run_makeInts (n : Int) (w : World) : (Instr.makeMap 66 (some (.int .i64 n))).run Try.prog w = .ok (.map (some w.heap.size)) (w.alloc (.map #[] 0)) := by
  simp [Instr.makeMap, run_underlying Try.underlying66, asInt, asIntOf, Result.andThen]

/-- The numbers of the edges among some vertices. -/
def spanL (S : List (Int × Int)) (V : List Int) : Nat → List Int
  | 0 => []
  | i + 1 => spanL S V i ++ (if decide ((edgeOr S (i : Nat)).1 ∈ V) && decide ((edgeOr S (i : Nat)).2 ∈ V) then [(i : Int)] else [])
theorem spanL_le (S : List (Int × Int)) (V : List Int) : ∀ i, (spanL S V i).length ≤ i
  | 0 => Nat.le_refl _
  | i + 1 => by
    have := spanL_le S V i
    simp only [spanL, List.length_append]
    split <;> simp <;> omega
theorem edgeOr_in {S : List (Int × Int)} (h : ∀ e, e ∈ S → In64 e.1 ∧ In64 e.2) (id : Int) : In64 (edgeOr S id).1 ∧ In64 (edgeOr S id).2 := by
  unfold edgeOr
  split
  · rename_i hv
    obtain ⟨k, rfl, hk⟩ := hasV_yes hv
    rw [Int.toNat_natCast]
    exact h _ (by simp [List.getD, hk])
  · unfold In64; simp

set_option maxRecDepth 100000 in
set_option maxHeartbeats 2000000 in
theorem span_any {w : World} {base g : Nat} {L : List Int} {S : List (Int × Int)} (hG : GraphOwn w base g L S) (V : List Int) (vl : Value) (hl : SeqV w vl V) (hV : V.length ≤ 1000000) (hin : ∀ x, x ∈ V → In64 x) (hS : S.length ≤ 1000000) (hE : ∀ e, e ∈ S → In64 e.1 ∧ In64 e.2) :
    Calls Try.prog 24 #[.pointer (some ⟨g, 0, none⟩), vl] w fun e w' => ∃ v', e = .returned v' ∧ w'.ownsRow w.heap.size 3 1 v' (spanL S V S.length).length (intCells (spanL S V S.length)) ∧ Below w.heap.size w w' := by
  have EIN := Lib.hid (edgeOr_in hE)
  obtain ⟨j1, hi1, ky0, ky1, ky2⟩ := info_parts Try.infoInt6
  obtain ⟨Al, cl, rfl⟩ := IntsV.form hl
  obtain ⟨n, hnn⟩ : ∃ n, V.length = n := ⟨_, rfl⟩
  obtain ⟨m, hm⟩ : ∃ m, S.length = m := ⟨_, rfl⟩
  have HG := Lib.hid hG; have HL := Lib.hid hl; have HIN := Lib.hid hin
  rw [hnn] at HL hV ⊢
  rw [hm] at hS ⊢
  have HN := Lib.hid hnn; have HM := Lib.hid hm
  have hmk := fun W => run_makeInts (n : Nat) W
  clear hG hl hnn hm hin hE
  go_enter Try.func24, Try.ntmps24
  go_wp2_with fail
  have HB0 := Lib.hid ((Below.refl w.heap.size w).alloc (Nat.le_refl _) (.map #[] 0))
  have HS0 := Lib.hid (IntSet.made w)
  go_loopg [21] n (fun gh yv wr => ∃ i, i ≤ n ∧ gh = n - i ∧ yv = .int .i64 (i : Nat) ∧ IntSet wr w.heap.size (V.take i) ∧ Below w.heap.size w wr)
  case atStart => exact ⟨0, Nat.zero_le _, rfl, rfl, HS0.out, HB0.out⟩
  case round =>
    obtain ⟨i, hi, rfl, rfl, hset, hB⟩ := hrel
    by_cases hlt : i < n
    · have hiL : i < V.length := by rw [HN.out]; exact hlt
      obtain ⟨bb, off, rfl, hc⟩ := SeqV.pos (HL.out.below hB (Nat.le_refl _)) hiL
      obtain ⟨x, hx⟩ : ∃ z, V.getD i 0 = z := ⟨_, rfl⟩
      rw [hx] at hc
      have hxV : V[i] = x := by rw [← hx]; simp [List.getD, hiL]
      have hk := keyOf_int (HIN.out x (by rw [← hxV]; exact List.getElem_mem _))
      have htk : V.take (i + 1) = V.take i ++ [x] := by rw [List.take_succ_eq_append_getElem hiL, hxV]
      obtain ⟨nn, D, hown, hnn, hD⟩ := hset
      have hnn2 : nn < maxLen := by unfold maxLen; rw [List.length_take] at hnn; omega
      have t3 : decide (i < n) = true := decide_eq_true hlt
      have i1 : (i : Int) < n := by omega
      have i2 : (0 : Int) ≤ i := by omega
      have HO := Lib.hid hown; have HK := Lib.hid hk; have HNN := Lib.hid hnn; have HD := Lib.hid hD; have HB := Lib.hid hB; have HTK := Lib.hid htk; have HLT := Lib.hid hlt
      clear hown hk hnn hD hB htk hlt hxV hx hiL
      go_wp2_with (at_mapUpdate; refine wpList_mapUpdate_own _ rfl _ _ _ 66 rfl 3 67 int_key Try.underlying66 Go.unitElem w.heap.size nn D rfl HO.out hnn2 _ _ (.int .i64 x) rfl rfl HK.out (.agg []) [] Go.unitElem_mk ?_)
      intro w4 hown4 hgrow4
      have HSET4 := Lib.hid (IntSet.put HK.out HNN.out HO.out.isMap HD.out hown4)
      have HB4 := Lib.hid (HB.out.grown hgrow4 HB.out.size (fun q hq => by injection hq with hq; omega))
      clear hown4 hgrow4
      go_wp2_with fail
      go_roundg (n - (i + 1))
      case rel => exact ⟨i + 1, HLT.out, rfl, by go_num, by rw [HTK.out]; exact HSET4.out, HB4.out⟩
      case measure => have := HLT.out; omega
    · obtain rfl : i = n := by omega
      have t3 : decide (i < i) = false := by simp
      rw [List.take_of_length_le (by rw [HN.out]; omega)] at hset
      have SZ := size_any (HG.out.below hB (Nat.le_refl _))
      rw [HM.out] at SZ
      have HSZ := Lib.hid SZ; have HB := Lib.hid hB; have HSET := Lib.hid hset
      clear hset hB SZ hlt
      go_wp2_with fail
      refine HSZ.out.mono ?_; rintro e w2 ⟨rfl, hw⟩; obtain rfl := hw.symm
      go_wp2_with fail
      go_loopg [8, 31] m (fun gh rv yv ws => ∃ k, k ≤ m ∧ gh = m - k ∧ yv = .int .i64 (k : Nat) ∧ ws.ownsRow (w.heap.size + 1) 3 1 rv (spanL S V k).length (intCells (spanL S V k)) ∧ IntSet ws w.heap.size V ∧ Below w.heap.size w ws)
      case atStart => exact ⟨0, Nat.zero_le _, rfl, rfl, World.ownsRow_nil _ _ _ 1, HSET.out, HB.out⟩
      case round =>
        obtain ⟨k, hk, rfl, rfl, hown, hset, hB⟩ := hrel
        obtain ⟨A, c, rfl⟩ := own_form hown
        by_cases hlt : k < m
        · have ED := edge_any (HG.out.below hB (Nat.le_refl _)) (k : Nat)
          obtain ⟨in1, in2⟩ := EIN.out (k : Nat)
          obtain ⟨Q, hQ⟩ : ∃ Q, spanL S V k = Q := ⟨_, rfl⟩
          have hnext : spanL S V (k + 1) = Q ++ (if decide ((edgeOr S (k : Nat)).1 ∈ V) && decide ((edgeOr S (k : Nat)).2 ∈ V) then [(k : Int)] else []) := by rw [← hQ]; rfl
          have hle := spanL_le S V k
          obtain ⟨⟨x, y⟩, hxy⟩ : ∃ e, edgeOr S (k : Nat) = e := ⟨_, rfl⟩
          rw [hxy] at ED in1 in2 hnext
          unfold edgeV at ED
          simp only at ED in1 in2 hnext
          rw [hQ] at hown hle ⊢
          obtain ⟨q, hq⟩ : ∃ q, Q.length = q := ⟨_, rfl⟩
          rw [hq] at hown hle ⊢
          obtain ⟨z0, hz0⟩ : ∃ z, hasV S.length (k : Nat) = z := ⟨_, rfl⟩
          rw [hz0] at ED
          have hk1 := keyOf_int in1
          have hk2 := keyOf_int in2
          obtain ⟨nn, D, hmap, hnn, hD⟩ := hset
          have hd1 := hD _ _ hk1
          have hd2 := hD _ _ hk2
          obtain ⟨z1, hz1⟩ : ∃ z, decide (x ∈ V) = z := ⟨_, rfl⟩
          obtain ⟨z2, hz2⟩ : ∃ z, decide (y ∈ V) = z := ⟨_, rfl⟩
          rw [hz1] at hd1 hnext
          rw [hz2] at hd2 hnext
          have t3 : decide (k < m) = true := decide_eq_true hlt
          have i1 : (k : Int) < m := by omega
          have i2 : (0 : Int) ≤ k := by omega
          have HLT := Lib.hid hlt; have HED := Lib.hid ED; have HK1 := Lib.hid hk1; have HK2 := Lib.hid hk2; have HD1 := Lib.hid hd1; have HD2 := Lib.hid hd2
          have HQ := Lib.hid hq; have HNX := Lib.hid hnext; have HOW := Lib.hid hown; have HB2 := Lib.hid hB
          have HMAP := Lib.hid (fun (W : World) (hb : Below wr.heap.size wr W) => ints_below hmap hb (Nat.le_refl _))
          have HD := Lib.hid hD; have HNN := Lib.hid hnn; have HLE := Lib.hid hle
          clear hlt ED hk1 hk2 hd1 hd2 hq hnext hown hB hmap hD hnn in1 in2 hxy hz0 hz1 hz2 hQ hle
          have stay : (z1 && z2) = false → spanL S V (k + 1) = Q := fun h => by rw [HNX.out, h]; simp
          have more : (z1 && z2) = true → spanL S V (k + 1) = Q ++ [(k : Int)] := fun h => by rw [HNX.out, h]; simp
          have HST := Lib.hid stay; have HMO := Lib.hid more
          clear stay more
          cases z1 <;> cases z2
          all_goals
            go_wp2_with fail
            refine HED.out.mono ?_; rintro e w2 ⟨rfl, hb2⟩
            have hB3 : Below wr.heap.size wr (w2.alloc (.cells #[.int .i64 x, .int .i64 y] 40)) := hb2.alloc hb2.size _
            have hX := Whole.new w2 40 #[.int .i64 x, .int .i64 y]
            obtain ⟨w3, hw3⟩ : ∃ W, w2.alloc (.cells #[.int .i64 x, .int .i64 y] 40) = W := ⟨_, rfl⟩
            obtain ⟨xb, hxb⟩ : ∃ b, w2.heap.size = b := ⟨_, rfl⟩
            rw [hw3] at hB3 hX
            rw [hxb] at hX
            have x0 : w3.cell? ⟨xb, 0, none⟩ = some (.int .i64 x) := hX.cell 0
            have x1 : (w3.alloc (.cells #[] 67)).cell? ⟨xb, 1, none⟩ = some (.int .i64 y) := (hX.below ((Below.refl w3.heap.size w3).alloc (Nat.le_refl _) (.cells #[] 67)) hX.lt).cell 1
            have HB3 := Lib.hid hB3
            clear hb2 hB3 hX
            have HBU := Lib.hid (HB3.out.alloc HB3.out.size (.cells #[] 67))
            have hBW := HBU.out.alloc HBU.out.size (.cells #[] 67)
            have hO5 := own_below HOW.out hBW (Nat.le_refl _)
            have hB5 : Below w.heap.size w ((w3.alloc (.cells #[] 67)).alloc (.cells #[] 67)) := HB2.out.trans (hBW.mono HB2.out.size)
            have hS5 : IntSet ((w3.alloc (.cells #[] 67)).alloc (.cells #[] 67)) w.heap.size V := ⟨nn, D, HMAP.out _ hBW, HNN.out, HD.out⟩
            have hsz : w.heap.size + 1 ≤ ((w3.alloc (.cells #[] 67)).alloc (.cells #[] 67)).heap.size := (HMAP.out _ hBW).lt
            have HO5 := Lib.hid hO5; have HB5 := Lib.hid hB5; have HS5 := Lib.hid hS5; have HSZ5 := Lib.hid hsz
            clear hBW hO5 hB5 hS5 hsz
          · go_wp2_with (at_lookup; first | (refine wpList_lookup_own_unit _ rfl _ _ 66 rfl 3 67 int_key Try.underlying66 (zero_unit _) w.heap.size nn D rfl (HMAP.out _ HB3.out) _ (.int .i64 x) rfl HK1.out ?_; rw [HD1.out]) | (refine wpList_lookup_own_unit _ rfl _ _ 66 rfl 3 67 int_key Try.underlying66 (zero_unit _) w.heap.size nn D rfl (HMAP.out _ HBU.out) _ (.int .i64 y) rfl HK2.out ?_; rw [HD2.out]))
            go_roundg (m - (k + 1))
            case rel => exact ⟨k + 1, HLT.out, rfl, by go_num, by rw [HST.out rfl, HQ.out]; exact HO5.out, HS5.out, HB5.out⟩
            case measure => have := HLT.out; omega
          · go_wp2_with (at_lookup; first | (refine wpList_lookup_own_unit _ rfl _ _ 66 rfl 3 67 int_key Try.underlying66 (zero_unit _) w.heap.size nn D rfl (HMAP.out _ HB3.out) _ (.int .i64 x) rfl HK1.out ?_; rw [HD1.out]) | (refine wpList_lookup_own_unit _ rfl _ _ 66 rfl 3 67 int_key Try.underlying66 (zero_unit _) w.heap.size nn D rfl (HMAP.out _ HBU.out) _ (.int .i64 y) rfl HK2.out ?_; rw [HD2.out]))
            go_roundg (m - (k + 1))
            case rel => exact ⟨k + 1, HLT.out, rfl, by go_num, by rw [HST.out rfl, HQ.out]; exact HO5.out, HS5.out, HB5.out⟩
            case measure => have := HLT.out; omega
          · go_wp2_with (at_lookup; first | (refine wpList_lookup_own_unit _ rfl _ _ 66 rfl 3 67 int_key Try.underlying66 (zero_unit _) w.heap.size nn D rfl (HMAP.out _ HB3.out) _ (.int .i64 x) rfl HK1.out ?_; rw [HD1.out]) | (refine wpList_lookup_own_unit _ rfl _ _ 66 rfl 3 67 int_key Try.underlying66 (zero_unit _) w.heap.size nn D rfl (HMAP.out _ HBU.out) _ (.int .i64 y) rfl HK2.out ?_; rw [HD2.out]))
            go_roundg (m - (k + 1))
            case rel => exact ⟨k + 1, HLT.out, rfl, by go_num, by rw [HST.out rfl, HQ.out]; exact HO5.out, HS5.out, HB5.out⟩
            case measure => have := HLT.out; omega
          · go_wp2_with (first | (at_lookup; first | (refine wpList_lookup_own_unit _ rfl _ _ 66 rfl 3 67 int_key Try.underlying66 (zero_unit _) w.heap.size nn D rfl (HMAP.out _ HB3.out) _ (.int .i64 x) rfl HK1.out ?_; rw [HD1.out]) | (refine wpList_lookup_own_unit _ rfl _ _ 66 rfl 3 67 int_key Try.underlying66 (zero_unit _) w.heap.size nn D rfl (HMAP.out _ HBU.out) _ (.int .i64 y) rfl HK2.out ?_; rw [HD2.out])) | (at_builtin; refine wpList_app1g _ rfl _ _ 22 rfl (w.heap.size + 1) 3 j1 (.int .i64 0) 8 Try.underlying22 hi1 ky0 ky1 ky2 rfl _ q _ rfl HO5.out _ rfl (Eq.trans (b := .slice (some ⟨w3.heap.size + 1 + 1, 0, none⟩) 1 1) rfl (by simp)) (by have := HLE.out; omega) (by omega) HSZ5.out ?_))
            intro A3 c3 w9 hown3 hgrow3
            have hb9 : Below w.heap.size w w9 := hgrow3.below HO5.out HB5.out (Nat.le_succ _) HSZ5.out
            have hs9 : IntSet w9 w.heap.size V := HS5.out.kept hgrow3.1 (fun e => by have := (HO5.out.lt _ e.symm).1; omega)
            have HO9 := Lib.hid hown3; have HB9 := Lib.hid hb9; have HS9 := Lib.hid hs9
            clear hown3 hgrow3 hb9 hs9
            go_wp2_with fail
            go_roundg (m - (k + 1))
            case rel => exact ⟨k + 1, HLT.out, rfl, by go_num, by rw [HMO.out rfl, intCells_app, List.length_append, HQ.out]; exact HO9.out, HS9.out, HB9.out⟩
            case measure => have := HLT.out; omega
        · obtain rfl : k = m := by omega
          have t3 : decide (k < k) = false := by simp
          have HO := Lib.hid (own_base hown (Nat.le_succ _)); have HB := Lib.hid hB
          clear hlt hown hB hset
          go_wp2_with fail
          go_ret
          exact ⟨_, rfl, HO.out, HB.out⟩
end Go.Proofs.Ytjilbnfaclenlaa
