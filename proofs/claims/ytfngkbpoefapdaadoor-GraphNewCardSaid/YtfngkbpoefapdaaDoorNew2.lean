/- graph.New: its two loops, over build's contract. -/
import Derived.Test.YtfngkbpoefapdaaDoorNew
import Derived.Test.YtfngkbpoefapdaaDoorGraphRd
namespace Go.Proofs.YtfngkbpoefapdaaDoor
open Go.RowKit

theorem run_makeSet (n : Int) (w : World) : (Instr.makeMap 59 (some (.int .i64 n))).run Tryd.prog w = .ok (.map (some w.heap.size)) (w.alloc (.map #[] 0)) := by
  simp [Instr.makeMap, run_underlying Tryd.underlying59, asInt, asIntOf, Result.andThen]
theorem GraphOwn.weaken {w : World} {base base' g : Nat} {L : List Int} {S : List (Int × Int)} (h : GraphOwn w base g L S) (hb : base' ≤ base) : GraphOwn w base' g L S := by
  obtain ⟨A, c, eb, nb, ab, us, h1, h2, h3, h4, h5, h6, h7, h8, h9, h10⟩ := h
  exact ⟨A, c, eb, nb, ab, us, h1, own_base h2 hb, h3, h4, h5, ⟨h6.len, fun i u L hu hL => own_base (h6.row i u L hu hL) hb, h6.apart⟩, by omega, by omega, by omega, by omega⟩
/-- What is asked of build. -/
def BuildSaid (L : List Int) (E : List (Int × Int)) (ve : Value) : Prop :=
  ∀ (W : World) (base : Nat) (A : Option Addr) (c : Nat), base ≤ W.heap.size → W.ownsRow base 3 1 (.slice A L.length c) L.length (intCells L) → EdgesV W ve E → Good L.length E →
    Calls Tryd.prog 31 #[.slice A L.length c, ve] W fun e w' => ∃ g, e = .returned (.pointer (some ⟨g, 0, none⟩)) ∧ GraphOwn w' base g L (sortE E) ∧ Below W.heap.size W w'

set_option maxRecDepth 100000 in
set_option maxHeartbeats 4000000 in
theorem graphNew_any (L : List Int) (E : List (Int × Int)) (vl ve : Value) (w : World) (hl : SeqV w vl L) (he : EdgesV w ve E) (hE : ∀ e, e ∈ E → In64 e.1 ∧ In64 e.2) (hL4 : L.length ≤ 4096) (hE4 : E.length ≤ 16384) (hB : BuildSaid L E ve) :
    Calls Tryd.prog 9 #[vl, ve] w (NewTo L E w) := by
  have HSL := Lib.hid hl; have HSE := Lib.hid he; have HE := Lib.hid hE; have HB := Lib.hid hB
  obtain ⟨Al, cl, rfl⟩ := IntsV.form hl
  obtain ⟨Ae, ce, rfl⟩ := he.form
  obtain ⟨n, hn⟩ : ∃ n, L.length = n := ⟨_, rfl⟩
  obtain ⟨m, hm⟩ : ∃ m, E.length = m := ⟨_, rfl⟩
  rw [hn] at hL4 HSL ⊢
  rw [hm] at hE4 HSE HB ⊢
  have HN := Lib.hid hn; have HM := Lib.hid hm
  have t1 : decide ((4096 : Int) < n) = false := decide_eq_false (by omega)
  have t1' : decide (4096 < n) = false := decide_eq_false (by omega)
  have t2 : decide ((16384 : Int) < m) = false := decide_eq_false (by omega)
  have t2' : decide (16384 < m) = false := decide_eq_false (by omega)
  clear hl he hE hB hn hm
  go_enter Tryd.func9, Tryd.ntmps9
  go_wp2_with fail
  go_loopg [23] n (fun gh y wr => ∃ k, k ≤ n ∧ gh = n - k ∧ y = .int .i64 (k : Nat) ∧ (∀ i, i < k → labBad L i = false) ∧ wr = w)
  case atStart => exact ⟨0, Nat.zero_le _, rfl, rfl, fun i h => by omega, rfl⟩
  case round =>
    obtain ⟨k, hk, rfl, rfl, hok, rfl⟩ := hrel
    have HOK := Lib.hid hok
    clear hok
    by_cases hlt : k < n
    · have hkL : k < L.length := by rw [HN.out]; exact hlt
      obtain ⟨b, off, rfl, hcell⟩ := IntsV.pos (by have := HSL.out; unfold SeqV at this; rw [HN.out] at this; exact this) hlt
      have hc := hcell k hlt
      obtain ⟨z, hz⟩ : ∃ z, L.getD k 0 = z := ⟨_, rfl⟩
      have hc' : wr.cell? ⟨b, off + k, none⟩ = some (.int .i64 z) := by rw [← hz]; exact hc
      have t3 : decide (k < n) = true := decide_eq_true hlt
      have i1 : (k : Int) < n := by omega
      have i2 : (0 : Int) ≤ k := by omega
      have HLT := Lib.hid hlt; have HZ := Lib.hid hz
      by_cases hbad : z < 0 ∨ 255 < z
      · have HF : Hid (newFault L E = some (3, (k : Int))) := Lib.hid (by
          unfold newFault
          rw [if_neg (by rw [HN.out, HM.out]; omega), find_at hkL HOK.out (by unfold labBad; rw [hz]; simp; omega)])
        have hc2 : decide (z < 0) = true ∨ (decide (z < 0) = false ∧ decide (255 < z) = true) := by simp; omega
        clear hcell hc hz hlt hbad hkL
        rcases hc2 with t4 | ⟨t4, t5⟩
        all_goals
          go_wp2_with fail
          refine (new_any _ _ _ _).mono ?_; rintro e w2 ⟨rfl, rfl⟩
          go_wp2_with fail
          go_ret2
          exact ⟨(Below.refl _ _).alloc (Nat.le_refl _) _, Or.inr ⟨_, _, _, HF.out, rfl, _, _, rfl, Whole.new _ _ _⟩⟩
      · have t4 : decide (z < 0) = false := decide_eq_false (by omega)
        have t5 : decide (255 < z) = false := decide_eq_false (by omega)
        have HOK2 : Hid (∀ i, i < k + 1 → labBad L i = false) := Lib.hid (fun i hi => by
          rcases (by omega : i = k ∨ i < k) with rfl | h
          · unfold labBad; rw [HZ.out, t4, t5]; rfl
          · exact HOK.out i h)
        clear hcell hc hz hlt hbad hkL
        go_wp2_with fail
        go_roundg (n - (k + 1))
        case rel => exact ⟨k + 1, HLT.out, rfl, by go_num, HOK2.out, rfl⟩
        case measure => have := HLT.out; omega
    · obtain rfl : k = n := by omega
      have t3 : decide (k < k) = false := by simp
      have HOKL : Hid ((List.range L.length).find? (labBad L) = none) := Lib.hid (find_none (fun i hi => HOK.out i (by rw [← HN.out]; exact hi)))
      have hS0 := EdgeSet.made wr
      have hb0 : Below wr.heap.size wr (wr.alloc (.map #[] 0)) := (Below.refl _ _).alloc (Nat.le_refl _) _
      have HS0 := Lib.hid hS0; have HB0 := Lib.hid hb0
      clear hlt hS0 hb0
      have hmk := fun W => run_makeSet (m : Nat) W
      go_wp2_with fail
      obtain ⟨mb, hmb⟩ : ∃ b, wr.heap.size = b := ⟨_, rfl⟩
      have HMB := Lib.hid hmb
      obtain ⟨w0, rfl⟩ : ∃ x, x = wr := ⟨_, rfl⟩
      rw [hmb] at HS0 ⊢
      clear hmb hmk
      go_loopg [42] m (fun gh y wr => ∃ j, j ≤ m ∧ gh = m - j ∧ y = .int .i64 (j : Nat) ∧ EdgeSet wr mb ((E.take j).map ris) ∧ Below w0.heap.size w0 wr ∧ (∀ i, i < j → edgeAt L.length E i = 0))
      case atStart => exact ⟨0, Nat.zero_le _, rfl, rfl, HS0.out, HB0.out, fun i h => by omega⟩
      case round =>
        obtain ⟨j, hj, rfl, rfl, hset, hbel, hok⟩ := hrel
        have HSET := Lib.hid hset; have HBEL := Lib.hid hbel; have HOKE := Lib.hid hok
        have hsz := hbel.size
        have hmbl := hset.lt
        clear hset hbel hok
        by_cases hlt : j < m
        · have hjE : j < E.length := by rw [HM.out]; exact hlt
          obtain ⟨b, off, rfl, d0, d1⟩ := (HSE.out.below HBEL.out (Nat.le_refl _)).pos hjE
          obtain ⟨e, he⟩ : ∃ e, E.getD j (0, 0) = e := ⟨_, rfl⟩
          have hem : e ∈ E := by rw [← he]; simp [List.getD, hjE]
          obtain ⟨x, y⟩ := e
          rw [he] at d0 d1
          have hbl : b < wr.heap.size := World.block_lt_of_cell? _ _ d0
          have t3 : decide (j < m) = true := decide_eq_true hlt
          have i1 : (j : Int) < m := by omega
          have i2 : (0 : Int) ≤ j := by omega
          have hb1 : Below wr.heap.size wr (wr.alloc (.cells #[.int .i64 x, .int .i64 y] 47)) := (Below.refl _ _).alloc (Nat.le_refl _) _
          have HC := Lib.hid (check_any k j (x, y) mb ((E.take j).map ris) (wr.alloc (.cells #[.int .i64 x, .int .i64 y] 47)) (HSET.out.below hb1 (Nat.le_refl _)) (by omega))
          have HEA : Hid (edgeAt L.length E j = edgeFault k ((E.take j).map ris) (x, y)) := Lib.hid (by unfold edgeAt; rw [he, HN.out])
          obtain ⟨c, hc⟩ : ∃ c, edgeFault k ((E.take j).map ris) (x, y) = c := ⟨_, rfl⟩
          rw [hc] at HC HEA
          have HB1 := Lib.hid hb1; have HLT := Lib.hid hlt; have HEM := Lib.hid (HE.out _ hem); have HJE := Lib.hid hjE; have HGE := Lib.hid he
          have HWH := Lib.hid (Whole.new wr 47 #[.int .i64 x, .int .i64 y])
          clear hlt hjE he hem hb1 hc
          unfold edgeV at HC
          go_wp2_with fail
          refine HC.out.mono ?_
          rintro e w2 ⟨hb2, hcase⟩
          have hbw : Below w0.heap.size w0 w2 := (HBEL.out.trans (HB1.out.mono hsz)).trans (hb2.mono (by have := HB1.out.size; omega))
          rcases hcase with ⟨hc0, rfl⟩ | ⟨hc0, u, rfl, hF⟩
          · have hw2 := HWH.out.below hb2 HWH.out.lt
            have e0 : w2.cell? ⟨wr.heap.size, 0, none⟩ = some (.int .i64 x) := hw2.cell 0
            have e1 : w2.cell? ⟨wr.heap.size, 1, none⟩ = some (.int .i64 y) := hw2.cell 1
            have HC0 : Hid (edgeAt L.length E j = 0) := Lib.hid (by rw [HEA.out, hc0])
            have RS := Lib.hid (rising_any x y w2)
            have HBW := Lib.hid hbw
            have HSET2 := Lib.hid ((HSET.out.below HB1.out (Nat.le_refl _)).below hb2 (Nat.le_refl _))
            have HX := Lib.hid HEM.out
            clear hb2 hbw hc0 hw2
            go_wp2_with fail
            refine RS.out.mono ?_; rintro e w3 ⟨rfl, hb3⟩
            obtain ⟨kl, hk⟩ := key_edge (e := ris (x, y)) (by have := HX.out; unfold In64 at *; unfold ris; simp only at *; omega) (by have := HX.out; unfold In64 at *; unfold ris; simp only at *; omega)
            have hm' : edgeV (ris (x, y)) = .agg #[.int .i64 (min x y), .int .i64 (max x y)] := rfl
            rw [← hm']
            obtain ⟨nn, D, hown, hnn, hD⟩ := HSET2.out.below hb3 (Nat.le_refl _)
            have hnn2 : nn < maxLen := by unfold maxLen; rw [List.length_map, List.length_take] at hnn; omega
            have HO := Lib.hid hown; have HK := Lib.hid hk; have HNN := Lib.hid hnn; have HD := Lib.hid hD
            have HB3 := Lib.hid (HBW.out.trans (hb3.mono HBW.out.size))
            clear hm' hown hk hnn hD hb3
            go_wp2_with (at_mapUpdate; refine wpList_mapUpdate_own _ rfl _ _ _ 59 rfl 47 61 edge_keyed Tryd.underlying59 Go.unitElem mb nn D rfl HO.out hnn2 _ _ kl rfl rfl HK.out (.agg []) [] Go.unitElem_mk ?_)
            intro w4 hown4 hgrow4
            have hset4 : EdgeSet w4 mb ((E.take (j + 1)).map ris) := by
              have h1 := EdgeSet.put HK.out HNN.out HO.out.isMap HD.out hown4
              have h2 : E[j]'HJE.out = (x, y) := by rw [← HGE.out]; simp [List.getD, HJE.out]
              rw [List.take_succ_eq_append_getElem HJE.out, List.map_append, h2]
              exact h1
            have hb4 : Below w0.heap.size w0 w4 := HB3.out.grown hgrow4 HB3.out.size (fun q hq => by injection hq with hq; have := HMB.out; omega)
            have HSET4 := Lib.hid hset4; have HB4 := Lib.hid hb4
            have HOK2 : Hid (∀ i, i < j + 1 → edgeAt L.length E i = 0) := Lib.hid (fun i hi => by
              rcases (by omega : i = j ∨ i < j) with rfl | h
              · exact HC0.out
              · exact HOKE.out i h)
            clear hown4 hgrow4 hset4 hb4
            go_wp2_with fail
            go_roundg (m - (j + 1))
            case rel => exact ⟨j + 1, HLT.out, rfl, by go_num, HSET4.out, HB4.out, HOK2.out⟩
            case measure => have := HLT.out; omega
          · have HF : Hid (newFault L E = some (c, (j : Int))) := Lib.hid (by
              unfold newFault
              rw [if_neg (by rw [HN.out, HM.out]; omega), HOKL.out]
              have : (List.range E.length).find? (fun i => edgeAt L.length E i != 0) = some j := find_at HJE.out (fun i hi => by simp [HOKE.out i hi]) (by rw [HEA.out]; simpa using hc0)
              rw [this]
              simp only
              rw [HEA.out])
            have HFA := Lib.hid hF; have HBW := Lib.hid hbw
            obtain ⟨bu, su, rfl, hFw⟩ := hF
            clear hb2 hbw hc0 hFw
            go_wp2_with fail
            go_ret2
            exact ⟨HBW.out, Or.inr ⟨_, _, _, HF.out, rfl, HFA.out⟩⟩
        · obtain rfl : j = m := by omega
          have t3 : decide (j < j) = false := by simp
          have HF : Hid (newFault L E = none) := Lib.hid (by
            unfold newFault
            rw [if_neg (by rw [HN.out, HM.out]; omega), HOKL.out]
            have : (List.range E.length).find? (fun i => edgeAt L.length E i != 0) = none := find_none (fun i hi => by simp [HOKE.out i (by rw [← HM.out]; exact hi)])
            rw [this])
          have hsl : SeqV wr (.slice Al k cl) L := by have := HSL.out; exact this.below HBEL.out (Nat.le_refl _)
          have HCL := clone_own L _ wr hsl (by rw [HN.out]; omega)
          rw [HN.out] at HCL
          have HCL := Lib.hid HCL
          clear hlt hsl
          go_wp2_with fail
          refine HCL.out.mono ?_; rintro e w2 ⟨v2, rfl, ho, hb2⟩
          obtain ⟨A2, c2, rfl⟩ := own_form ho
          have HBD := HB.out w2 wr.heap.size A2 c2 hb2.size (by rw [HN.out]; exact ho) ((HSE.out.below HBEL.out (Nat.le_refl _)).below hb2 (Nat.le_refl _)) (good_of_ok (fun i hi => HOKE.out i (by rw [← HM.out]; exact hi)))
          rw [HN.out] at HBD
          have HBD := Lib.hid HBD
          have HB2 := Lib.hid (HBEL.out.trans (hb2.mono hsz))
          have hsz2 : wr.heap.size ≤ w2.heap.size := hb2.size
          clear ho hb2
          go_wp2_with fail
          refine HBD.out.mono ?_; rintro e w3 ⟨gg, rfl, hG, hb3⟩
          have HG := Lib.hid hG
          have HB3 := Lib.hid (HB2.out.trans (hb3.mono HB2.out.size))
          clear hG hb3
          go_wp2_with fail
          go_ret2
          exact ⟨HB3.out, Or.inl ⟨HF.out, _, rfl, HG.out.weaken hsz⟩⟩
end Go.Proofs.YtfngkbpoefapdaaDoor
