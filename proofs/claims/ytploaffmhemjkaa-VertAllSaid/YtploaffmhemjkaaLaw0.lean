/- graph.New, whole. Layer 4: Of; New by cases; the chapter's example. Layer 4: Made. Graphs: small facts that laws use. What calls told, as it is seen from then on. Line graphs: pure. -/
import Derived.Test.YtploaffmhemjkaaBuild4
import Derived.Test.YtploaffmhemjkaaGraph4
import Derived.BigQuiet
import Derived.Test.YtploaffmhemjkaaRefA
import Derived.Test.YtploaffmhemjkaaRefG5
import Derived.BigRegion
namespace Go.Proofs.Ytploaffmhemjkaa
section
open Go.RowKit

theorem graph_new (L : List Int) (E : List (Int × Int)) (vl ve : Value) (w : World) (hl : SeqV w vl L) (he : EdgesV w ve E) (hE : ∀ e, e ∈ E → In64 e.1 ∧ In64 e.2) (hm : L.length ≤ 9223372036854775807) (hm2 : E.length ≤ 9223372036854775807) :
    Calls Try.prog 27 #[vl, ve] w (NewTo L E w) := by
  by_cases h : 4096 < L.length ∨ 16384 < E.length
  · exact new_large L E vl ve w hl he h hm hm2
  · exact graphNew_any L E vl ve w hl he hE (by omega) (by omega) (fun W base A c hb ho hv hg => build_any L E L.length E.length ve W base A c rfl rfl (by omega) (by omega) hb ho hv hg)
end

section
open Go.RowKit

set_option maxRecDepth 100000 in
set_option maxHeartbeats 4000000 in
theorem of_any (E : List (Int × Int)) (ve : Value) (w : World) (he : EdgesV w ve E) (hE : E.length ≤ 1000000) :
    Calls Try.prog 28 #[ve] w fun e w' => ∃ v', e = .returned v' ∧ w'.ownsRow w.heap.size 75 2 v' E.length (eL E) ∧ Below w.heap.size w w' := by
  obtain ⟨j0, hj0, hz0, hz1, hz2⟩ := info_parts Try.infoAE
  obtain ⟨Ae, ce, rfl⟩ := he.form
  obtain ⟨m, hm⟩ : ∃ m, E.length = m := ⟨_, rfl⟩
  have HSE := Lib.hid he
  rw [hm] at HSE hE ⊢
  have HM := Lib.hid hm
  clear he hm
  go_enter Try.func28, Try.ntmps28
  go_wp2_with fail
  go_loopg [3, 4] m (fun gh rv yv wr => ∃ k, k ≤ m ∧ gh = m - k ∧ yv = .int .i64 (k : Nat) ∧ wr.ownsRow w.heap.size 75 2 rv k (eL (E.take k)) ∧ Below w.heap.size w wr)
  case atStart => exact ⟨0, Nat.zero_le _, rfl, rfl, World.ownsRow_nil _ _ _ 2, Below.refl _ _⟩
  case round =>
    obtain ⟨k, hk, rfl, rfl, hown, hB⟩ := hrel
    obtain ⟨A, c, rfl⟩ := own_form hown
    by_cases hlt : k < m
    · have hkE : k < E.length := by rw [HM.out]; exact hlt
      obtain ⟨b, off, rfl, d0, d1⟩ := (HSE.out.below hB (Nat.le_refl _)).pos hkE
      obtain ⟨e, he⟩ : ∃ e, E.getD k (0, 0) = e := ⟨_, rfl⟩
      rw [he] at d0 d1
      obtain ⟨x, y⟩ := e
      have t3 : decide (k < m) = true := decide_eq_true hlt
      have i1 : (k : Int) < m := by omega
      have i2 : (0 : Int) ≤ k := by omega
      have HTK : Hid (eL (E.take (k + 1)) = eL (E.take k) ++ eL [(x, y)]) := Lib.hid (by rw [List.take_succ_eq_append_getElem hkE, ← getD_at hkE, he, eL_app])
      have HOW := Lib.hid (hown.alloc (.cells #[.int .i64 x, .int .i64 y] 75))
      have hb2 : Below w.heap.size w (wr.alloc (.cells #[.int .i64 x, .int .i64 y] 75)) := hB.alloc hB.size _
      have hs2 := hb2.size
      have HB2 := Lib.hid hb2
      have HN2 := Lib.hid (edges_new wr 75 x y 1)
      have HLT := Lib.hid hlt
      clear hown hB he hb2 hlt hkE
      go_wp2_with (at_builtin; refine wpList_appEdges _ rfl _ _ 56 75 rfl w.heap.size j0 (.agg #[.int .i64 0, .int .i64 0]) Try.underlying56 hj0 hz0 rfl hz1 hz2 _ k _ rfl HOW.out _ [(x, y)] rfl HN2.out (by simp; omega) hs2 ?_)
      intro A3 c3 w7 hown3 hgrow3
      have HB3 := Lib.hid (hgrow3.below HOW.out HB2.out (Nat.le_refl _) hs2)
      have HO3 := Lib.hid hown3
      clear hown3 hgrow3
      go_wp2_with fail
      go_roundg (m - (k + 1))
      case rel => exact ⟨k + 1, HLT.out, rfl, by go_num, by rw [HTK.out]; exact HO3.out, HB3.out⟩
      case measure => have := HLT.out; omega
    · obtain rfl : k = m := by omega
      have t3 : decide (k < k) = false := by simp
      have HO : Hid (wr.ownsRow w.heap.size 75 2 (.slice A k c) k (eL E)) := Lib.hid (by rw [List.take_of_length_le (by rw [HM.out]; omega)] at hown; exact hown)
      have HB := Lib.hid hB
      clear hlt hown hB
      go_wp2_with fail
      go_ret
      exact ⟨_, rfl, HO.out, HB.out⟩

theorem new_good (L : List Int) (E : List (Int × Int)) (vl ve : Value) (w : World) (hl : SeqV w vl L) (he : EdgesV w ve E) (hE : ∀ e, e ∈ E → In64 e.1 ∧ In64 e.2) (hn : newFault L E = none) :
    Calls Try.prog 27 #[vl, ve] w fun e w' => ∃ g, e = .returned (.tuple #[.pointer (some ⟨g, 0, none⟩), .nilIface]) ∧ GraphOwn w' w.heap.size g L (sortE E) ∧ Below w.heap.size w w' := by
  have h := newFault_none.1 hn
  refine (graph_new L E vl ve w hl he hE (by omega) (by omega)).mono ?_
  rintro e w' ⟨hb, ⟨_, g, rfl, hg⟩ | ⟨c, p, u, h1, _⟩⟩
  · exact ⟨g, rfl, hg, hb⟩
  · rw [hn] at h1; cases h1
theorem new_bad (L : List Int) (E : List (Int × Int)) (vl ve : Value) (w : World) (hl : SeqV w vl L) (he : EdgesV w ve E) (hE : ∀ e, e ∈ E → In64 e.1 ∧ In64 e.2) (hm : L.length ≤ 9223372036854775807) (hm2 : E.length ≤ 9223372036854775807) (c p : Int) (hn : newFault L E = some (c, p)) :
    Calls Try.prog 27 #[vl, ve] w fun e w' => ∃ u, e = .returned (.tuple #[.pointer none, u]) ∧ FaultAt c p w' u ∧ Below w.heap.size w w' := by
  refine (graph_new L E vl ve w hl he hE hm hm2).mono ?_
  rintro e w' ⟨hb, ⟨h1, _⟩ | ⟨c', p', u, h1, rfl, hf⟩⟩
  · rw [hn] at h1; cases h1
  · rw [hn] at h1
    obtain ⟨rfl, rfl⟩ := Prod.mk.inj (Option.some.inj h1)
    exact ⟨u, rfl, hf, hb⟩

/-- Cells of a new block read as numbers, as edges. -/
theorem seq_block {w : World} {g : Nat} {t : TypeId} {cs : Array Value} {L : List Int} (h : Whole w g t cs) (hc : cs.toList = intCells L) (h0 : 0 < L.length) (c : Nat) : SeqV w (.slice (some ⟨g, 0, none⟩) L.length c) L := by
  refine Or.inr ⟨h0, g, 0, c, rfl, fun i hi => ?_⟩
  rw [Nat.zero_add, h.cell, ← Array.getElem?_toList, hc]
  simp [intCells, List.getD, hi]
theorem edges_block {w : World} {g : Nat} {t : TypeId} {cs : Array Value} {E : List (Int × Int)} (h : Whole w g t cs) (hc : cs.toList = eL E) (h0 : 0 < E.length) (c : Nat) : EdgesV w (.slice (some ⟨g, 0, none⟩) E.length c) E := by
  refine Or.inr ⟨h0, g, 0, c, rfl, fun i hi => ?_⟩
  rw [Nat.zero_add, h.cell, h.cell, ← Array.getElem?_toList, ← Array.getElem?_toList, hc]
  exact eL_at E i hi
end

section
open Go.RowKit

/-- Three results, of which the second is a graph of the document that lies in a box. -/
theorem results_made {fn : Func} {p q r : Tmp} (h : fn.results = #[.tmp q, .cell p 27, .tmp r]) (tmps : Array Value) (w : World) (g : Nat) (x y c d : Value) (hp : tmps.getD p undef = .pointer (some ⟨g, 0, none⟩)) (hq : tmps.getD q undef = c) (hr : tmps.getD r undef = d) (hc : Whole w g 27 #[x, y]) :
    (results fn tmps).run Try.prog w = .ok (.tuple #[c, .agg #[x, y], d]) w := by
  have hp' : tmps[p]?.getD undef = .pointer (some ⟨g, 0, none⟩) := by simpa using hp
  have hq' : tmps[q]?.getD undef = c := by simpa using hq
  have hr' : tmps[r]?.getD undef = d := by simpa using hr
  have c0 : w.cell? ⟨g, 0, none⟩ = some x := hc.cell 0
  have c1 : w.cell? ⟨g, 1, none⟩ = some y := hc.cell 1
  simp [results, h, hp', hq', hr', asAddr, loadVar, go_sem, c0, c1]
theorem own_put_lt {w : World} {base e s n : Nat} {v : Value} {xs : List Value} (h : w.ownsRow base e s v n xs) {p : Addr} (hp : p.block < base) (u : Value) : (w.setCell p u).ownsRow base e s v n xs :=
  own_put h (fun he => by have := (h.lt _ he).1; omega) u
theorem GraphOwn.put {w : World} {base g : Nat} {L : List Int} {S : List (Int × Int)} (h : GraphOwn w base g L S) {p : Addr} (hp : p.block < base) (u : Value) : GraphOwn (w.setCell p u) base g L S := by
  obtain ⟨A, c, eb, nb, ab, us, h1, h2, h3, h4, h5, h6, k1, k2, k3, k4⟩ := h
  exact ⟨A, c, eb, nb, ab, us, h1.other (by omega) u, own_put_lt h2 hp u, h3.other (by omega) u, h4.other (by omega) u, h5.other (by omega) u, ⟨h6.len, fun i x M hx hM => own_put_lt (h6.row i x M hx hM) hp u, h6.apart⟩, k1, k2, k3, k4⟩
/-- What Made tells. -/
def MadeTo (L : List Int) (E : List (Int × Int)) (vl : Value) (w : World) (e : Ending) (w' : World) : Prop :=
  Below w.heap.size w w' ∧ ((∃ p x y, e = .returned (.tuple #[p, .agg #[x, y], .bool false])) ∨
    (L.length ≤ 10 ∧ E.length ≤ 30 ∧ newFault L E = none ∧ ∃ g v, e = .returned (.tuple #[.pointer (some ⟨g, 0, none⟩), .agg #[vl, v], .bool true]) ∧ GraphOwn w' w.heap.size g L (sortE E) ∧ w'.ownsRow w.heap.size 49 2 v E.length (eL (sortE E))))

/-- What Made tells, and when it fails. -/
def MadeSure (L : List Int) (E : List (Int × Int)) (vl : Value) (w : World) (e : Ending) (w' : World) : Prop :=
  Below w.heap.size w w' ∧ (((newFault L E = none → 10 < L.length ∨ 30 < E.length) ∧ ∃ p, e = .returned (.tuple #[p, .agg #[.slice none 0 0, .slice none 0 0], .bool false])) ∨
    (L.length ≤ 10 ∧ E.length ≤ 30 ∧ newFault L E = none ∧ ∃ g v, e = .returned (.tuple #[.pointer (some ⟨g, 0, none⟩), .agg #[vl, v], .bool true]) ∧ GraphOwn w' w.heap.size g L (sortE E) ∧ w'.ownsRow w.heap.size 49 2 v E.length (eL (sortE E))))
theorem MadeSure.to {L : List Int} {E : List (Int × Int)} {vl : Value} {w w' : World} {e : Ending} (h : MadeSure L E vl w e w') : MadeTo L E vl w e w' := by
  obtain ⟨hb, ⟨_, p, h⟩ | h⟩ := h
  · exact ⟨hb, Or.inl ⟨p, _, _, h⟩⟩
  · exact ⟨hb, Or.inr h⟩

set_option maxRecDepth 100000 in
set_option maxHeartbeats 4000000 in
theorem made_big (L : List Int) (E : List (Int × Int)) (vl ve : Value) (w : World) (hl : SeqV w vl L) (he : EdgesV w ve E) (hbig : 10 < L.length ∨ 30 < E.length) (hm : L.length ≤ 9223372036854775807) (hm2 : E.length ≤ 9223372036854775807) :
    Calls Try.prog 9 #[vl, ve] w (MadeSure L E vl w) := by
  have HBIG := Lib.hid hbig
  have hR := Whole.new w 27 #[.slice none 0 0, .slice none 0 0]
  have hB : Below w.heap.size w (w.alloc (.cells #[.slice none 0 0, .slice none 0 0] 27)) := (Below.refl _ _).alloc (Nat.le_refl _) _
  have HR := Lib.hid hR; have HB := Lib.hid hB
  obtain ⟨Al, cl, rfl⟩ := IntsV.form hl
  obtain ⟨Ae, ce, rfl⟩ := he.form
  obtain ⟨n, hn⟩ : ∃ n, L.length = n := ⟨_, rfl⟩
  obtain ⟨m, hmm⟩ : ∃ m, E.length = m := ⟨_, rfl⟩
  rw [hn] at hbig hm ⊢
  rw [hmm] at hbig hm2 ⊢
  have hc : (decide ((10 : Int) < n) = true ∧ decide (10 < n) = true) ∨ ((decide ((10 : Int) < n) = false ∧ decide (10 < n) = false) ∧ decide ((30 : Int) < m) = true ∧ decide (30 < m) = true) := by
    simp; omega
  clear hl he hn hmm hbig hR hB
  rcases hc with ⟨t1, t1'⟩ | ⟨⟨t1, t1'⟩, t2, t2'⟩
  all_goals
    go_enter Try.func9, Try.ntmps9
    go_wp2_with fail
    exact bodyPost_ret (results_made rfl _ _ _ _ _ _ _ rfl rfl rfl HR.out) rfl ⟨HB.out, Or.inl ⟨fun _ => HBIG.out, _, rfl⟩⟩

set_option maxRecDepth 100000 in
set_option maxHeartbeats 4000000 in
theorem made_small (L : List Int) (E : List (Int × Int)) (vl ve : Value) (w : World) (hl : SeqV w vl L) (he : EdgesV w ve E) (hE : ∀ e, e ∈ E → In64 e.1 ∧ In64 e.2) (h1 : L.length ≤ 10) (h2 : E.length ≤ 30) :
    Calls Try.prog 9 #[vl, ve] w (MadeSure L E vl w) := by
  have HSL := Lib.hid hl; have HSE := Lib.hid he; have HE := Lib.hid hE
  have hR := Whole.new w 27 #[.slice none 0 0, .slice none 0 0]
  have hB : Below w.heap.size w (w.alloc (.cells #[.slice none 0 0, .slice none 0 0] 27)) := (Below.refl _ _).alloc (Nat.le_refl _) _
  have RN := refNew_any L E vl ve (w.alloc (.cells #[.slice none 0 0, .slice none 0 0] 27)) (hl.below hB (Nat.le_refl _)) (he.below hB (Nat.le_refl _)) (by omega) (by omega)
  have HR := Lib.hid hR; have HB := Lib.hid hB; have HRN := Lib.hid RN
  have HL1 := Lib.hid h1; have HL2 := Lib.hid h2
  obtain ⟨Al, cl, rfl⟩ := IntsV.form hl
  obtain ⟨Ae, ce, rfl⟩ := he.form
  obtain ⟨n, hn⟩ : ∃ n, L.length = n := ⟨_, rfl⟩
  obtain ⟨m, hmm⟩ : ∃ m, E.length = m := ⟨_, rfl⟩
  rw [hn] at h1 HSL HRN ⊢
  rw [hmm] at h2 HSE HRN ⊢
  have HM := Lib.hid hmm
  have t1 : decide ((10 : Int) < n) = false := decide_eq_false (by omega)
  have t1' : decide (10 < n) = false := decide_eq_false (by omega)
  have t2 : decide ((30 : Int) < m) = false := decide_eq_false (by omega)
  have t2' : decide (30 < m) = false := decide_eq_false (by omega)
  clear hl he hE hn hmm hR hB RN
  go_enter Try.func9, Try.ntmps9
  go_wp2_with fail
  refine HRN.out.mono ?_
  rintro e w1 ⟨hb1, ⟨hnf, v, rfl, hv⟩ | ⟨c, p, hnf, hc0, rfl⟩⟩
  · obtain ⟨Av, cv, rfl⟩ := own_form hv
    have hR1 := HR.out.below hb1 HR.out.lt
    have hB1 : Below w.heap.size w w1 := HB.out.trans (hb1.mono HB.out.size)
    have hw2 := Whole.new w1 27 #[.slice Al n cl, .slice Av E.length cv]
    have hb2 : Below w.heap.size w (w1.alloc (.cells #[.slice Al n cl, .slice Av E.length cv] 27)) := hB1.alloc hB1.size _
    have OF := of_any E _ (w1.alloc (.cells #[.slice Al n cl, .slice Av E.length cv] 27)) (HSE.out.below hb2 (Nat.le_refl _)) (by have := HL2.out; omega)
    have HR2 := Lib.hid (hR1.alloc (.cells #[.slice Al n cl, .slice Av E.length cv] 27))
    have HW2 := Lib.hid hw2; have HB2 := Lib.hid hb2; have HOF := Lib.hid OF; have HNF := Lib.hid hnf
    have HV := Lib.hid (own_base (hv.alloc (.cells #[.slice Al n cl, .slice Av E.length cv] 27)) HB.out.size)
    clear hb1 hv hR1 hB1 hw2 hb2 OF hnf HRN
    go_wp2_with fail
    refine HOF.out.mono ?_; rintro e w3 ⟨v3, rfl, ho3, hb3⟩
    have NG := new_good L E _ v3 w3 (HSL.out.below (HB2.out.trans (hb3.mono HB2.out.size)) (Nat.le_refl _)) (own_edges ho3) HE.out HNF.out
    have HNG := Lib.hid NG
    have HB3 := Lib.hid (HB2.out.trans (hb3.mono HB2.out.size))
    have HR3 := Lib.hid (HR2.out.below hb3 HR2.out.lt)
    have HW3 := Lib.hid (HW2.out.below hb3 HW2.out.lt)
    have HV3 := Lib.hid (own_below HV.out hb3 (Nat.le_refl _))
    clear ho3 hb3 NG
    go_wp2_with fail
    refine HNG.out.mono ?_; rintro e w4 ⟨g, rfl, hg4, hb4⟩
    have hR4 := HR3.out.below hb4 HR3.out.lt
    have hW4 := HW3.out.below hb4 HW3.out.lt
    have HB4 := Lib.hid (HB3.out.trans (hb4.mono HB3.out.size))
    have HV4 := Lib.hid (own_below HV3.out hb4 (Nat.le_refl _))
    have HG4 := Lib.hid hg4
    have hlt3 : w.heap.size < w3.heap.size := HR3.out.lt
    have c0 : w4.cell? ⟨w1.heap.size, 0, none⟩ = some (.slice Al n cl) := hW4.cell 0
    have c1 : w4.cell? ⟨w1.heap.size, 1, none⟩ = some (.slice Av E.length cv) := hW4.cell 1
    have r0 : w4.cell? ⟨w.heap.size, 0, none⟩ = some (.slice none 0 0) := hR4.cell 0
    have r1 : w4.cell? ⟨w.heap.size, 1, none⟩ = some (.slice none 0 0) := hR4.cell 1
    have f0 := hR4.free 0
    have f1 := hR4.free 1
    have HR4 := Lib.hid hR4
    have t9 : ((0 : Int) == 0) = true := rfl
    clear hg4 hb4 hW4 hR4
    go_wp2_with fail
    have HFIN : Hid (Whole ((w4.setCell ⟨w.heap.size, 0, none⟩ (.slice Al n cl)).setCell ⟨w.heap.size, 1, none⟩ (.slice Av E.length cv)) w.heap.size 27 #[.slice Al n cl, .slice Av E.length cv] ∧
      GraphOwn ((w4.setCell ⟨w.heap.size, 0, none⟩ (.slice Al n cl)).setCell ⟨w.heap.size, 1, none⟩ (.slice Av E.length cv)) w.heap.size g L (sortE E) ∧
      ((w4.setCell ⟨w.heap.size, 0, none⟩ (.slice Al n cl)).setCell ⟨w.heap.size, 1, none⟩ (.slice Av E.length cv)).ownsRow w.heap.size 49 2 (.slice Av E.length cv) E.length (eL (sortE E)) ∧
      Below w.heap.size w ((w4.setCell ⟨w.heap.size, 0, none⟩ (.slice Al n cl)).setCell ⟨w.heap.size, 1, none⟩ (.slice Av E.length cv))) := Lib.hid (by
      have hne := own_ne HV4.out HR4.out (by decide)
      exact ⟨(HR4.out.put 0 _).put 1 _, ((HG4.out.put (p := ⟨w.heap.size, 0, none⟩) hlt3 _).put (p := ⟨w.heap.size, 1, none⟩) hlt3 _).weaken (by omega), own_put (own_put HV4.out (p := ⟨w.heap.size, 0, none⟩) hne _) (p := ⟨w.heap.size, 1, none⟩) hne _, (HB4.out.setCell (by simp) _).setCell (by simp) _⟩)
    go_region
    all_goals
      go_wp2_with fail
      obtain ⟨q1, q2, q3, q4⟩ := HFIN.out
      exact bodyPost_ret (results_made rfl _ _ _ _ _ _ _ rfl rfl rfl (q1.drewN 1)) rfl ⟨below_drewN' q4 1, Or.inr ⟨HL1.out, HL2.out, HNF.out, g, _, rfl, q2.below (below_drewN' (Below.refl _ _) 1) (Nat.le_refl _), own_drewN q3 1⟩⟩
  · have hR1 := HR.out.below hb1 HR.out.lt
    have hB1 : Below w.heap.size w w1 := HB.out.trans (hb1.mono HB.out.size)
    have hw2 := Whole.new w1 27 #[.slice none 0 0, .slice none 0 0]
    have hb2 : Below w.heap.size w (w1.alloc (.cells #[.slice none 0 0, .slice none 0 0] 27)) := hB1.alloc hB1.size _
    have OF := of_any E _ (w1.alloc (.cells #[.slice none 0 0, .slice none 0 0] 27)) (HSE.out.below hb2 (Nat.le_refl _)) (by have := HL2.out; omega)
    have HR2 := Lib.hid (hR1.alloc (.cells #[.slice none 0 0, .slice none 0 0] 27))
    have HW2 := Lib.hid hw2; have HB2 := Lib.hid hb2; have HOF := Lib.hid OF; have HNF := Lib.hid hnf
    have t9 : (c == 0) = false := by simpa using hc0
    clear hb1 hR1 hB1 hw2 hb2 OF hnf HRN hc0
    go_wp2_with fail
    refine HOF.out.mono ?_; rintro e w3 ⟨v3, rfl, ho3, hb3⟩
    have NG := new_bad L E _ v3 w3 (HSL.out.below (HB2.out.trans (hb3.mono HB2.out.size)) (Nat.le_refl _)) (own_edges ho3) HE.out (by have := HL1.out; omega) (by have := HL2.out; omega) c p HNF.out
    have HNG := Lib.hid NG
    have HB3 := Lib.hid (HB2.out.trans (hb3.mono HB2.out.size))
    have HR3 := Lib.hid (HR2.out.below hb3 HR2.out.lt)
    have HW3 := Lib.hid (HW2.out.below hb3 HW2.out.lt)
    clear ho3 hb3 NG
    go_wp2_with fail
    refine HNG.out.mono ?_; rintro e w4 ⟨u, rfl, _, hb4⟩
    have hR4 := HR3.out.below hb4 HR3.out.lt
    have hW4 := HW3.out.below hb4 HW3.out.lt
    have HB4 := Lib.hid (HB3.out.trans (hb4.mono HB3.out.size))
    have c0 : w4.cell? ⟨w1.heap.size, 0, none⟩ = some (.slice none 0 0) := hW4.cell 0
    have c1 : w4.cell? ⟨w1.heap.size, 1, none⟩ = some (.slice none 0 0) := hW4.cell 1
    have r0 : w4.cell? ⟨w.heap.size, 0, none⟩ = some (.slice none 0 0) := hR4.cell 0
    have r1 : w4.cell? ⟨w.heap.size, 1, none⟩ = some (.slice none 0 0) := hR4.cell 1
    have f0 := hR4.free 0
    have f1 := hR4.free 1
    have HR4 := Lib.hid hR4
    clear hb4 hW4 hR4
    go_wp2_with fail
    go_region
    all_goals
      go_wp2_with fail
      exact bodyPost_ret (results_made rfl _ _ _ _ _ _ _ rfl rfl rfl (((HR4.out.put 0 _).put 1 _).drewN 1)) rfl ⟨below_drewN' ((HB4.out.setCell (by simp) _).setCell (by simp) _) 1, Or.inl ⟨fun h => (by rw [HNF.out] at h; cases h), _, rfl⟩⟩
theorem made_sure (L : List Int) (E : List (Int × Int)) (vl ve : Value) (w : World) (hl : SeqV w vl L) (he : EdgesV w ve E) (hE : ∀ e, e ∈ E → In64 e.1 ∧ In64 e.2) (h1 : L.length ≤ 9223372036854775807) (h2 : E.length ≤ 9223372036854775807) :
    Calls Try.prog 9 #[vl, ve] w (MadeSure L E vl w) := by
  by_cases h : 10 < L.length ∨ 30 < E.length
  · exact made_big L E vl ve w hl he h h1 h2
  · exact made_small L E vl ve w hl he hE (by omega) (by omega)
theorem made_any (L : List Int) (E : List (Int × Int)) (vl ve : Value) (w : World) (hl : SeqV w vl L) (he : EdgesV w ve E) (hE : ∀ e, e ∈ E → In64 e.1 ∧ In64 e.2) (h1 : L.length ≤ 9223372036854775807) (h2 : E.length ≤ 9223372036854775807) :
    Calls Try.prog 9 #[vl, ve] w (MadeTo L E vl w) := (made_sure L E vl ve w hl he hE h1 h2).mono fun _ _ h => h.to
theorem made_good (L : List Int) (E : List (Int × Int)) (vl ve : Value) (w : World) (hl : SeqV w vl L) (he : EdgesV w ve E) (hE : ∀ e, e ∈ E → In64 e.1 ∧ In64 e.2) (h1 : L.length ≤ 10) (h2 : E.length ≤ 30) (hf : newFault L E = none) :
    Calls Try.prog 9 #[vl, ve] w fun e w' => ∃ g v, e = .returned (.tuple #[.pointer (some ⟨g, 0, none⟩), .agg #[vl, v], .bool true]) ∧ GraphOwn w' w.heap.size g L (sortE E) ∧ w'.ownsRow w.heap.size 49 2 v E.length (eL (sortE E)) ∧ Below w.heap.size w w' := by
  refine (made_small L E vl ve w hl he hE h1 h2).mono ?_
  rintro e w' ⟨hb, ⟨h, _⟩ | ⟨_, _, _, g, v, h1, h2, h3⟩⟩
  · have := h hf; omega
  · exact ⟨g, v, h1, h2, h3, hb⟩
end

section
open Go.RowKit

theorem SeqV.pos {w : World} {A : Option Addr} {n c : Nat} {L : List Int} (h : SeqV w (.slice A n c) L) {i : Nat} (hi : i < L.length) : ∃ b off, A = some ⟨b, off, none⟩ ∧ w.cell? ⟨b, off + i, none⟩ = some (.int .i64 (L.getD i 0)) := by
  rcases h with ⟨h0, _⟩ | ⟨_, b, off, c', e, hc⟩
  · omega
  · injection e with e1 _ _
    exact ⟨b, off, e1, hc i hi⟩
theorem idL_get {S : List (Int × Int)} (hF : Fine S) {k : Nat} {x y : Int} (hk : k < S.length) (he : S.getD k (0, 0) = (x, y)) : idL S x y = k ∧ idL S y x = k ∧ x < y := by
  have h1 : S[k] = (x, y) := (getD_at hk).symm.trans he
  have hl : x < y := hF.less (x, y) (by rw [← h1]; exact List.getElem_mem hk)
  have hr : ris (x, y) = (x, y) := by unfold ris; exact Prod.ext (by simp only; omega) (by simp only; omega)
  have h2 : idL S x y = k := idL_at hk (by rw [hr, h1]) (fun i hi hik => by
    rw [hr, ← h1]
    intro he
    have := (List.pairwise_iff_getElem.1 hF.rising i k hi hk hik)
    rw [he] at this
    exact ltE_irrefl _ this)
  exact ⟨h2, by rw [idL_comm]; exact h2, hl⟩
theorem mem_atL {S : List (Int × Int)} {k : Nat} {x y v : Int} (hk : k < S.length) (he : S.getD k (0, 0) = (x, y)) : (k : Int) ∈ atL S v ↔ v = x ∨ v = y := by
  unfold atL
  rw [List.mem_map]
  constructor
  · rintro ⟨i, hi, e⟩
    have : i = k := by omega
    subst this
    have := (List.mem_filter.1 hi).2
    rw [he] at this
    simp at this
    omega
  · intro h
    refine ⟨k, List.mem_filter.2 ⟨List.mem_range.2 hk, ?_⟩, rfl⟩
    rw [he]
    simp; omega
theorem contains_take (M : List Int) (i : Nat) (z : Int) (hi : i < M.length) : (M.take (i + 1)).contains z = ((M.take i).contains z || (M.getD i 0 == z)) := by
  rw [List.take_succ_eq_append_getElem hi, List.contains_eq_any_beq, List.contains_eq_any_beq, List.any_append]
  have : M.getD i 0 = M[i] := by simp [List.getD, hi]
  rw [this]
  simp [Bool.beq_comm]
theorem fine_sort {L : List Int} {E : List (Int × Int)} (h : newFault L E = none) : Fine (sortE E) ∧ (∀ e, e ∈ sortE E → 0 ≤ e.1 ∧ e.2 < (L.length : Int)) ∧ (sortE E).length = E.length := by
  have hg := (newFault_none.1 h).2.2.2
  exact ⟨(good_fine hg).1, (good_fine hg).2, sortE_len E⟩
end

section
open Go.RowKit

/-- Where a row of the call's own lies, if it has a place. -/
theorem own_block {w : World} {base e s n : Nat} {v : Value} {xs : List Value} (h : w.ownsRow base e s v n xs) (hn : 0 < n) : ∃ b cap cur, v = .slice (some ⟨b, 0, none⟩) n cap ∧ base ≤ b ∧ Whole w b e cur ∧ n * s ≤ cur.size ∧ ∀ j, j < n * s → cur[j]? = xs[j]? := by
  have h0 := h
  rcases h.2 with ⟨_, h1⟩ | ⟨b, cap, cur, rfl, e2, e3, e4, _, e5, _⟩
  · omega
  · refine ⟨b, cap, cur, rfl, e2, e3, by rw [e5]; exact Nat.mul_le_mul_right _ e4, fun j hj => ?_⟩
    have e3' : Whole w b e cur := e3
    rw [← e3'.cell, h0.cellAt j hj]
theorem same_seq {X : List Int} {u v : Value} {w : World} (h : SeqV w u X) (k : SeqV w v X) (hl : X.length ≤ 1000000000) :
    Calls Try.prog 12 #[u, v] w fun e w' => e = .returned (.bool true) ∧ ∃ d, w' = w.drewN d := by
  have := sameInts_any X.length X.length _ _ u v w h k hl
  rwa [show sameI (fun i => X.getD i 0) X.length (fun i => X.getD i 0) X.length = true by unfold sameI; rw [eqUpto_iff.2 (fun i _ => rfl)]; simp] at this

/-- A call's list, as it is seen from then on; the worlds of the region. -/
def Told (wr W : World) (N : List Int) (q : Nat) (e : Ending) (w' : World) : Prop :=
  ∃ A c, e = .returned (.slice A q c) ∧ (∀ W', Below w'.heap.size w' W' → SeqV W' (.slice A q c) N) ∧ Below W.heap.size W w' ∧ Below wr.heap.size wr w'
theorem told_own {wr W w' : World} {N : List Int} {q : Nat} {v : Value} {e : Ending} (hq : N.length = q) (he : e = .returned v) (ho : w'.ownsRow W.heap.size 3 1 v N.length (intCells N)) (hb : Below W.heap.size W w') (h0 : Below wr.heap.size wr W) : Told wr W N q e w' := by
  obtain ⟨A, c, rfl⟩ := own_form ho
  have hs := own_seq ho
  rw [hq] at he hs
  exact ⟨A, c, he, fun W' h => hs.below h (Nat.le_refl _), hb, h0.trans (hb.mono h0.size)⟩
theorem told_seq {wr W w' : World} {N : List Int} {q : Nat} {v : Value} {e : Ending} (hq : N.length = q) (he : e = .returned v) (ho : SeqV w' v N) (hb : Below W.heap.size W w') (h0 : Below wr.heap.size wr W) : Told wr W N q e w' := by
  obtain ⟨A, c, rfl⟩ := IntsV.form ho
  rw [hq] at he ho
  exact ⟨A, c, he, fun W' h => ho.below h (Nat.le_refl _), hb, h0.trans (hb.mono h0.size)⟩
theorem same_told {wr W : World} {X : List Int} {u v : Value} (h : SeqV W u X) (k : SeqV W v X) (hl : X.length ≤ 1000000000) (h0 : Below wr.heap.size wr W) :
    Calls Try.prog 12 #[u, v] W fun e w' => e = .returned (.bool true) ∧ Below W.heap.size W w' ∧ Below wr.heap.size wr w' := by
  refine (same_seq h k hl).mono ?_
  rintro e w' ⟨rfl, d, rfl⟩
  exact ⟨rfl, below_drewN' (Below.refl _ _) d, below_drewN' h0 d⟩
end

section
/-- The pairs of a list, as two loops have them. -/
def prs : List Int → List (Int × Int)
  | [] => []
  | a :: t => t.map (fun b => (a, b)) ++ prs t
theorem prs_mem : ∀ {l : List Int} {p : Int × Int}, p ∈ prs l → p.1 ∈ l ∧ p.2 ∈ l
  | [], p, h => by simp [prs] at h
  | a :: t, p, h => by
    rcases List.mem_append.1 h with h | h
    · obtain ⟨b, hb, rfl⟩ := List.mem_map.1 h
      exact ⟨by simp, by simp [hb]⟩
    · have := prs_mem h
      exact ⟨by simp [this.1], by simp [this.2]⟩
theorem prs_lt : ∀ {l : List Int}, l.Pairwise (· < ·) → ∀ {p : Int × Int}, p ∈ prs l → p.1 < p.2
  | [], _, p, h => by simp [prs] at h
  | a :: t, hl, p, h => by
    have hl' := List.pairwise_cons.1 hl
    rcases List.mem_append.1 h with h | h
    · obtain ⟨b, hb, rfl⟩ := List.mem_map.1 h
      exact hl'.1 b hb
    · exact prs_lt hl'.2 h
theorem prs_nodup : ∀ {l : List Int}, l.Pairwise (· < ·) → (prs l).Nodup
  | [], _ => List.nodup_nil
  | a :: t, hl => by
    have hl' := List.pairwise_cons.1 hl
    have ht : t.Nodup := hl'.2.imp (fun h => by omega)
    unfold prs
    rw [List.nodup_append]
    refine ⟨?_, prs_nodup hl'.2, fun x hx y hy e => ?_⟩
    · unfold List.Nodup at ht ⊢
      rw [List.pairwise_map]
      exact ht.imp (fun h e => h (congrArg Prod.snd e))
    · obtain ⟨b, _, rfl⟩ := List.mem_map.1 hx
      subst e
      have := hl'.1 a (prs_mem hy).1
      omega
theorem prs_len : ∀ (l : List Int), 2 * (prs l).length = l.length * (l.length - 1)
  | [] => rfl
  | a :: t => by
    have ih := prs_len t
    simp only [prs, List.length_append, List.length_map, List.length_cons, Nat.add_sub_cancel]
    rcases Nat.eq_zero_or_pos t.length with h | h
    · rw [h] at ih ⊢
      simp at ih
      simp [ih]
    · obtain ⟨k, hk⟩ : ∃ k, t.length = k + 1 := ⟨t.length - 1, by omega⟩
      rw [hk] at ih ⊢
      simp only [Nat.add_sub_cancel] at ih
      rw [Nat.mul_add, ih]
      simp only [Nat.add_mul, Nat.mul_add, Nat.mul_one, Nat.one_mul]
      omega
/-- All pairs of edges that share a vertex. -/
def pairsE (n : Nat) (S : List (Int × Int)) : List (Int × Int) := (List.range n).flatMap fun (v : Nat) => prs (atL S (v : Int))
theorem pairsE_succ (n : Nat) (S : List (Int × Int)) : pairsE (n + 1) S = pairsE n S ++ prs (atL S (n : Int)) := by
  unfold pairsE
  rw [List.range_succ, List.flatMap_append]
  simp
theorem at_mem {S : List (Int × Int)} {v z : Int} (h : z ∈ atL S v) : ∃ k : Nat, z = (k : Int) ∧ ∃ hk : k < S.length, S[k].1 = v ∨ S[k].2 = v := by
  unfold atL at h
  obtain ⟨k, hk, rfl⟩ := List.mem_map.1 h
  obtain ⟨h1, h2⟩ := List.mem_filter.1 hk
  have hk' : k < S.length := List.mem_range.1 h1
  refine ⟨k, rfl, hk', ?_⟩
  rw [show S.getD k (0, 0) = S[k] by simp [List.getD, hk']] at h2
  simpa using h2
theorem at_rising (S : List (Int × Int)) (v : Int) : (atL S v).Pairwise (· < ·) := by
  unfold atL
  rw [List.pairwise_map]
  exact (List.pairwise_lt_range.filter _).imp (fun h => by omega)
theorem pairsE_mem {n : Nat} {S : List (Int × Int)} {p : Int × Int} (h : p ∈ pairsE n S) : ∃ v : Nat, v < n ∧ p ∈ prs (atL S (v : Int)) := by
  obtain ⟨v, hv, hp⟩ := List.mem_flatMap.1 h
  exact ⟨v, List.mem_range.1 hv, hp⟩
theorem pairsE_good {n : Nat} {S : List (Int × Int)} (hF : Fine S) : Good (S.length : Int) (pairsE n S) := by
  have hlt : ∀ p, p ∈ pairsE n S → p.1 < p.2 ∧ 0 ≤ p.1 ∧ p.2 < (S.length : Int) := fun p hp => by
    obtain ⟨v, _, hp⟩ := pairsE_mem hp
    have h1 := prs_lt (at_rising S v) hp
    obtain ⟨a, ha, ha', _⟩ := at_mem (prs_mem hp).1
    obtain ⟨b, hb, hb', _⟩ := at_mem (prs_mem hp).2
    omega
  have hmap : (pairsE n S).map ris = pairsE n S := by
    have : ∀ l : List (Int × Int), (∀ p, p ∈ l → p.1 < p.2) → l.map ris = l := fun l => by
      induction l with
      | nil => intro _; rfl
      | cons a t ih =>
        intro h
        rw [List.map_cons, ih (fun p hp => h p (by simp [hp]))]
        have := h a (by simp)
        rw [show ris a = a by unfold ris; exact Prod.ext (by simp only; omega) (by simp only; omega)]
    exact this _ (fun p hp => (hlt p hp).1)
  refine ⟨?_, fun p hp => by have := hlt p hp; omega⟩
  rw [hmap]
  have key : ∀ k, (pairsE k S).Nodup := fun k => by
    induction k with
    | zero => exact List.nodup_nil
    | succ k ih =>
      rw [pairsE_succ, List.nodup_append]
      refine ⟨ih, prs_nodup (at_rising S k), fun p hp q hq e => ?_⟩
      subst e
      obtain ⟨v, hv, hp⟩ := pairsE_mem hp
      have h1 := prs_lt (at_rising S v) hp
      obtain ⟨a, ha, ha1, ha2⟩ := at_mem (prs_mem hp).1
      obtain ⟨b, hb, hb1, hb2⟩ := at_mem (prs_mem hp).2
      obtain ⟨a', ha', _, ha3⟩ := at_mem (prs_mem hq).1
      obtain ⟨b', hb', _, hb3⟩ := at_mem (prs_mem hq).2
      obtain rfl : a = a' := by omega
      obtain rfl : b = b' := by omega
      have la := hF.less _ (List.getElem_mem ha1)
      have lb := hF.less _ (List.getElem_mem hb1)
      have hab : a < b := by omega
      have := List.pairwise_iff_getElem.1 hF.rising a b ha1 hb1 hab
      unfold ltE at this
      omega
  exact key n
end
end Go.Proofs.Ytploaffmhemjkaa
