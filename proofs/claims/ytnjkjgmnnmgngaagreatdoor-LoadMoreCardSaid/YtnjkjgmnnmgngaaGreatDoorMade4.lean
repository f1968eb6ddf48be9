/- Layer 4: Made. -/
import Derived.Test.YtnjkjgmnnmgngaaGreatDoorJ16
import Derived.Test.YtnjkjgmnnmgngaaGreatDoorRefG5
import Derived.BigRegion
namespace Go.Proofs.YtnjkjgmnnmgngaaGreatDoor
open Go.RowKit

/-- Three results, of which the second is a graph of the document that lies in a box. -/
theorem results_made {fn : Func} {p q r : Tmp} (h : fn.results = #[.tmp q, .cell p 36, .tmp r]) (tmps : Array Value) (w : World) (g : Nat) (x y c d : Value) (hp : tmps.getD p undef = .pointer (some ⟨g, 0, none⟩)) (hq : tmps.getD q undef = c) (hr : tmps.getD r undef = d) (hc : Whole w g 36 #[x, y]) :
    (results fn tmps).run Tryz.prog w = .ok (.tuple #[c, .agg #[x, y], d]) w := by
  have hp' : tmps[p]?.getD undef = .pointer (some ⟨g, 0, none⟩) := by simpa using hp
  have hq' : tmps[q]?.getD undef = c := by simpa using hq
  have hr' : tmps[r]?.getD undef = d := by simpa using hr
  have c0 : w.cell? ⟨g, 0, none⟩ = some x := hc.cell 0
  have c1 : w.cell? ⟨g, 1, none⟩ = some y := hc.cell 1
  simp [results, h, hp', hq', hr', asAddr, loadVar, go_sem, c0, c1]
theorem own_put_lt {w : World} {base e s n : Nat} {v : Value} {xs : List Value} (h : w.ownsRow base e s v n xs) {p : Addr} (hp : p.block < base) (u : Value) : (w.setCell p u).ownsRow base e s v n xs :=
  own_put h (fun he => by have := (h.lt _ he).1; omega) u
theorem GraphOwn.put {w : World} {base g : Nat} {L : List Int} {S : List (Int × Int)} (h : GraphOwn w base g L S) {p : Addr} (hp : p.block < base) (u : Value) : GraphOwn (w.setCell p u) base g L S := by
  obtain ⟨A, c, eb, nb, ab, us, h1, h2, h3, h4, h5, h6, k1, k2, k3, k4⟩ := h
  exact ⟨A, c, eb, nb, ab, us, h1.other (by omega) u, own_put_lt h2 hp u, h3.other (by omega) u, h4.other (by omega) u, h5.other (by omega) u, ⟨h6.len, fun i x M hx hM => own_put_lt (h6.row i x M hx hM) hp u, h6.apart⟩, k1, k2, k3, k4⟩
/-- What Made tells. -/
def MadeTo (L : List Int) (E : List (Int × Int)) (vl : Value) (w : World) (e : Ending) (w' : World) : Prop :=
  Below w.heap.size w w' ∧ ((∃ p x y, e = .returned (.tuple #[p, .agg #[x, y], .bool false])) ∨
    (L.length ≤ 10 ∧ E.length ≤ 30 ∧ newFault L E = none ∧ ∃ g v, e = .returned (.tuple #[.pointer (some ⟨g, 0, none⟩), .agg #[vl, v], .bool true]) ∧ GraphOwn w' w.heap.size g L (sortE E) ∧ w'.ownsRow w.heap.size 56 2 v E.length (eL (sortE E))))

/-- What Made tells, and when it fails. -/
def MadeSure (L : List Int) (E : List (Int × Int)) (vl : Value) (w : World) (e : Ending) (w' : World) : Prop :=
  Below w.heap.size w w' ∧ (((newFault L E = none → 10 < L.length ∨ 30 < E.length) ∧ ∃ p, e = .returned (.tuple #[p, .agg #[.slice none 0 0, .slice none 0 0], .bool false])) ∨
    (L.length ≤ 10 ∧ E.length ≤ 30 ∧ newFault L E = none ∧ ∃ g v, e = .returned (.tuple #[.pointer (some ⟨g, 0, none⟩), .agg #[vl, v], .bool true]) ∧ GraphOwn w' w.heap.size g L (sortE E) ∧ w'.ownsRow w.heap.size 56 2 v E.length (eL (sortE E))))
theorem MadeSure.to {L : List Int} {E : List (Int × Int)} {vl : Value} {w w' : World} {e : Ending} (h : MadeSure L E vl w e w') : MadeTo L E vl w e w' := by
  obtain ⟨hb, ⟨_, p, h⟩ | h⟩ := h
  · exact ⟨hb, Or.inl ⟨p, _, _, h⟩⟩
  · exact ⟨hb, Or.inr h⟩

set_option maxRecDepth 100000 in
set_option maxHeartbeats 4000000 in
theorem made_big (L : List Int) (E : List (Int × Int)) (vl ve : Value) (w : World) (hl : SeqV w vl L) (he : EdgesV w ve E) (hbig : 10 < L.length ∨ 30 < E.length) (hm : L.length ≤ 9223372036854775807) (hm2 : E.length ≤ 9223372036854775807) :
    Calls Tryz.prog 14 #[vl, ve] w (MadeSure L E vl w) := by
  have HBIG := Lib.hid hbig
  have hR := Whole.new w 36 #[.slice none 0 0, .slice none 0 0]
  have hB : Below w.heap.size w (w.alloc (.cells #[.slice none 0 0, .slice none 0 0] 36)) := (Below.refl _ _).alloc (Nat.le_refl _) _
  have HR := Lib.hid hR; have HB := Lib.hid hB
  obtain ⟨Al, cl, rfl⟩ := IntsV.form hl
  obtain ⟨Ae, ce, rfl⟩ := he.form
  obtain ⟨n, hn⟩ : ∃ n, L.length = n := ⟨_, rfl⟩
  obtain ⟨m, hmm⟩ : ∃ m, E.length = m := ⟨_, rfl⟩
  rw [hn] at hbig hm ⊢
  rw [hmm] at hbig hm2 ⊢
  have hc : (decide ((10 : Int) < n) = true ∧ decide (10 < n) = true) ∨ ((decide ((10 : Int) < n) = false ∧ decide (10 < n) = false) ∧ decide ((30 : Int) < m) = true ∧ decide (30 < m) = true) := by
    simp; omega
  clear hl he hn hmm hbig hR hB
  rcases hc with ⟨t1, t1'⟩ | ⟨⟨t1, t1'⟩, t2, t2'⟩
  all_goals
    go_enter Tryz.func14, Tryz.ntmps14
    go_wp2_with fail
    exact bodyPost_ret (results_made rfl _ _ _ _ _ _ _ rfl rfl rfl HR.out) rfl ⟨HB.out, Or.inl ⟨fun _ => HBIG.out, _, rfl⟩⟩

set_option maxRecDepth 100000 in
set_option maxHeartbeats 4000000 in
theorem made_small (L : List Int) (E : List (Int × Int)) (vl ve : Value) (w : World) (hl : SeqV w vl L) (he : EdgesV w ve E) (hE : ∀ e, e ∈ E → In64 e.1 ∧ In64 e.2) (h1 : L.length ≤ 10) (h2 : E.length ≤ 30) :
    Calls Tryz.prog 14 #[vl, ve] w (MadeSure L E vl w) := by
  have HSL := Lib.hid hl; have HSE := Lib.hid he; have HE := Lib.hid hE
  have hR := Whole.new w 36 #[.slice none 0 0, .slice none 0 0]
  have hB : Below w.heap.size w (w.alloc (.cells #[.slice none 0 0, .slice none 0 0] 36)) := (Below.refl _ _).alloc (Nat.le_refl _) _
  have RN := refNew_any L E vl ve (w.alloc (.cells #[.slice none 0 0, .slice none 0 0] 36)) (hl.below hB (Nat.le_refl _)) (he.below hB (Nat.le_refl _)) (by omega) (by omega)
  have HR := Lib.hid hR; have HB := Lib.hid hB; have HRN := Lib.hid RN
  have HL1 := Lib.hid h1; have HL2 := Lib.hid h2
  obtain ⟨Al, cl, rfl⟩ := IntsV.form hl
  obtain ⟨Ae, ce, rfl⟩ := he.form
  obtain ⟨n, hn⟩ : ∃ n, L.length = n := ⟨_, rfl⟩
  obtain ⟨m, hmm⟩ : ∃ m, E.length = m := ⟨_, rfl⟩
  rw [hn] at h1 HSL HRN ⊢
  rw [hmm] at h2 HSE HRN ⊢
  have HM := Lib.hid hmm
  have t1 : decide ((10 : Int) < n) = false := decide_eq_false (by omega)
  have t1' : decide (10 < n) = false := decide_eq_false (by omega)
  have t2 : decide ((30 : Int) < m) = false := decide_eq_false (by omega)
  have t2' : decide (30 < m) = false := decide_eq_false (by omega)
  clear hl he hE hn hmm hR hB RN
  go_enter Tryz.func14, Tryz.ntmps14
  go_wp2_with fail
  refine HRN.out.mono ?_
  rintro e w1 ⟨hb1, ⟨hnf, v, rfl, hv⟩ | ⟨c, p, hnf, hc0, rfl⟩⟩
  · obtain ⟨Av, cv, rfl⟩ := own_form hv
    have hR1 := HR.out.below hb1 HR.out.lt
    have hB1 : Below w.heap.size w w1 := HB.out.trans (hb1.mono HB.out.size)
    have hw2 := Whole.new w1 36 #[.slice Al n cl, .slice Av E.length cv]
    have hb2 : Below w.heap.size w (w1.alloc (.cells #[.slice Al n cl, .slice Av E.length cv] 36)) := hB1.alloc hB1.size _
    have OF := of_any E _ (w1.alloc (.cells #[.slice Al n cl, .slice Av E.length cv] 36)) (HSE.out.below hb2 (Nat.le_refl _)) (by have := HL2.out; omega)
    have HR2 := Lib.hid (hR1.alloc (.cells #[.slice Al n cl, .slice Av E.length cv] 36))
    have HW2 := Lib.hid hw2; have HB2 := Lib.hid hb2; have HOF := Lib.hid OF; have HNF := Lib.hid hnf
    have HV := Lib.hid (own_base (hv.alloc (.cells #[.slice Al n cl, .slice Av E.length cv] 36)) HB.out.size)
    clear hb1 hv hR1 hB1 hw2 hb2 OF hnf HRN
    go_wp2_with fail
    refine HOF.out.mono ?_; rintro e w3 ⟨v3, rfl, ho3, hb3⟩
    have NG := new_good L E _ v3 w3 (HSL.out.below (HB2.out.trans (hb3.mono HB2.out.size)) (Nat.le_refl _)) (own_edges ho3) HE.out HNF.out
    have HNG := Lib.hid NG
    have HB3 := Lib.hid (HB2.out.trans (hb3.mono HB2.out.size))
    have HR3 := Lib.hid (HR2.out.below hb3 HR2.out.lt)
    have HW3 := Lib.hid (HW2.out.below hb3 HW2.out.lt)
    have HV3 := Lib.hid (own_below HV.out hb3 (Nat.le_refl _))
    clear ho3 hb3 NG
    go_wp2_with fail
    refine HNG.out.mono ?_; rintro e w4 ⟨g, rfl, hg4, hb4⟩
    have hR4 := HR3.out.below hb4 HR3.out.lt
    have hW4 := HW3.out.below hb4 HW3.out.lt
    have HB4 := Lib.hid (HB3.out.trans (hb4.mono HB3.out.size))
    have HV4 := Lib.hid (own_below HV3.out hb4 (Nat.le_refl _))
    have HG4 := Lib.hid hg4
    have hlt3 : w.heap.size < w3.heap.size := HR3.out.lt
    have c0 : w4.cell? ⟨w1.heap.size, 0, none⟩ = some (.slice Al n cl) := hW4.cell 0
    have c1 : w4.cell? ⟨w1.heap.size, 1, none⟩ = some (.slice Av E.length cv) := hW4.cell 1
    have r0 : w4.cell? ⟨w.heap.size, 0, none⟩ = some (.slice none 0 0) := hR4.cell 0
    have r1 : w4.cell? ⟨w.heap.size, 1, none⟩ = some (.slice none 0 0) := hR4.cell 1
    have f0 := hR4.free 0
    have f1 := hR4.free 1
    have HR4 := Lib.hid hR4
    have t9 : ((0 : Int) == 0) = true := rfl
    clear hg4 hb4 hW4 hR4
    go_wp2_with fail
    have HFIN : Hid (Whole ((w4.setCell ⟨w.heap.size, 0, none⟩ (.slice Al n cl)).setCell ⟨w.heap.size, 1, none⟩ (.slice Av E.length cv)) w.heap.size 36 #[.slice Al n cl, .slice Av E.length cv] ∧
      GraphOwn ((w4.setCell ⟨w.heap.size, 0, none⟩ (.slice Al n cl)).setCell ⟨w.heap.size, 1, none⟩ (.slice Av E.length cv)) w.heap.size g L (sortE E) ∧
      ((w4.setCell ⟨w.heap.size, 0, none⟩ (.slice Al n cl)).setCell ⟨w.heap.size, 1, none⟩ (.slice Av E.length cv)).ownsRow w.heap.size 56 2 (.slice Av E.length cv) E.length (eL (sortE E)) ∧
      Below w.heap.size w ((w4.setCell ⟨w.heap.size, 0, none⟩ (.slice Al n cl)).setCell ⟨w.heap.size, 1, none⟩ (.slice Av E.length cv))) := Lib.hid (by
      have hne := own_ne HV4.out HR4.out (by decide)
      exact ⟨(HR4.out.put 0 _).put 1 _, ((HG4.out.put (p := ⟨w.heap.size, 0, none⟩) hlt3 _).put (p := ⟨w.heap.size, 1, none⟩) hlt3 _).weaken (by omega), own_put (own_put HV4.out (p := ⟨w.heap.size, 0, none⟩) hne _) (p := ⟨w.heap.size, 1, none⟩) hne _, (HB4.out.setCell (by simp) _).setCell (by simp) _⟩)
    go_region
    all_goals
      go_wp2_with fail
      obtain ⟨q1, q2, q3, q4⟩ := HFIN.out
      exact bodyPost_ret (results_made rfl _ _ _ _ _ _ _ rfl rfl rfl (q1.drewN 1)) rfl ⟨below_drewN' q4 1, Or.inr ⟨HL1.out, HL2.out, HNF.out, g, _, rfl, q2.below (below_drewN' (Below.refl _ _) 1) (Nat.le_refl _), own_drewN q3 1⟩⟩
  · have hR1 := HR.out.below hb1 HR.out.lt
    have hB1 : Below w.heap.size w w1 := HB.out.trans (hb1.mono HB.out.size)
    have hw2 := Whole.new w1 36 #[.slice none 0 0, .slice none 0 0]
    have hb2 : Below w.heap.size w (w1.alloc (.cells #[.slice none 0 0, .slice none 0 0] 36)) := hB1.alloc hB1.size _
    have OF := of_any E _ (w1.alloc (.cells #[.slice none 0 0, .slice none 0 0] 36)) (HSE.out.below hb2 (Nat.le_refl _)) (by have := HL2.out; omega)
    have HR2 := Lib.hid (hR1.alloc (.cells #[.slice none 0 0, .slice none 0 0] 36))
    have HW2 := Lib.hid hw2; have HB2 := Lib.hid hb2; have HOF := Lib.hid OF; have HNF := Lib.hid hnf
    have t9 : (c == 0) = false := by simpa using hc0
    clear hb1 hR1 hB1 hw2 hb2 OF hnf HRN hc0
    go_wp2_with fail
    refine HOF.out.mono ?_; rintro e w3 ⟨v3, rfl, ho3, hb3⟩
    have NG := new_bad L E _ v3 w3 (HSL.out.below (HB2.out.trans (hb3.mono HB2.out.size)) (Nat.le_refl _)) (own_edges ho3) HE.out (by have := HL1.out; omega) (by have := HL2.out; omega) c p HNF.out
    have HNG := Lib.hid NG
    have HB3 := Lib.hid (HB2.out.trans (hb3.mono HB2.out.size))
    have HR3 := Lib.hid (HR2.out.below hb3 HR2.out.lt)
    have HW3 := Lib.hid (HW2.out.below hb3 HW2.out.lt)
    clear ho3 hb3 NG
    go_wp2_with fail
    refine HNG.out.mono ?_; rintro e w4 ⟨u, rfl, _, hb4⟩
    have hR4 := HR3.out.below hb4 HR3.out.lt
    have hW4 := HW3.out.below hb4 HW3.out.lt
    have HB4 := Lib.hid (HB3.out.trans (hb4.mono HB3.out.size))
    have c0 : w4.cell? ⟨w1.heap.size, 0, none⟩ = some (.slice none 0 0) := hW4.cell 0
    have c1 : w4.cell? ⟨w1.heap.size, 1, none⟩ = some (.slice none 0 0) := hW4.cell 1
    have r0 : w4.cell? ⟨w.heap.size, 0, none⟩ = some (.slice none 0 0) := hR4.cell 0
    have r1 : w4.cell? ⟨w.heap.size, 1, none⟩ = some (.slice none 0 0) := hR4.cell 1
    have f0 := hR4.free 0
    have f1 := hR4.free 1
    have HR4 := Lib.hid hR4
    clear hb4 hW4 hR4
    go_wp2_with fail
    go_region
    all_goals
      go_wp2_with fail
      exact bodyPost_ret (results_made rfl _ _ _ _ _ _ _ rfl rfl rfl (((HR4.out.put 0 _).put 1 _).drewN 1)) rfl ⟨below_drewN' ((HB4.out.setCell (by simp) _).setCell (by simp) _) 1, Or.inl ⟨fun h => (by rw [HNF.out] at h; cases h), _, rfl⟩⟩
theorem made_sure (L : List Int) (E : List (Int × Int)) (vl ve : Value) (w : World) (hl : SeqV w vl L) (he : EdgesV w ve E) (hE : ∀ e, e ∈ E → In64 e.1 ∧ In64 e.2) (h1 : L.length ≤ 9223372036854775807) (h2 : E.length ≤ 9223372036854775807) :
    Calls Tryz.prog 14 #[vl, ve] w (MadeSure L E vl w) := by
  by_cases h : 10 < L.length ∨ 30 < E.length
  · exact made_big L E vl ve w hl he h h1 h2
  · exact made_small L E vl ve w hl he hE (by omega) (by omega)
theorem made_any (L : List Int) (E : List (Int × Int)) (vl ve : Value) (w : World) (hl : SeqV w vl L) (he : EdgesV w ve E) (hE : ∀ e, e ∈ E → In64 e.1 ∧ In64 e.2) (h1 : L.length ≤ 9223372036854775807) (h2 : E.length ≤ 9223372036854775807) :
    Calls Tryz.prog 14 #[vl, ve] w (MadeTo L E vl w) := (made_sure L E vl ve w hl he hE h1 h2).mono fun _ _ h => h.to
theorem made_good (L : List Int) (E : List (Int × Int)) (vl ve : Value) (w : World) (hl : SeqV w vl L) (he : EdgesV w ve E) (hE : ∀ e, e ∈ E → In64 e.1 ∧ In64 e.2) (h1 : L.length ≤ 10) (h2 : E.length ≤ 30) (hf : newFault L E = none) :
    Calls Tryz.prog 14 #[vl, ve] w fun e w' => ∃ g v, e = .returned (.tuple #[.pointer (some ⟨g, 0, none⟩), .agg #[vl, v], .bool true]) ∧ GraphOwn w' w.heap.size g L (sortE E) ∧ w'.ownsRow w.heap.size 56 2 v E.length (eL (sortE E)) ∧ Below w.heap.size w w' := by
  refine (made_small L E vl ve w hl he hE h1 h2).mono ?_
  rintro e w' ⟨hb, ⟨h, _⟩ | ⟨_, _, _, g, v, h1, h2, h3⟩⟩
  · have := h hf; omega
  · exact ⟨g, v, h1, h2, h3, hb⟩
end Go.Proofs.YtnjkjgmnnmgngaaGreatDoor
