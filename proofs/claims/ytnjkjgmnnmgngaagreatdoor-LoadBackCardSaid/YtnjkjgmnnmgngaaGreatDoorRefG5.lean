/- The document's New. -/
import Derived.Test.YtnjkjgmnnmgngaaGreatDoorJ16
import Derived.Test.YtnjkjgmnnmgngaaGreatDoorJ5
import Derived.StillTailTactics
namespace Go.Proofs.YtnjkjgmnnmgngaaGreatDoor
open Go.RowKit

/-- Three results, of which the first is a graph of the document that lies in a box. -/
theorem results_refGraph {fn : Func} {p q r : Tmp} (h : fn.results = #[.cell p 36, .tmp q, .tmp r]) (tmps : Array Value) (w : World) (g : Nat) (x y c d : Value) (hp : tmps.getD p undef = .pointer (some ⟨g, 0, none⟩)) (hq : tmps.getD q undef = c) (hr : tmps.getD r undef = d) (hc : Whole w g 36 #[x, y]) :
    (results fn tmps).run Tryz.prog w = .ok (.tuple #[.agg #[x, y], c, d]) w := by
  have hp' : tmps[p]?.getD undef = .pointer (some ⟨g, 0, none⟩) := by simpa using hp
  have hq' : tmps[q]?.getD undef = c := by simpa using hq
  have hr' : tmps[r]?.getD undef = d := by simpa using hr
  have c0 : w.cell? ⟨g, 0, none⟩ = some x := hc.cell 0
  have c1 : w.cell? ⟨g, 1, none⟩ = some y := hc.cell 1
  simp [results, h, hp', hq', hr', asAddr, loadVar, go_sem, c0, c1]

/-- What the document's New tells. -/
def RefNewTo (L : List Int) (E : List (Int × Int)) (vl : Value) (w : World) (e : Ending) (w' : World) : Prop :=
  Below w.heap.size w w' ∧ ((newFault L E = none ∧ ∃ v, e = .returned (.tuple #[.agg #[vl, v], .int .i64 0, .int .i64 0]) ∧ w'.ownsRow w.heap.size 56 2 v E.length (eL (sortE E))) ∨
    ∃ c p, newFault L E = some (c, p) ∧ c ≠ 0 ∧ e = .returned (.tuple #[.agg #[.slice none 0 0, .slice none 0 0], .int .i64 c, .int .i64 p]))
theorem fault_lab {L : List Int} {E : List (Int × Int)} {k : Nat} (h1 : L.length ≤ 4096) (h2 : E.length ≤ 16384) (hk : k < L.length) (hok : ∀ i, i < k → labBad L i = false) (hb : labBad L k = true) : newFault L E = some (3, (k : Int)) := by
  unfold newFault
  rw [if_neg (by omega), find_at hk hok hb]
theorem fault_edge {L : List Int} {E : List (Int × Int)} {k : Nat} {c : Int} (h1 : L.length ≤ 4096) (h2 : E.length ≤ 16384) (hl : ∀ i, i < L.length → labBad L i = false) (hk : k < E.length) (hok : ∀ i, i < k → edgeAt L.length E i = 0) (hb : edgeAt L.length E k = c) (hc : c ≠ 0) : newFault L E = some (c, (k : Int)) := by
  unfold newFault
  rw [if_neg (by omega), find_none hl, find_at hk (fun i hi => by simp [hok i hi]) (by simp [hb, hc])]
  simp [hb]
theorem fault_no {L : List Int} {E : List (Int × Int)} (h1 : L.length ≤ 4096) (h2 : E.length ≤ 16384) (hl : ∀ i, i < L.length → labBad L i = false) (hok : ∀ i, i < E.length → edgeAt L.length E i = 0) : newFault L E = none := by
  unfold newFault
  rw [if_neg (by omega), find_none hl, find_none (fun i hi => by simp [hok i hi])]

set_option maxRecDepth 100000 in
set_option maxHeartbeats 4000000 in
theorem refNew_any (L : List Int) (E : List (Int × Int)) (vl ve : Value) (w : World) (hl : SeqV w vl L) (he : EdgesV w ve E) (hL : L.length ≤ 4096) (hE : E.length ≤ 16384) :
    Calls Tryz.prog 38 #[vl, ve] w (RefNewTo L E vl w) := by
  obtain ⟨j0, hj0, hz0, hz1, hz2⟩ := info_parts Tryz.infoRE
  have HSL := Lib.hid hl; have HSE := Lib.hid he
  obtain ⟨Al, cl, rfl⟩ := IntsV.form hl
  obtain ⟨Ae, ce, rfl⟩ := he.form
  obtain ⟨n, hn⟩ : ∃ n, L.length = n := ⟨_, rfl⟩
  obtain ⟨m, hm⟩ : ∃ m, E.length = m := ⟨_, rfl⟩
  have HN := Lib.hid hn; have HM := Lib.hid hm
  rw [hn] at hL HSL ⊢
  rw [hm] at hE HSE ⊢
  have t1 : decide ((4096 : Int) < n) = false := decide_eq_false (by omega)
  have t1' : decide (4096 < n) = false := decide_eq_false (by omega)
  have t2 : decide ((16384 : Int) < m) = false := decide_eq_false (by omega)
  have t2' : decide (16384 < m) = false := decide_eq_false (by omega)
  have hb0 : Below w.heap.size w (w.alloc (.cells #[.slice none 0 0, .slice none 0 0] 36)) := (Below.refl _ _).alloc (Nat.le_refl _) _
  have HR0 := Lib.hid (Whole.new w 36 #[.slice none 0 0, .slice none 0 0])
  have HB0 := Lib.hid hb0
  obtain ⟨w0, hw0⟩ : ∃ W, w.alloc (.cells #[.slice none 0 0, .slice none 0 0] 36) = W := ⟨_, rfl⟩
  rw [hw0] at HR0 HB0
  have HW0 := Lib.hid hw0
  have hsz : w.heap.size < w0.heap.size := HR0.out.lt
  clear hl he hn hm hb0 hw0
  go_enter Tryz.func38, Tryz.ntmps38
  go_wp2_with fail
  rw [HW0.out]
  go_loopg [7] n (fun gh y wr => ∃ k, k ≤ n ∧ gh = n - k ∧ y = .int .i64 (k : Nat) ∧ (∀ i, i < k → labBad L i = false) ∧ wr = w0)
  case atStart => exact ⟨0, Nat.zero_le _, rfl, rfl, fun i h => by omega, rfl⟩
  case round =>
    obtain ⟨k, hk, rfl, rfl, hok, rfl⟩ := hrel
    have HOK := Lib.hid hok
    clear hok
    by_cases hlt : k < n
    · have hkL : k < L.length := by rw [HN.out]; exact hlt
      obtain ⟨b, off, rfl, hcell⟩ := IntsV.pos (by have := HSL.out.below HB0.out (Nat.le_refl _); unfold SeqV at this; rw [HN.out] at this; exact this) hlt
      have hc := hcell k hlt
      obtain ⟨z, hz⟩ : ∃ z, L.getD k 0 = z := ⟨_, rfl⟩
      have hc' : wr.cell? ⟨b, off + k, none⟩ = some (.int .i64 z) := by rw [← hz]; exact hc
      have t3 : decide (k < n) = true := decide_eq_true hlt
      have i1 : (k : Int) < n := by omega
      have i2 : (0 : Int) ≤ k := by omega
      have HLT := Lib.hid hlt; have HZ := Lib.hid hz
      by_cases hbad : z < 0 ∨ 255 < z
      · have HF : Hid (newFault L E = some (3, (k : Int))) := Lib.hid (fault_lab (by rw [HN.out]; exact hL) (by rw [HM.out]; exact hE) hkL HOK.out (by unfold labBad; rw [hz]; simp; omega))
        have hc2 : decide (z < 0) = true ∨ (decide (z < 0) = false ∧ decide (255 < z) = true) := by simp; omega
        have hR := HR0.out
        have f0 := hR.free 0
        have f1 := hR.free 1
        have c0 : wr.cell? ⟨w.heap.size, 0, none⟩ = some (.slice none 0 0) := hR.cell 0
        have c1 : wr.cell? ⟨w.heap.size, 1, none⟩ = some (.slice none 0 0) := hR.cell 1
        clear hcell hc hz hlt hbad hkL hR
        rcases hc2 with t4 | ⟨t4, t5⟩
        all_goals
          go_wp2_with fail
          exact bodyPost_ret (results_refGraph rfl _ _ _ _ _ _ _ rfl rfl rfl ((HR0.out.put 0 _).put 1 _)) rfl ⟨(HB0.out.setCell (by simp) _).setCell (by simp) _, Or.inr ⟨_, _, HF.out, by decide, rfl⟩⟩
      · have t4 : decide (z < 0) = false := decide_eq_false (by omega)
        have t5 : decide (255 < z) = false := decide_eq_false (by omega)
        have HOK2 : Hid (∀ i, i < k + 1 → labBad L i = false) := Lib.hid (fun i hi => by
          rcases (by omega : i = k ∨ i < k) with rfl | h
          · unfold labBad; rw [HZ.out, t4, t5]; rfl
          · exact HOK.out i h)
        clear hcell hc hz hlt hbad hkL
        go_wp2_with fail
        go_roundg (n - (k + 1))
        case rel => exact ⟨k + 1, HLT.out, rfl, by go_num, HOK2.out, rfl⟩
        case measure => have := HLT.out; omega
    · obtain rfl : k = n := by omega
      have t3 : decide (k < k) = false := by simp
      have HOKL : Hid (∀ i, i < L.length → labBad L i = false) := Lib.hid (fun i hi => HOK.out i (by rw [← HN.out]; exact hi))
      clear hlt
      go_wp2_with fail
      have hw1 := Whole.new wr 36 #[.slice Al k cl, .slice none 0 0]
      have hr1 := HR0.out.alloc (.cells #[.slice Al k cl, .slice none 0 0] 36)
      have hb1 : Below w.heap.size w (wr.alloc (.cells #[.slice Al k cl, .slice none 0 0] 36)) := HB0.out.alloc HB0.out.size _
      obtain ⟨gb, hgb⟩ : ∃ g, wr.heap.size = g := ⟨_, rfl⟩
      obtain ⟨w1, hw⟩ : ∃ W, wr.alloc (.cells #[.slice Al k cl, .slice none 0 0] 36) = W := ⟨_, rfl⟩
      rw [hw, hgb] at hw1 ⊢
      rw [hw] at hr1 hb1
      have hgbw : w.heap.size < gb := by omega
      have HG1 := Lib.hid hw1; have HR1 := Lib.hid hr1; have HB1 := Lib.hid hb1
      clear hw1 hr1 hb1 hw hgb
      go_loopg [9] m (fun gh y wr => ∃ j, j ≤ m ∧ gh = m - j ∧ y = .int .i64 (j : Nat) ∧ Whole wr w.heap.size 36 #[.slice none 0 0, .slice none 0 0] ∧
        (∃ A c, Whole wr gb 36 #[.slice Al k cl, .slice A j c] ∧ wr.ownsRow w.heap.size 56 2 (.slice A j c) j (eL (sortE (E.take j)))) ∧ Below w.heap.size w wr ∧ ∀ i, i < j → edgeAt L.length E i = 0)
      case atStart => exact ⟨0, Nat.zero_le _, rfl, rfl, HR1.out, ⟨none, 0, HG1.out, World.ownsRow_nil _ _ _ 2⟩, HB1.out, fun i h => by omega⟩
      case round =>
        obtain ⟨j, hj, rfl, rfl, hR, ⟨A, c, hG, hown⟩, hB, hok⟩ := hrel
        have HRR := Lib.hid hR; have HGG := Lib.hid hG; have HOW := Lib.hid hown; have HBB := Lib.hid hB; have HOKE := Lib.hid hok
        clear hR hG hown hB hok
        by_cases hlt : j < m
        · have hjE : j < E.length := by rw [HM.out]; exact hlt
          obtain ⟨b, off, rfl, d0, d1⟩ := (HSE.out.below HBB.out (Nat.le_refl _)).pos hjE
          obtain ⟨e, he⟩ : ∃ e, E.getD j (0, 0) = e := ⟨_, rfl⟩
          rw [he] at d0 d1
          obtain ⟨x, y⟩ := e
          have t3 : decide (j < m) = true := decide_eq_true hlt
          have i1 : (j : Int) < m := by omega
          have i2 : (0 : Int) ≤ j := by omega
          have T1 := turned_any x y wr
          obtain ⟨lo, hlo⟩ : ∃ z, min x y = z := ⟨_, rfl⟩
          obtain ⟨hi, hhi⟩ : ∃ z, max x y = z := ⟨_, rfl⟩
          rw [hlo, hhi] at T1
          have HT := Lib.hid T1
          have HRIS : Hid (ris (x, y) = (lo, hi)) := Lib.hid (by unfold ris; simp only [hlo, hhi])
          have HEA : Hid (edgeAt L.length E j = edgeFault k ((E.take j).map ris) (x, y)) := Lib.hid (by unfold edgeAt; rw [he, HN.out])
          have HLO := Lib.hid hlo; have HHI := Lib.hid hhi; have HLT := Lib.hid hlt; have HJE := Lib.hid hjE; have HEJ := Lib.hid he
          clear T1 hlo hhi hlt hjE he
          go_wp2_with fail
          refine HT.out.mono ?_; rintro e' w2 ⟨rfl, hb2⟩
          have hR2 := HRR.out.below hb2 HRR.out.lt
          have hG2 := HGG.out.below hb2 HGG.out.lt
          have hO2 := own_below HOW.out hb2 (Nat.le_refl _)
          have hB2 : Below w.heap.size w w2 := HBB.out.trans (hb2.mono HBB.out.size)
          have hX3 := Whole.new w2 56 #[.int .i64 lo, .int .i64 hi]
          have hR3 := hR2.alloc (.cells #[.int .i64 lo, .int .i64 hi] 56)
          have hG3 := hG2.alloc (.cells #[.int .i64 lo, .int .i64 hi] 56)
          have hO3 := hO2.alloc (.cells #[.int .i64 lo, .int .i64 hi] 56)
          have hB3 : Below w.heap.size w (w2.alloc (.cells #[.int .i64 lo, .int .i64 hi] 56)) := hB2.alloc hB2.size _
          obtain ⟨w3, hw3⟩ : ∃ W, w2.alloc (.cells #[.int .i64 lo, .int .i64 hi] 56) = W := ⟨_, rfl⟩
          obtain ⟨xb, hxb⟩ : ∃ b, w2.heap.size = b := ⟨_, rfl⟩
          rw [hw3, hxb] at hX3
          rw [hw3] at hR3 hG3 hO3 hB3
          have x0 : w3.cell? ⟨xb, 0, none⟩ = some (.int .i64 lo) := hX3.cell 0
          have x1 : w3.cell? ⟨xb, 1, none⟩ = some (.int .i64 hi) := hX3.cell 1
          have r0 : w3.cell? ⟨w.heap.size, 0, none⟩ = some (.slice none 0 0) := hR3.cell 0
          have r1 : w3.cell? ⟨w.heap.size, 1, none⟩ = some (.slice none 0 0) := hR3.cell 1
          have f0 := hR3.free 0
          have f1 := hR3.free 1
          have q0 : w3.cell? ⟨gb, 0, none⟩ = some (.slice Al k cl) := hG3.cell 0
          have q1 : w3.cell? ⟨gb, 1, none⟩ = some (.slice A j c) := hG3.cell 1
          have HX3 := Lib.hid hX3; have HR3 := Lib.hid hR3; have HG3 := Lib.hid hG3; have HO3 := Lib.hid hO3; have HB3 := Lib.hid hB3
          clear hb2 hR2 hG2 hO2 hB2 hX3 hR3 hG3 hO3 hB3
          by_cases h1 : min x y < 0 ∨ (k : Int) ≤ max x y
          · have HF : Hid (newFault L E = some (3, (j : Int))) := Lib.hid (fault_edge (by rw [HN.out]; exact hL) (by rw [HM.out]; exact hE) HOKL.out HJE.out HOKE.out (by rw [HEA.out]; unfold edgeFault; rw [if_pos h1]) (by decide))
            have hc2 : decide (lo < 0) = true ∨ (decide (lo < 0) = false ∧ decide ((k : Int) ≤ hi) = true) := by
              have := HLO.out; have := HHI.out
              simp; omega
            clear h1
            rcases hc2 with t4 | ⟨t4, t5⟩
            all_goals
              go_wp2_with fail
              exact bodyPost_ret (results_refGraph rfl _ _ _ _ _ _ _ rfl rfl rfl ((HR3.out.put 0 _).put 1 _)) rfl ⟨(HB3.out.setCell (by simp) _).setCell (by simp) _, Or.inr ⟨_, _, HF.out, by decide, rfl⟩⟩
          · have t4 : decide (lo < 0) = false := decide_eq_false (by have := HLO.out; omega)
            have t5 : decide ((k : Int) ≤ hi) = false := decide_eq_false (by have := HHI.out; omega)
            by_cases h2 : x = y
            · have HF : Hid (newFault L E = some (1, (j : Int))) := Lib.hid (fault_edge (by rw [HN.out]; exact hL) (by rw [HM.out]; exact hE) HOKL.out HJE.out HOKE.out (by rw [HEA.out]; unfold edgeFault; rw [if_neg h1, if_pos h2]) (by decide))
              have t6 : (lo == hi) = true := by have := HLO.out; have := HHI.out; simp; omega
              clear h1 h2
              go_wp2_with fail
              exact bodyPost_ret (results_refGraph rfl _ _ _ _ _ _ _ rfl rfl rfl ((HR3.out.put 0 _).put 1 _)) rfl ⟨(HB3.out.setCell (by simp) _).setCell (by simp) _, Or.inr ⟨_, _, HF.out, by decide, rfl⟩⟩
            · have t6 : (lo == hi) = false := by have := HLO.out; have := HHI.out; simp; omega
              obtain ⟨S, hS⟩ : ∃ S, sortE (E.take j) = S := ⟨_, rfl⟩
              have hSl : S.length = j := by rw [← hS, sortE_len, List.length_take]; have := HJE.out; omega
              have hmem : ris (lo, hi) ∈ S ↔ ris (x, y) ∈ (E.take j).map ris := by
                rw [← hS, (sortE_perm _ (E.take j) rfl).mem_iff, ← HRIS.out, ris_ris]
              rw [hS] at HO3
              have HID := Lib.hid (refId_any S (.slice Al k cl) (.slice A j c) lo hi w3 (own_edges HO3.out) (by omega))
              obtain ⟨r, hr⟩ : ∃ r, idL S lo hi = r := ⟨_, rfl⟩
              have hpos := idL_pos (S := S) (a := lo) (b := hi)
              rw [hr] at HID hpos
              have HSL := Lib.hid hSl; have HSS := Lib.hid hS
              clear hS hSl hr
              by_cases h3 : ris (x, y) ∈ (E.take j).map ris
              · have HF : Hid (newFault L E = some (4, (j : Int))) := Lib.hid (fault_edge (by rw [HN.out]; exact hL) (by rw [HM.out]; exact hE) HOKL.out HJE.out HOKE.out (by rw [HEA.out]; unfold edgeFault; rw [if_neg h1, if_neg h2, if_pos h3]) (by decide))
                have t7 : decide (0 ≤ r) = true := decide_eq_true (hpos.2 (hmem.2 h3))
                clear h1 h2 h3 hpos hmem
                go_wp2_with fail
                refine HID.out.mono ?_; rintro e' w4 ⟨rfl, hb4⟩
                have hR4 := HR3.out.below hb4 HR3.out.lt
                have r0 : w4.cell? ⟨w.heap.size, 0, none⟩ = some (.slice none 0 0) := hR4.cell 0
                have r1 : w4.cell? ⟨w.heap.size, 1, none⟩ = some (.slice none 0 0) := hR4.cell 1
                have f0 := hR4.free 0
                have f1 := hR4.free 1
                have HR4 := Lib.hid hR4
                have HB4 : Hid (Below w.heap.size w w4) := Lib.hid (HB3.out.trans (hb4.mono HB3.out.size))
                clear hb4 hR4
                go_wp2_with fail
                exact bodyPost_ret (results_refGraph rfl _ _ _ _ _ _ _ rfl rfl rfl ((HR4.out.put 0 _).put 1 _)) rfl ⟨(HB4.out.setCell (by simp) _).setCell (by simp) _, Or.inr ⟨_, _, HF.out, by decide, rfl⟩⟩
              · have HOK2 : Hid (∀ i, i < j + 1 → edgeAt L.length E i = 0) := Lib.hid (fun i hi => by
                  rcases (by omega : i = j ∨ i < j) with rfl | h
                  · rw [HEA.out]; unfold edgeFault; rw [if_neg h1, if_neg h2, if_neg h3]
                  · exact HOKE.out i h)
                have t7 : decide (0 ≤ r) = false := decide_eq_false (fun h => h3 (hmem.1 (hpos.1 h)))
                clear h1 h2 h3 hpos hmem
                go_wp2_with fail
                refine HID.out.mono ?_; rintro e' w4 ⟨rfl, hb4⟩
                have hR4 := HR3.out.below hb4 HR3.out.lt
                have hG4 := HG3.out.below hb4 HG3.out.lt
                have hX4 := HX3.out.below hb4 HX3.out.lt
                have hO4 := own_below HO3.out hb4 (Nat.le_refl _)
                have HB4 : Hid (Below w.heap.size w w4) := Lib.hid (HB3.out.trans (hb4.mono HB3.out.size))
                have HR4 := Lib.hid hR4; have HG4 := Lib.hid hG4; have HX4 := Lib.hid hX4; have HO4 := Lib.hid hO4
                clear hb4 hR4 hG4 hX4 hO4 x0 x1 r0 r1 f0 f1 q0 q1
                go_wp2_with fail
                go_loopg [11] j (fun gh yv wr => ∃ t, t ≤ j ∧ gh = j - t ∧ yv = .int .i64 (t : Nat) ∧ Below w4.heap.size w4 wr ∧ ∀ i (hi' : i < S.length), i < t → ltE S[i] (lo, hi))
                case atStart => exact ⟨0, Nat.zero_le _, rfl, rfl, Below.refl _ _, fun i _ h => by omega⟩
                case round =>
                  obtain ⟨t, htj, rfl, rfl, hbw, hlow⟩ := hrel
                  have HBW := Lib.hid hbw; have HLW := Lib.hid hlow
                  have q1 : wr.cell? ⟨gb, 1, none⟩ = some (.slice A j c) := (HG4.out.below hbw HG4.out.lt).cell 1
                  have hcap0 := own_cap HO4.out
                  by_cases htlt : t < j
                  · have htS : t < S.length := by rw [HSL.out]; exact htlt
                    have hX := HX4.out.below hbw HX4.out.lt
                    have x0 : wr.cell? ⟨xb, 0, none⟩ = some (.int .i64 lo) := hX.cell 0
                    have x1 : wr.cell? ⟨xb, 1, none⟩ = some (.int .i64 hi) := hX.cell 1
                    obtain ⟨e, he⟩ : ∃ e, S.getD t (0, 0) = e := ⟨_, rfl⟩
                    have hpos := (own_edges (own_below HO4.out hbw (Nat.le_refl _))).pos htS
                    rw [he] at hpos
                    obtain ⟨u, v⟩ := e
                    obtain ⟨sb, so, hA, y0, y1⟩ := hpos
                    have HSA := Lib.hid hA
                    rw [hA] at q1
                    have t8 : decide (t < j) = true := decide_eq_true htlt
                    have t8' : decide ((t : Int) < j) = true := decide_eq_true (by omega)
                    have i3 : (t : Int) < j := by omega
                    have i4 : (0 : Int) ≤ t := by omega
                    have LS := fun W => less_any (u, v) (lo, hi) W
                    obtain ⟨z, hz⟩ : ∃ z, decide (ltE (u, v) (lo, hi)) = z := ⟨_, rfl⟩
                    rw [hz] at LS
                    unfold edgeV at LS
                    simp only at LS
                    have HLS := Lib.hid LS; have HZ := Lib.hid hz; have HST := Lib.hid he
                    have HTS := Lib.hid htS
                    clear LS hz hbw hlow hX he htS hA
                    go_upto_region 20 with fail
                    refine wp_region_still_tail 12 (by kernel_rfl) (by kernel_rfl) ?_
                    simp only [List.take_succ_cons, List.take_zero, List.drop_succ_cons, List.drop_zero]
                    change wpStill _ _ (World.drew _) _ _ _
                    still_step
                    still_step
                    still_step
                    still_step
                    still_step
                    still_step
                    still_step
                    still_step
                    still_step
                    still_step
                    still_step
                    still_step
                    refine wpStill_nil ?_
                    change wpList _ _ _ _ _ (World.drew _)
                    go_wp2_with fail
                    refine (HLS.out _).mono ?_; rintro e' w5 ⟨rfl, hb5⟩
                    have HBW := Lib.hid (HBW.out.trans ((show Below wr.heap.size wr w5 from ⟨hb5.os, hb5.tape, hb5.output, hb5.size, hb5.block⟩).mono HBW.out.size))
                    clear hb5 x0 x1 y0 y1 q1
                    cases z with
                    | true =>
                      have HL2 : Hid (∀ i (hi' : i < S.length), i < t + 1 → ltE S[i] (lo, hi)) := Lib.hid (fun i hi' hit => by
                        rcases (by omega : i < t ∨ i = t) with h | rfl
                        · exact HLW.out i hi' h
                        · rw [← getD_at hi', HST.out]; exact of_decide_eq_true HZ.out)
                      go_wp2_with fail
                      go_roundg (j - (t + 1))
                      case rel => exact ⟨t + 1, by omega, rfl, by go_num, HBW.out, HL2.out⟩
                      case measure => omega
                    | false =>
                      have HLOW : Hid (lowerE S (lo, hi) = t) := Lib.hid (lowerE_at (by have := HTS.out; omega) (fun i hi' hit => HLW.out i hi' hit) (fun hk => by rw [← getD_at hk, HST.out]; exact of_decide_eq_false HZ.out))
                      have hG5 := HG4.out.below HBW.out HG4.out.lt
                      have hX5 := HX4.out.below HBW.out HX4.out.lt
                      have hR5 := HR4.out.below HBW.out HR4.out.lt
                      have hO5 := own_below HO4.out HBW.out (Nat.le_refl _)
                      have hB5 : Below w.heap.size w w5 := HB4.out.trans (HBW.out.mono HB4.out.size)
                      have OW0 := World.ownsRow_lit (base := w5.heap.size) (e := 56) (size := 2) w5 #[] 0 (Nat.le_refl _) (by unfold maxLen; omega) rfl
                      have hA0 : Below w5.heap.size w5 (w5.alloc (.cells #[] 56)) := (Below.refl _ _).alloc (Nat.le_refl _) _
                      have hsz0 := hA0.size
                      have hcap := own_cap hO5
                      have q1 : (w5.alloc (.cells #[] 56)).cell? ⟨gb, 1, none⟩ = some (.slice A j c) := (hG5.alloc _).cell 1
                      obtain ⟨P1, hP1⟩ : ∃ P, S.take t = P := ⟨_, rfl⟩
                      obtain ⟨P2, hP2⟩ : ∃ P, S.drop t = P := ⟨_, rfl⟩
                      have hpre := edges_take (own_edges hO5) HSL.out t htj
                      rw [hP1] at hpre
                      have HPRE := Lib.hid (hpre.below hA0 (Nat.le_refl _))
                      have HP1L : Hid (P1.length = t) := Lib.hid (by rw [← hP1, List.length_take, HSL.out]; omega)
                      have HP2L : Hid (P2.length = j - t) := Lib.hid (by rw [← hP2, List.length_drop, HSL.out])
                      have HNEW : Hid (sortE (E.take (j + 1)) = P1 ++ [(lo, hi)] ++ P2) := Lib.hid (by
                        have hjE := HJE.out
                        rw [List.take_succ_eq_append_getElem hjE, sortE_snoc, HSS.out, show E[j] = (x, y) from (getD_at hjE).symm.trans HEJ.out, HRIS.out, insE, HLOW.out, hP1, hP2])
                      obtain ⟨b', o', hA⟩ : ∃ b' o', A = some ⟨b', o', none⟩ := by
                        obtain ⟨b', o', hA, _⟩ := (own_edges hO5).pos (i := t) (by rw [HSL.out]; exact htlt)
                        exact ⟨b', o', hA⟩
                      subst hA
                      have hsuf := edges_drop (c' := c - t) (own_edges hO5) HSL.out t htlt
                      rw [hP2] at hsuf
                      have HSUF := Lib.hid hsuf
                      have hck : ¬ c = t := by omega
                      have HG5 := Lib.hid hG5; have HX5 := Lib.hid hX5; have HR5 := Lib.hid hR5; have HB5 := Lib.hid hB5; have HOW0 := Lib.hid OW0; have HA0 := Lib.hid hA0
                      have i3 : (t : Int) ≤ c := by omega
                      have i4 : (0 : Int) ≤ t := by omega
                      have i5 : (t : Int) ≤ j := by omega
                      clear hG5 hX5 hR5 hO5 hB5 OW0 hA0 hpre hP1 hP2 hsuf
                      go_wp2_with (at_builtin; refine wpList_appEdges _ rfl _ _ 34 56 rfl w5.heap.size j0 (.agg #[.int .i64 0, .int .i64 0]) Tryz.underlying34 hj0 hz0 rfl hz1 hz2 _ 0 _ rfl HOW0.out _ P1 rfl HPRE.out (by rw [HP1L.out]; omega) hsz0 ?_)
                      intro A2 c2 w6 hown2 hgrow2
                      have hb2 : Below w5.heap.size w5 w6 := hgrow2.below HOW0.out HA0.out (Nat.le_refl _) hsz0
                      rw [HP1L.out] at hown2
                      rw [HP1L.out]
                      have hs2 := hb2.size
                      have hown2' : w6.ownsRow w5.heap.size 56 2 (.slice A2 t c2) t (eL P1) := by simpa using hown2
                      have hX6 := HX5.out.below hb2 HX5.out.lt
                      have x0 : w6.cell? ⟨xb, 0, none⟩ = some (.int .i64 lo) := hX6.cell 0
                      have x1 : w6.cell? ⟨xb, 1, none⟩ = some (.int .i64 hi) := hX6.cell 1
                      have hb2' : Below w5.heap.size w5 (w6.alloc (.cells #[.int .i64 lo, .int .i64 hi] 56)) := hb2.alloc hs2 _
                      have hs2' := hb2'.size
                      have HOW2 := Lib.hid (hown2'.alloc (.cells #[.int .i64 lo, .int .i64 hi] 56)); have HB2 := Lib.hid hb2'
                      have HN2 := Lib.hid (edges_new w6 56 lo hi 1)
                      clear hown2 hgrow2 hb2 hown2' hX6 hb2' q1
                      go_wp2_with (at_builtin; refine wpList_appEdges _ rfl _ _ 34 56 rfl w5.heap.size j0 (.agg #[.int .i64 0, .int .i64 0]) Tryz.underlying34 hj0 hz0 rfl hz1 hz2 _ t _ rfl HOW2.out _ [(lo, hi)] rfl HN2.out (by simp; omega) hs2' ?_)
                      intro A3 c3 w7 hown3 hgrow3
                      have hb3 : Below w5.heap.size w5 w7 := hgrow3.below HOW2.out HB2.out (Nat.le_refl _) hs2'
                      have hs3 := hb3.size
                      have q1 : w7.cell? ⟨gb, 1, none⟩ = some (.slice (some ⟨b', o', none⟩) j c) := (HG5.out.below hb3 HG5.out.lt).cell 1
                      have hown3' : w7.ownsRow w5.heap.size 56 2 (.slice A3 (t + 1) c3) (t + 1) (eL P1 ++ eL [(lo, hi)]) := hown3
                      have HOW3 := Lib.hid hown3'; have HB3' := Lib.hid hb3
                      have HSF := Lib.hid (HSUF.out.below hb3 (Nat.le_refl _))
                      clear hown3 hgrow3 hb3 hown3' x0 x1
                      go_wp2_with (at_builtin; refine wpList_appEdges _ rfl _ _ 34 56 rfl w5.heap.size j0 (.agg #[.int .i64 0, .int .i64 0]) Tryz.underlying34 hj0 hz0 rfl hz1 hz2 _ (t + 1) _ rfl HOW3.out _ P2 rfl HSF.out (by rw [HP2L.out]; omega) hs3 ?_)
                      intro A4 c4 w8 hown4 hgrow4
                      have hb4 : Below w5.heap.size w5 w8 := hgrow4.below HOW3.out HB3'.out (Nat.le_refl _) hs3
                      have hown4' : w8.ownsRow w5.heap.size 56 2 (.slice A4 (t + 1 + P2.length) c4) (j + 1) (eL (sortE (E.take (j + 1)))) := by
                        have hl2 := HP2L.out
                        rw [HNEW.out, eL_app, eL_app]
                        have e1 : t + 1 + P2.length = j + 1 := by omega
                        rw [e1] at hown4 ⊢
                        first | exact hown4 | (rw [List.append_assoc]; exact hown4)
                      have hlen4 : t + 1 + P2.length = j + 1 := by have := HP2L.out; omega
                      rw [hlen4] at hown4' ⊢
                      have hG8 := HG5.out.below hb4 HG5.out.lt
                      have hR8 := HR5.out.below hb4 HR5.out.lt
                      have q2 : w8.cell? ⟨gb, 1, none⟩ = some (.slice (some ⟨b', o', none⟩) j c) := hG8.cell 1
                      have f2 := hG8.free 1
                      have HB8 : Hid (Below w.heap.size w w8) := Lib.hid (HB5.out.trans (hb4.mono HB5.out.size))
                      have HO8 := Lib.hid (own_base hown4' HB5.out.size); have HG8 := Lib.hid hG8; have HR8 := Lib.hid hR8
                      clear hown4 hgrow4 hb4 hown4' hG8 hR8 q1 hlen4
                      go_wp2_with fail
                      go_roundg (m - (j + 1))
                      case rel =>
                        refine ⟨j + 1, HLT.out, rfl, by go_num, HR8.out.other (p := ⟨gb, 1, none⟩) (by show w.heap.size ≠ gb; omega) _, ⟨A4, c4, HG8.out.put 1 _, own_put HO8.out (p := ⟨gb, 1, none⟩) (own_ne HO8.out HG8.out (by decide)) _⟩, HB8.out.setCell (by show w.heap.size ≤ gb; omega) _, HOK2.out⟩
                      case measure => have := HLT.out; omega
                  · obtain rfl : j = t := by omega
                    have t8 : decide (j < j) = false := by simp
                    have t8' : decide ((j : Int) < j) = false := by simp
                    have HLOW : Hid (lowerE S (lo, hi) = j) := Lib.hid (lowerE_at (by have := HSL.out; omega) (fun i hi' hit => HLW.out i hi' hit) (fun hk => by have := HSL.out; omega))
                    clear hbw hlow
                    go_upto_region 20 with fail
                    go_quiet (fail)
                    generalize hw5 : World.drewN wr _ = w5
                    have HBW : Hid (Below w4.heap.size w4 w5) := Lib.hid (by rw [← hw5]; exact below_drewN' HBW.out _)
                    clear hw5 q1
                    have hG5 := HG4.out.below HBW.out HG4.out.lt
                    have hX5 := HX4.out.below HBW.out HX4.out.lt
                    have hR5 := HR4.out.below HBW.out HR4.out.lt
                    have hO5 := own_below HO4.out HBW.out (Nat.le_refl _)
                    have hB5 : Below w.heap.size w w5 := HB4.out.trans (HBW.out.mono HB4.out.size)
                    have OW0 := World.ownsRow_lit (base := w5.heap.size) (e := 56) (size := 2) w5 #[] 0 (Nat.le_refl _) (by unfold maxLen; omega) rfl
                    have hA0 : Below w5.heap.size w5 (w5.alloc (.cells #[] 56)) := (Below.refl _ _).alloc (Nat.le_refl _) _
                    have hsz0 := hA0.size
                    have hcap := own_cap hO5
                    have q1 : (w5.alloc (.cells #[] 56)).cell? ⟨gb, 1, none⟩ = some (.slice A j c) := (hG5.alloc _).cell 1
                    obtain ⟨P1, hP1⟩ : ∃ P, S.take j = P := ⟨_, rfl⟩
                    obtain ⟨P2, hP2⟩ : ∃ P, S.drop j = P := ⟨_, rfl⟩
                    have hpre := edges_take (own_edges hO5) HSL.out j htj
                    rw [hP1] at hpre
                    have HPRE := Lib.hid (hpre.below hA0 (Nat.le_refl _))
                    have HP1L : Hid (P1.length = j) := Lib.hid (by rw [← hP1, List.length_take, HSL.out]; omega)
                    have HP2L : Hid (P2.length = j - j) := Lib.hid (by rw [← hP2, List.length_drop, HSL.out])
                    have HNEW : Hid (sortE (E.take (j + 1)) = P1 ++ [(lo, hi)] ++ P2) := Lib.hid (by
                      have hjE := HJE.out
                      rw [List.take_succ_eq_append_getElem hjE, sortE_snoc, HSS.out, show E[j] = (x, y) from (getD_at hjE).symm.trans HEJ.out, HRIS.out, insE, HLOW.out, hP1, hP2])
                    have HG5 := Lib.hid hG5; have HX5 := Lib.hid hX5; have HR5 := Lib.hid hR5; have HB5 := Lib.hid hB5; have HOW0 := Lib.hid OW0; have HA0 := Lib.hid hA0
                    have i3 : (j : Int) ≤ c := by omega
                    have i4 : (0 : Int) ≤ j := by omega
                    have i5 : (j : Int) ≤ j := by omega
                    clear hG5 hX5 hR5 hO5 hB5 OW0 hA0 hpre hP1 hP2
                    go_wp2_with (at_builtin; refine wpList_appEdges _ rfl _ _ 34 56 rfl w5.heap.size j0 (.agg #[.int .i64 0, .int .i64 0]) Tryz.underlying34 hj0 hz0 rfl hz1 hz2 _ 0 _ rfl HOW0.out _ P1 rfl HPRE.out (by rw [HP1L.out]; omega) hsz0 ?_)
                    intro A2 c2 w6 hown2 hgrow2
                    have hb2 : Below w5.heap.size w5 w6 := hgrow2.below HOW0.out HA0.out (Nat.le_refl _) hsz0
                    rw [HP1L.out] at hown2
                    rw [HP1L.out]
                    have hs2 := hb2.size
                    have hown2' : w6.ownsRow w5.heap.size 56 2 (.slice A2 j c2) j (eL P1) := by simpa using hown2
                    have hX6 := HX5.out.below hb2 HX5.out.lt
                    have x0 : w6.cell? ⟨xb, 0, none⟩ = some (.int .i64 lo) := hX6.cell 0
                    have x1 : w6.cell? ⟨xb, 1, none⟩ = some (.int .i64 hi) := hX6.cell 1
                    have hb2' : Below w5.heap.size w5 (w6.alloc (.cells #[.int .i64 lo, .int .i64 hi] 56)) := hb2.alloc hs2 _
                    have hs2' := hb2'.size
                    have HOW2 := Lib.hid (hown2'.alloc (.cells #[.int .i64 lo, .int .i64 hi] 56)); have HB2 := Lib.hid hb2'
                    have HN2 := Lib.hid (edges_new w6 56 lo hi 1)
                    clear hown2 hgrow2 hb2 hown2' hX6 hb2' q1
                    go_wp2_with (at_builtin; refine wpList_appEdges _ rfl _ _ 34 56 rfl w5.heap.size j0 (.agg #[.int .i64 0, .int .i64 0]) Tryz.underlying34 hj0 hz0 rfl hz1 hz2 _ j _ rfl HOW2.out _ [(lo, hi)] rfl HN2.out (by simp; omega) hs2' ?_)
                    intro A3 c3 w7 hown3 hgrow3
                    have hb3 : Below w5.heap.size w5 w7 := hgrow3.below HOW2.out HB2.out (Nat.le_refl _) hs2'
                    have hs3 := hb3.size
                    have q1 : w7.cell? ⟨gb, 1, none⟩ = some (.slice A j c) := (HG5.out.below hb3 HG5.out.lt).cell 1
                    have hown3' : w7.ownsRow w5.heap.size 56 2 (.slice A3 (j + 1) c3) (j + 1) (eL P1 ++ eL [(lo, hi)]) := hown3
                    have HOW3 := Lib.hid hown3'; have HB3' := Lib.hid hb3
                    clear hown3 hgrow3 hb3 hown3' x0 x1
                    go_wp2_with (at_builtin; refine wpList_appEdges _ rfl _ _ 34 56 rfl w5.heap.size j0 (.agg #[.int .i64 0, .int .i64 0]) Tryz.underlying34 hj0 hz0 rfl hz1 hz2 _ (j + 1) _ rfl HOW3.out _ [] rfl (Or.inl ⟨rfl, _, _, rfl⟩) (by simp; omega) hs3 ?_)
                    all_goals
                      intro A4 c4 w8 hown4 hgrow4
                      have hb4 : Below w5.heap.size w5 w8 := hgrow4.below HOW3.out HB3'.out (Nat.le_refl _) hs3
                      have hown4' : w8.ownsRow w5.heap.size 56 2 (.slice A4 (j + 1) c4) (j + 1) (eL (sortE (E.take (j + 1)))) := by
                        have hl2 := HP2L.out
                        have hp2 : P2 = [] := List.eq_nil_of_length_eq_zero (by omega)
                        rw [HNEW.out, hp2, eL_app, eL_app]
                        first | exact hown4 | (rw [List.append_assoc]; exact hown4)
                      have hG8 := HG5.out.below hb4 HG5.out.lt
                      have hR8 := HR5.out.below hb4 HR5.out.lt
                      have q2 : w8.cell? ⟨gb, 1, none⟩ = some (.slice A j c) := hG8.cell 1
                      have f2 := hG8.free 1
                      have HB8 : Hid (Below w.heap.size w w8) := Lib.hid (HB5.out.trans (hb4.mono HB5.out.size))
                      have HO8 := Lib.hid (own_base hown4' HB5.out.size); have HG8 := Lib.hid hG8; have HR8 := Lib.hid hR8
                      clear hown4 hgrow4 hb4 hown4' hG8 hR8 q1
                      go_wp2_with fail
                      go_roundg (m - (j + 1))
                      case rel =>
                        refine ⟨j + 1, HLT.out, rfl, by go_num, HR8.out.other (p := ⟨gb, 1, none⟩) (by show w.heap.size ≠ gb; omega) _, ⟨A4, c4, HG8.out.put 1 _, own_put HO8.out (p := ⟨gb, 1, none⟩) (own_ne HO8.out HG8.out (by decide)) _⟩, HB8.out.setCell (by show w.heap.size ≤ gb; omega) _, HOK2.out⟩
                      case measure => have := HLT.out; omega
        · obtain rfl : j = m := by omega
          have t3 : decide (j < j) = false := by simp
          have HFIN : Hid (newFault L E = none) := Lib.hid (fault_no (by rw [HN.out]; exact hL) (by rw [HM.out]; exact hE) HOKL.out (fun i hi => HOKE.out i (by rw [← HM.out]; exact hi)))
          have HTK : Hid (E.take j = E) := Lib.hid (List.take_of_length_le (by rw [HM.out]; omega))
          have r0 : wr.cell? ⟨w.heap.size, 0, none⟩ = some (.slice none 0 0) := HRR.out.cell 0
          have r1 : wr.cell? ⟨w.heap.size, 1, none⟩ = some (.slice none 0 0) := HRR.out.cell 1
          have f0 := HRR.out.free 0
          have f1 := HRR.out.free 1
          have q0 : wr.cell? ⟨gb, 0, none⟩ = some (.slice Al k cl) := HGG.out.cell 0
          have q1 : wr.cell? ⟨gb, 1, none⟩ = some (.slice A j c) := HGG.out.cell 1
          clear hlt
          go_wp2_with fail
          have hown' := HOW.out
          rw [HTK.out] at hown'
          have hne := own_ne hown' HRR.out (by decide)
          have ho2 := own_put (own_put hown' (p := ⟨w.heap.size, 0, none⟩) hne (.slice Al k cl)) (p := ⟨w.heap.size, 1, none⟩) hne (.slice A j c)
          refine bodyPost_ret (results_refGraph rfl _ _ _ _ _ _ _ rfl rfl rfl ((HRR.out.put 0 _).put 1 _)) rfl ⟨(HBB.out.setCell (by simp) _).setCell (by simp) _, Or.inl ⟨HFIN.out, _, rfl, by rw [HM.out]; exact ho2⟩⟩
end Go.Proofs.YtnjkjgmnnmgngaaGreatDoor
