/- A round of the document. -/
import Derived.Test.YtlopoddllfkkfaaDoorRndP20
namespace Go.Proofs.YtlopoddllfkkfaaDoor
open Go.RowKit

theorem rowsOut_base {w : World} {base base' : Nat} {v : Value} {B : List (List ByteArray)} (h : RowsO w base v B) (hb : base' ≤ base) : RowsO w base' v B := by
  obtain ⟨ib, us, rfl, h1, h2, h3⟩ := h
  exact ⟨ib, us, rfl, Nat.le_trans hb h1, h2, ⟨h3.len, fun i u L hu hL => own_base (h3.row i u L hu hL) hb, h3.apart⟩⟩
/-- Boxes in the midst of a round. -/
def BoxAt (wo : World) (ib k : Nat) (B : List (List ByteArray)) (wr : World) : Prop :=
  ∃ us : List Value, Whole wr ib 22 us.toArray ∧ us.length = k ∧ FamT wr wo.heap.size us B ∧ Fr wo.heap.size (fun g => g = ib) wo wr
theorem box_put {wo wr w7 : World} {ib k t q c cap a i : Nat} {A B : Option Addr} {us : List Value} {TL : List (List Int)} {st : Nat → ByteArray} (hw : Whole w7 ib 22 us.toArray) (hul : us.length = k) (hfam : FamT wr wo.heap.size us (midL TL k st a i)) (hu : us[t]? = some (.slice A q c))
    (hg : Grew wr (.slice A q c) w7 (.slice B (q + 1) cap)) (hown : w7.ownsRow wo.heap.size 9 1 (.slice B (q + 1) cap) (q + 1) (txtC (midBox TL st a i t ++ [st a]))) (hq : (midBox TL st a i t).length = q) (hib : ib < wo.heap.size) (hf : Fr wo.heap.size (fun g => g = ib) wo w7)
    (htk : t < k) (hi : i < (TL.getD a []).length) (ht : (TL.getD a []).getD i 0 = (t : Int)) : BoxAt wo ib k (midL TL k st a (i + 1)) (w7.setCell ⟨ib, t, none⟩ (.slice B (q + 1) cap)) := by
  refine ⟨us.set t (.slice B (q + 1) cap), ?_, by rw [List.length_set]; exact hul, ?_, ?_⟩
  · have h9 := hw.put t (.slice B (q + 1) cap)
    rw [rows_set] at h9
    exact h9
  · have h9 := hfam.app hu (midL_at htk) hg (M := midBox TL st a i t ++ [st a]) (by rw [List.length_append, hq]; exact hown)
    rw [(midL_set hi ht htk).1] at h9
    exact h9.put hib _
  · exact hf.trans (Fr.of_grown (grown_cell w7 ib t _) hf.size (fun g hg _ => (Option.some.inj hg).symm))
def RoundTo (p : MP) (TL : List (List Int)) (w : World) (e : Ending) (w' : World) : Prop :=
  ∃ vo vb, e = .returned (.tuple #[vo, vb]) ∧ w'.ownsRow w.heap.size 9 1 vo p.k (txtC (nextSt p)) ∧ RowsO w' w.heap.size vb ((List.range p.k).map (mailBox TL p.k (stOf p))) ∧ Below w.heap.size w w'
theorem nextSt_take {p : MP} {a : Nat} (h : a < p.k) : (nextSt p).take (a + 1) = (nextSt p).take a ++ [nextB a (stOf p a) (bxOf p a)] := by
  rw [take_snocT (d := ⟨#[]⟩) (by simp [nextSt]; exact h)]
  simp [nextSt, List.getD, h]
attribute [local go_sem ↓] app_alias
set_option maxRecDepth 100000 in
set_option maxHeartbeats 4000000 in
theorem round20_any {TL : List (List Int)} {q : Nat} {p : MP} (hi : MInv TL q p) (vt v vi : Value) (w : World) (hv : ValsV w v (txtC p.st)) (hb : RowsT w vi p.bx) (hT : ListsV w vt TL) :
    Calls Tryd.prog 19 #[.agg #[vt], v, vi] w (RoundTo p TL w) := by
  obtain ⟨k, hk⟩ : ∃ k, p.k = k := ⟨_, rfl⟩
  have HI := Lib.hid hi; have HK := Lib.hid hk
  have hl1 := hi.l1
  have hl2 := hi.l2
  rw [hk] at hl1 hl2
  have k8 : k ≤ 8 := by rw [← hk]; exact hi.k2
  have k1 : 1 ≤ k := by rw [← hk]; exact hi.k1
  obtain ⟨Av, cv, rfl⟩ := txt_form hv
  obtain ⟨Ai, ci, rfl⟩ := hb.form
  obtain ⟨At, ct, rfl⟩ := hT.form
  obtain ⟨tn, htn⟩ : ∃ n, TL.length = n := ⟨_, rfl⟩
  rw [hl1] at hv ⊢
  rw [hl2] at hb ⊢
  rw [htn] at hT ⊢
  have HL1 := Lib.hid hl1; have HL2 := Lib.hid hl2; have HTN := Lib.hid htn
  have hb1 : Below w.heap.size w (w.alloc (.cells #[.slice At tn ct] 28)) := (Below.refl _ _).alloc (Nat.le_refl _) _
  have hj := Whole.new w 28 #[.slice At tn ct]
  have hs1 : (w.alloc (.cells #[.slice At tn ct] 28)).heap.size = w.heap.size + 1 := World.size_alloc _ _
  obtain ⟨w1, hw1⟩ : ∃ W, w.alloc (.cells #[.slice At tn ct] 28) = W := ⟨_, rfl⟩
  rw [hw1] at hb1 hj hs1
  have hb2 : Below w1.heap.size w1 (w1.alloc (.cells (madeCells #[.slice none 0 0] k) 22)) := (Below.refl _ _).alloc (Nat.le_refl _) _
  have hib := Whole.new w1 22 (madeCells #[.slice none 0 0] k)
  have hs2 : (w1.alloc (.cells (madeCells #[.slice none 0 0] k) 22)).heap.size = w1.heap.size + 1 := World.size_alloc _ _
  obtain ⟨w2, hw2⟩ : ∃ W, w1.alloc (.cells (madeCells #[.slice none 0 0] k) 22) = W := ⟨_, rfl⟩
  rw [hw2] at hb2 hib hs2
  rw [made_rows] at hib
  obtain ⟨ib, hibe⟩ : ∃ g, w1.heap.size = g := ⟨_, rfl⟩
  have hb12 : Below w.heap.size w w2 := hb1.trans (hb2.mono hb1.size)
  rw [hibe] at hib hs2
  have HJ : Hid (∀ W, Fr w2.heap.size (fun g => g = ib) w2 W → W.cell? ⟨w.heap.size, 0, none⟩ = some (.slice At tn ct)) := Lib.hid (fun W hf => by
    have h1 := hj.below hb2 hj.lt
    have h2 := h1.stay (hf.block w.heap.size h1.lt (by omega))
    exact h2.cell 0)
  have HV : Hid (∀ W, Fr w2.heap.size (fun g => g = ib) w2 W → ValsV W (.slice Av k cv) (txtC p.st)) := Lib.hid (fun W hf => by
    refine (hv.below hb12 (Nat.le_refl _)).stay (fun g hg => hf.block g ?_ ?_)
    · have h9 : g < w.heap.size := by
        rcases hv with ⟨h0, _⟩ | ⟨_, b, off, cap, e, hc⟩
        · have h8 : (txtC p.st).length = 0 := by rw [h0]; rfl
          rw [txtC_len] at h8; omega
        · injection e with e1 _ _
          subst e1
          have h8 : b = g := by simpa [Value.ownBlock] using hg
          subst h8
          have h7 := hc 0 (by rw [txtC_len]; omega)
          rw [txtC_at (by omega)] at h7
          exact World.block_lt_of_cell? _ _ h7
      omega
    · have h9 : g < w.heap.size := by
        rcases hv with ⟨h0, _⟩ | ⟨_, b, off, cap, e, hc⟩
        · have h8 : (txtC p.st).length = 0 := by rw [h0]; rfl
          rw [txtC_len] at h8; omega
        · injection e with e1 _ _
          subst e1
          have h8 : b = g := by simpa [Value.ownBlock] using hg
          subst h8
          have h7 := hc 0 (by rw [txtC_len]; omega)
          rw [txtC_at (by omega)] at h7
          exact World.block_lt_of_cell? _ _ h7
      omega)
  have HBX : Hid (∀ W, Below w2.heap.size w2 W → RowsT W (.slice Ai k ci) p.bx) := Lib.hid (fun W h => (hb.below (hb12.trans (h.mono hb12.size))))
  have HTT : Hid (∀ W, Fr w2.heap.size (fun g => g = ib) w2 W → ∀ a, a < tn → ∃ b off A2 c2, At = some ⟨b, off, none⟩ ∧ W.cell? ⟨b, off + a, none⟩ = some (.slice A2 (TL.getD a []).length c2) ∧ ∀ i, i < (TL.getD a []).length → ∃ b2 off2, A2 = some ⟨b2, off2, none⟩ ∧ W.cell? ⟨b2, off2 + i, none⟩ = some (.int .i64 ((TL.getD a []).getD i 0))) := Lib.hid (fun W hf a ha => by
    have hkeep : ∀ (pp : Addr) (x : Value), pp.spot = none → w.cell? pp = some x → W.cell? pp = some x := fun pp x _ hc => by
      have hlt := World.block_lt_of_cell? _ _ hc
      rw [← hc]
      exact World.cell?_of_block ((hf.block pp.block (by omega) (by omega)).trans (hb12.block _ hlt))
    obtain ⟨b, off, A2, m, c2, e1, hc, hm, hsq⟩ := lists_at hT (show a < TL.length by rw [htn]; exact ha)
    subst hm
    refine ⟨b, off, A2, c2, e1, hkeep _ _ rfl hc, fun i hi => ?_⟩
    obtain ⟨b2, off2, e2, hc2⟩ := seq_pos hsq hi
    exact ⟨b2, off2, e2, hkeep _ _ rfl hc2⟩)
  have NX : Hid (∀ (a : Nat) (u : Value) (W : World), ValsV W u (txtC (bxOf p a)) → Calls Tryd.prog 41 #[.int .i64 (a : Int), .string (stOf p a), u] W fun e w' => e = .returned (.string (nextB a (stOf p a) (bxOf p a))) ∧ Below W.heap.size W w') := Lib.hid (fun a u W hu => next20_any a (stOf p a) (by have := hi.s1 a; omega) (bxOf p a) (hi.s2 a) (hi.s3 a) u W hu)
  have HB12 := Lib.hid hb12; have HW1 := Lib.hid hw1; have HW2 := Lib.hid hw2; have HIB := Lib.hid hib; have HIBE := Lib.hid hibe; have HS1 := Lib.hid hs1; have HS2 := Lib.hid hs2
  have hmk := fun V => make_rows k V (by omega)
  clear hi hk hl1 hl2 htn hv hb hT hb1 hj hs1 hw1 hb2 hib hs2 hw2 hibe hb12
  go_enter Tryd.func19, Tryd.ntmps19
  go_wp2_with fail
  rw [HW1.out, HW2.out, show w.heap.size + 1 = ib by rw [← HS1.out, HIBE.out]]
  clear hmk
  go_loopg [8, 10] k (fun g ov y wr => ∃ a, a ≤ k ∧ g = k - a ∧ y = .int .i64 (a : Nat) ∧ wr.ownsRow w2.heap.size 9 1 ov a (txtC ((nextSt p).take a)) ∧ Below w2.heap.size w2 wr)
  case atStart => exact ⟨0, Nat.zero_le _, rfl, rfl, World.ownsRow_nil _ _ _ 1, Below.refl _ _⟩
  case round =>
    obtain ⟨a, ha, rfl, rfl, hown, hbr⟩ := hrel
    obtain ⟨wo, hwo⟩ : ∃ W, W = wr := ⟨_, rfl⟩
    subst hwo
    obtain ⟨Ao, co, rfl⟩ := own_form hown
    have HOW := Lib.hid hown; have HBR := Lib.hid hbr
    by_cases hlt : a < k
    · have t2 : decide (a < k) = true := decide_eq_true hlt
      have t2' : decide ((a : Int) < k) = true := decide_eq_true (by omega)
      have i1 : (a : Int) < k := by omega
      have HLT := Lib.hid hlt
      obtain ⟨b1, o1, e1, hqc, c1⟩ := txt_pos (HV.out wo (Fr.of_below hbr (Nat.le_refl _))) (i := a) (by rw [HL1.out]; exact hlt)
      clear hqc
      subst e1
      obtain ⟨b2, o2, A2, c2', e2, c2, hv2⟩ := (HBX.out wo hbr).pos (i := a) (by rw [HL2.out]; exact hlt)
      subst e2
      obtain ⟨s, hs⟩ : ∃ s, p.st.getD a ⟨#[]⟩ = s := ⟨_, rfl⟩
      obtain ⟨ln, hln⟩ : ∃ n, (p.bx.getD a []).length = n := ⟨_, rfl⟩
      rw [hs] at c1
      rw [hln] at c2 hv2
      have NX1 : Hid (∀ W, Below wo.heap.size wo W → Calls Tryd.prog 41 #[.int .i64 (a : Int), .string s, .slice A2 ln c2'] W fun e w' => e = .returned (.string (nextB a (stOf p a) (bxOf p a))) ∧ Below wo.heap.size wo w') := Lib.hid (fun W hW => by
        have h := NX.out a (.slice A2 ln c2') W (hv2.below hW (Nat.le_refl _))
        rw [show stOf p a = s from hs] at h ⊢
        exact h.mono fun e w' h => ⟨h.1, hW.trans (h.2.mono hW.size)⟩)
      have KS : Hid (∀ W, Below wo.heap.size wo W → W.cell? ⟨b1, o1 + a, none⟩ = some (.string s) ∧ W.cell? ⟨b2, o2 + a, none⟩ = some (.slice A2 ln c2')) := Lib.hid (fun W hW => ⟨(hW.cell (p := ⟨b1, o1 + a, none⟩) (World.block_lt_of_cell? _ _ c1)).trans c1, (hW.cell (p := ⟨b2, o2 + a, none⟩) (World.block_lt_of_cell? _ _ c2)).trans c2⟩)
      obtain ⟨z, hz⟩ : ∃ z, nextB a (stOf p a) (bxOf p a) = z := ⟨_, rfl⟩
      rw [hz] at NX1
      have HZ := Lib.hid hz
      have ha8 : a ≤ 100000 := by omega
      clear hs hln hv2 hz hlt hown hbr ha
      go_upto_region 6 with fail
      go_region_with (first | (go_at_call 41; refine (NX1.out _ (by first | assumption | exact below_drewN' (Below.refl _ _) _)).mono ?_; rintro e' w7 ⟨rfl, hb7⟩; obtain ⟨Bx, capx, w8, ha8', hown8, hgr8⟩ := app_txt0 (own_below HOW.out hb7 (Nat.le_refl _)) ha8 (Nat.le_trans HBR.out.size hb7.size) z) | fail)
      all_goals
        go_wp2_with fail
        go_roundg (k - (a + 1))
        case rel => exact ⟨a + 1, HLT.out, rfl, rfl, by rw [nextSt_take (by rw [HK.out]; exact HLT.out), HZ.out]; exact hown8, hgr8.below (own_below HOW.out hb7 (Nat.le_refl _)) (HBR.out.trans (hb7.mono HBR.out.size)) (Nat.le_refl _) (Nat.le_trans HBR.out.size hb7.size)⟩
        case measure => have := HLT.out; omega
    · have t2 : decide (a < k) = false := decide_eq_false hlt
      have t2' : decide ((a : Int) < k) = false := decide_eq_false (by omega)
      obtain rfl : k = a := by omega
      have HNS : Hid ((nextSt p).take k = nextSt p) := Lib.hid (List.take_of_length_le (by simp [nextSt, HK.out]))
      rw [HNS.out] at HOW
      have HB0 : Hid (BoxAt wo ib k (midL TL k (stOf p) 0 0) wo) := Lib.hid ⟨_, HIB.out.below hbr (by have := HS2.out; omega), List.length_replicate, by rw [midL_zero]; exact FamT.made _ _ _, Fr.refl _ _ _⟩
      have HOB : Hid (∀ W, Fr wo.heap.size (fun g => g = ib) wo W → W.ownsRow w.heap.size 9 1 (.slice Ao k co) k (txtC (nextSt p))) := Lib.hid (fun W hf =>
        own_base (own_stay HOW.out (fun g hg => hf.block g (HOW.out.lt g hg).2 (by have h1 := (HOW.out.lt g hg).1; have := HS2.out; omega))) (by have := HS2.out; have := HS1.out; have := HIBE.out; omega))
      have H2 : Hid (∀ W, Fr wo.heap.size (fun g => g = ib) wo W → Fr w2.heap.size (fun g => g = ib) w2 W) := Lib.hid (fun W hf => (Fr.of_below hbr (Nat.le_refl _)).trans (hf.less hbr.size))
      have HBW : Hid (∀ W, Fr wo.heap.size (fun g => g = ib) wo W → Below w.heap.size w W) := Lib.hid (fun W hf => HB12.out.trans ((hbr.mono HB12.out.size).trans (hf.below (HB12.out.trans (hbr.mono HB12.out.size)).size (fun g hg => by have := HS1.out; have := HIBE.out; omega))))
      have HIW : Hid (ib < wo.heap.size) := Lib.hid (by have := HS2.out; have := hbr.size; omega)
      have HFIN : Hid (∀ (B : List (List ByteArray)) W, B.length = k → BoxAt wo ib k B W → RowsO W w.heap.size (.slice (some ⟨ib, 0, none⟩) k k) B ∧ Fr wo.heap.size (fun g => g = ib) wo W) := Lib.hid (fun B W hBl ⟨us, h1, h2, h3, h4⟩ => ⟨rowsOut_base ⟨ib, us, by rw [hBl], Nat.le_refl _, h1, ⟨h3.len, fun i u L hu hL => own_base (h3.row i u L hu hL) (by have := HIW.out; omega), h3.apart⟩⟩ (by have := HS1.out; have := HIBE.out; omega), h4⟩)
      have K8 := Lib.hid k8
      clear hlt hown hbr ha t2 t2'
      go_wp2_with fail
      go_loopg [11] k (fun g y wr => ∃ a, a ≤ k ∧ g = k - a ∧ y = .int .i64 (a : Nat) ∧ BoxAt wo ib k (midL TL k (stOf p) a 0) wr)
      case atStart => exact ⟨0, Nat.zero_le _, rfl, rfl, HB0.out⟩
      case round =>
        obtain ⟨a, ha, rfl, rfl, hbx⟩ := hrel
        have HBX2 := Lib.hid hbx
        obtain ⟨us, hu1, hu2, hu3, hf⟩ := hbx
        have c0 := HJ.out wr (H2.out wr hf)
        by_cases hlt : a < k
        · have t2 : decide (a < k) = true := decide_eq_true hlt
          have t2' : decide ((a : Int) < k) = true := decide_eq_true (by omega)
          have HLT := Lib.hid hlt
          by_cases hlt2 : a < tn
          · have t3 : decide (a < tn) = true := decide_eq_true hlt2
            have t3' : decide ((a : Int) < tn) = true := decide_eq_true (by omega)
            have i1 : (a : Int) < k := by omega
            have i2 : (a : Int) < tn := by omega
            have HLT2 := Lib.hid hlt2
            obtain ⟨m, hm⟩ : ∃ m, (TL.getD a []).length = m := ⟨_, rfl⟩
            have hm8 : m ≤ 8 := by rw [← hm]; exact HI.out.tl a
            have HM := Lib.hid hm
            clear hu1 hu2 hu3 hf hlt hlt2 ha hm
            obtain ⟨w5, hw5⟩ : ∃ W, W = wr := ⟨_, rfl⟩
            subst hw5
            go_wp2_with fail
            clear c0
            go_loopg [12] m (fun g y wr => ∃ i, i ≤ m ∧ g = m - i ∧ y = .int .i64 (i : Nat) ∧ BoxAt wo ib k (midL TL k (stOf p) a i) wr)
            case atStart => exact ⟨0, Nat.zero_le _, rfl, rfl, HBX2.out⟩
            case round =>
              obtain ⟨i, hi, rfl, rfl, hbx⟩ := hrel
              have HBX3 := Lib.hid hbx
              obtain ⟨us, hu1, hu2, hu3, hf⟩ := hbx
              have c0 := HJ.out wr (H2.out wr hf)
              obtain ⟨b, off, A2, c2, e1, c1, hel⟩ := HTT.out wr (H2.out wr hf) a HLT2.out
              subst e1
              rw [HM.out] at c1 hel
              by_cases hlt3 : i < m
              · have t4 : decide (i < m) = true := decide_eq_true hlt3
                have t4' : decide ((i : Int) < m) = true := decide_eq_true (by omega)
                have i3 : (i : Int) < m := by omega
                have HLT3 := Lib.hid hlt3
                obtain ⟨b2, off2, e2, c3⟩ := hel i hlt3
                subst e2
                have htr := HI.out.tr a ((TL.getD a []).getD i 0) (by simp only [List.getD, List.getElem?_eq_getElem (show i < (TL[a]?.getD []).length by have := HM.out; simp only [List.getD] at this; omega), Option.getD_some]; exact List.getElem_mem _)
                rw [HK.out] at htr
                obtain ⟨t, ht⟩ : ∃ t : Nat, (TL.getD a []).getD i 0 = (t : Int) := ⟨((TL.getD a []).getD i 0).toNat, by omega⟩
                rw [ht] at c3 htr
                have htk : t < k := by omega
                have i4 : (t : Int) < k := by omega
                obtain ⟨u, hut, hown⟩ := hu3.at (i := t) (by rw [midL_len]; exact htk)
                have eg : (midL TL k (stOf p) a i)[t]'(by rw [midL_len]; exact htk) = midBox TL (stOf p) a i t := by
                  have := midL_at (TL := TL) (st := stOf p) (a := a) (i := i) htk
                  rw [List.getElem?_eq_getElem (by rw [midL_len]; exact htk)] at this
                  exact Option.some.inj this
                rw [eg] at hown
                have hq8 := midBox_len (TL := TL) (st := stOf p) HI.out.tl a i t
                obtain ⟨q, hq⟩ : ∃ q, (midBox TL (stOf p) a i t).length = q := ⟨_, rfl⟩
                rw [hq] at hown hq8
                obtain ⟨Au, cu, rfl⟩ := own_form hown
                have KST : ∀ W, Fr wo.heap.size (fun g => g = ib) wo W → ∃ bs os, Av = some ⟨bs, os, none⟩ ∧ W.cell? ⟨bs, os + a, none⟩ = some (.string (stOf p a)) := fun W hW => by
                  obtain ⟨bs, os, e5, _, h5⟩ := txt_pos (HV.out W (H2.out W hW)) (i := a) (by rw [HL1.out]; exact HLT.out)
                  exact ⟨bs, os, e5, h5⟩
                obtain ⟨bs, os, rfl, _⟩ := KST wr hf
                have KS2 : ∀ W, Fr wo.heap.size (fun g => g = ib) wo W → W.cell? ⟨bs, os + a, none⟩ = some (.string (stOf p a)) := fun W hW => by
                  obtain ⟨bs', os', e5, h5⟩ := KST W hW
                  injection e5 with e5
                  injection e5 with e6 e7
                  subst e6 e7
                  exact h5
                obtain ⟨s, hs⟩ : ∃ s, stOf p a = s := ⟨_, rfl⟩
                rw [hs] at KS2
                have hfs := hf.size
                have hiw := HIW.out
                obtain ⟨B, cap, w7, ha1, hown1, hgr1⟩ := app_txt1 hown (by have := K8.out; omega) hfs s
                have hfU1 : Fr wo.heap.size (fun g => g = ib) wo wr.drew := hf.trans (Fr.of_below (below_drewN' (Below.refl wo.heap.size _) 1) (Nat.le_refl _))
                have hbU2 : Below wr.heap.size wr ((wr.alloc (.cells #[.string s] 9)).drew) := below_drewN' ((Below.refl _ _).alloc (Nat.le_refl _) _) 1
                have hfU2 : Fr wo.heap.size (fun g => g = ib) wo ((wr.alloc (.cells #[.string s] 9)).drew) := hf.trans (Fr.of_below hbU2 hfs)
                have hfU3 : Fr wo.heap.size (fun g => g = ib) wo w7 := hf.trans (Fr.of_grown hgr1.1 hfs (fun g hg hlt => by have := (hown.lt g hg).1; omega))
                have hut2 : us.toArray[t]? = some (.slice Au q cu) := by simpa using hut
                have hw1 : Whole wr.drew ib 22 us.toArray := hu1.drewN 1
                have hw2 : Whole ((wr.alloc (.cells #[.string s] 9)).drew) ib 22 us.toArray := hu1.below hbU2 hu1.lt
                have hw3 : Whole w7 ib 22 us.toArray := hu1.grown hgr1.1 (fun e => by have := (hown.lt ib e.symm).1; omega)
                have S1 : Hid (wr.drew.cell? ⟨ib, t, none⟩ = some (.slice Au q cu) ∧ wr.drew.cell? ⟨bs, os + a, none⟩ = some (.string s)) := Lib.hid ⟨(hw1.cell t).trans hut2, KS2 _ hfU1⟩
                have S2 : Hid (((wr.alloc (.cells #[.string s] 9)).drew).cell? ⟨ib, t, none⟩ = some (.slice Au q cu) ∧ ((wr.alloc (.cells #[.string s] 9)).drew).cell? ⟨bs, os + a, none⟩ = some (.string s)) := Lib.hid ⟨(hw2.cell t).trans hut2, KS2 _ hfU2⟩
                have S3 : Hid (w7.cell? ⟨ib, t, none⟩ = some (.slice Au q cu) ∧ w7.cell? ⟨bs, os + a, none⟩ = some (.string s)) := Lib.hid ⟨(hw3.cell t).trans hut2, KS2 _ hfU3⟩
                have z1 : w7.frozen? ⟨ib, t, none⟩ = false := hw3.free t
                have HNB : Hid (BoxAt wo ib k (midL TL k (stOf p) a (i + 1)) (w7.setCell ⟨ib, t, none⟩ (.slice B (q + 1) cap))) := Lib.hid (box_put hw3 hu2 hu3 hut hgr1 (by rw [hs]; exact hown1) hq hiw hfU3 htk (by rw [HM.out]; exact hlt3) ht)
                have z0 : w7.cell? ⟨ib, t, none⟩ = some (.slice Au q cu) := S3.out.1
                clear hel hq hq8 hs hfs hiw hown hown1 hgr1 hfU1 hbU2 hfU2 hfU3 hut2 hw1 hw2 hw3 hut eg htr ht KST KS2 hu1 hu2 hu3 hf hlt3 hi htk
                go_upto_region 14 with fail
                clear c0 c1 c3
                go_wp2_with fail
                refine region_reads [0,1,2,3,4,5,6,7,8,9] 10 11 12 13 (by kernel_rfl) (by kernel_rfl) (fun w' => w'.cell? ⟨ib, t, none⟩ = some (.slice Au q cu) ∧ w'.cell? ⟨bs, os + a, none⟩ = some (.string s)) S1.out (by kernel_rfl) (by kernel_rfl) (by kernel_rfl) (by kernel_rfl) (by kernel_rfl) (by kernel_rfl) (by kernel_rfl) rfl rfl rfl rfl rfl rfl rfl rfl (by kernel_rfl) ?_
                refine ⟨_, ?v1_0, rfl, Or.inl ⟨by rfl, ?hy1_0⟩, fun _ _ _ h => h, ?rest1_0⟩
                case hy1_0 => (intro w' hSw; obtain ⟨s1, s2⟩ := hSw; go_simp; try with_reducible rfl)
                try dsimp only [Act.put]
                refine ⟨_, ?v1_1, rfl, Or.inl ⟨by rfl, ?hy1_1⟩, fun _ _ _ h => h, ?rest1_1⟩
                case hy1_1 => (intro w' hSw; obtain ⟨s1, s2⟩ := hSw; go_simp; try with_reducible rfl)
                try dsimp only [Act.put]
                refine ⟨_, ?v1_2, rfl, Or.inl ⟨by rfl, ?hy1_2⟩, fun _ _ _ h => h, ?rest1_2⟩
                case hy1_2 => (intro w' hSw; obtain ⟨s1, s2⟩ := hSw; go_simp; try with_reducible rfl)
                try dsimp only [Act.put]
                refine ⟨_, ?v1_3, rfl, Or.inl ⟨by rfl, ?hy1_3⟩, fun _ _ _ h => h, ?rest1_3⟩
                case hy1_3 => (intro w' hSw; obtain ⟨s1, s2⟩ := hSw; go_simp; try with_reducible rfl)
                try dsimp only [Act.put]
                refine ⟨_, ?v1_4, rfl, Or.inl ⟨by rfl, ?hy1_4⟩, fun _ _ _ h => h, ?rest1_4⟩
                case hy1_4 => (intro w' hSw; obtain ⟨s1, s2⟩ := hSw; go_simp; try with_reducible rfl)
                try dsimp only [Act.put]
                refine ⟨_, ?v1_5, rfl, Or.inl ⟨by rfl, ?hy1_5⟩, fun _ _ _ h => h, ?rest1_5⟩
                case hy1_5 => (intro w' hSw; obtain ⟨s1, s2⟩ := hSw; go_simp; try with_reducible rfl)
                try dsimp only [Act.put]
                refine ⟨_, ?v1_6, rfl, Or.inl ⟨by rfl, ?hy1_6⟩, fun _ _ _ h => h, ?rest1_6⟩
                case hy1_6 => (intro w' hSw; obtain ⟨s1, s2⟩ := hSw; go_simp; try with_reducible rfl)
                try dsimp only [Act.put]
                refine ⟨_, ?v1_7, rfl, Or.inl ⟨by rfl, ?hy1_7⟩, fun _ _ _ h => h, ?rest1_7⟩
                case hy1_7 => (intro w' hSw; obtain ⟨s1, s2⟩ := hSw; go_simp; try with_reducible rfl)
                try dsimp only [Act.put]
                refine ⟨_, ?v1_8, rfl, Or.inl ⟨by rfl, ?hy1_8⟩, fun _ _ _ h => h, ?rest1_8⟩
                case hy1_8 => (intro w' hSw; obtain ⟨s1, s2⟩ := hSw; go_simp; try with_reducible rfl)
                try dsimp only [Act.put]
                refine ⟨_, ?v1_9, rfl, Or.inl ⟨by rfl, ?hy1_9⟩, fun _ _ _ h => h, ?rest1_9⟩
                case hy1_9 => (intro w' hSw; obtain ⟨s1, s2⟩ := hSw; go_simp; try with_reducible rfl)
                try dsimp only [Act.put]
                refine reads_nil ?_
                refine wp_bare (fun K11 hK11 => ?_)
                go_simp
                refine hK11.out _ _ ⟨S2.out, ?_⟩
                refine wp_bare (fun K12 hK12 => ?_)
                go_simp
                refine hK12.out _ _ ⟨S3.out, ?_⟩
                refine wp_bare (fun K13 hK13 => ?_)
                go_simp
                refine hK13.out _ _ ?_
                refine wp_bare (fun K14 hK14 => ?_)
                go_simp
                refine hK14.out _ _ ?_
                go_wp2_with fail
                go_roundg (m - (i + 1))
                case rel => exact ⟨i + 1, HLT3.out, rfl, rfl, HNB.out⟩
                case measure => have := HLT3.out; omega
              · have t4 : decide (i < m) = false := decide_eq_false hlt3
                have t4' : decide ((i : Int) < m) = false := decide_eq_false (by omega)
                obtain rfl : m = i := by omega
                have i2 : (a : Int) < tn := by have := HLT2.out; omega
                have HBN : Hid (BoxAt wo ib k (midL TL k (stOf p) (a + 1) 0) wr) := Lib.hid (by
                  have h9 := HBX3.out
                  rwa [← HM.out, midL_next] at h9)
                clear hel hu1 hu2 hu3 hf hlt3 hi
                go_wp2_with fail
                go_roundg (k - (a + 1))
                case rel => exact ⟨a + 1, HLT.out, rfl, rfl, HBN.out⟩
                case measure => have := HLT.out; omega
          · have t3 : decide (a < tn) = false := decide_eq_false hlt2
            have t3' : decide ((a : Int) < tn) = false := decide_eq_false (by omega)
            have HBT := Lib.hid (HFIN.out _ wr (midL_len _ _ _ _ _) HBX2.out)
            rw [midL_stop (by rw [HTN.out]; omega) ha] at HBT
            clear hu1 hu2 hu3 hf hlt hlt2 ha
            go_wp2_with fail
            go_ret2
            exact ⟨_, _, rfl, by rw [HK.out]; exact HOB.out wr HBT.out.2, by rw [HK.out]; exact HBT.out.1, HBW.out wr HBT.out.2⟩
        · have t2 : decide (a < k) = false := decide_eq_false hlt
          have t2' : decide ((a : Int) < k) = false := decide_eq_false (by omega)
          obtain rfl : k = a := by omega
          have HBT := Lib.hid (HFIN.out _ wr (midL_len _ _ _ _ _) HBX2.out)
          rw [midL_end] at HBT
          clear hu1 hu2 hu3 hf hlt ha
          go_wp2_with fail
          go_ret2
          exact ⟨_, _, rfl, by rw [HK.out]; exact HOB.out wr HBT.out.2, by rw [HK.out]; exact HBT.out.1, HBW.out wr HBT.out.2⟩
end Go.Proofs.YtlopoddllfkkfaaDoor
