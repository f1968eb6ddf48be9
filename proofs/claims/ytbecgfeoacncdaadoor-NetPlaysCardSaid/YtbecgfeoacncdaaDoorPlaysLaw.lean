/- NetPlays. -/
import Derived.Test.YtbecgfeoacncdaaDoorPlay19
import Derived.Deep.RegionHeld3
namespace Go.Proofs.YtbecgfeoacncdaaDoor
open Go.RowKit

theorem inR_len (S C : List Let) (w : Int) : ∀ i, i ≤ S.length → (inR (S.take i) C w).length ≤ i
  | 0, _ => by rw [List.take_zero]; exact Nat.le_refl _
  | i + 1, hi => by
    rw [inR_take (by omega)]
    have h1 := inStep_len C w (inR (S.take i) C w) (S[i]'(by omega))
    have h2 := inR_len S C w i (by omega)
    omega
/-- Behind the document's Do. -/
def CutD (W0 : World) (kk : Nat) (vS vF vC : Value) (m m' : NetR) (code : Int) (p q : Value) (wx : World) : Prop :=
  ∃ V xb vS' vF' vC', V = wx ∧ p = .pointer (some ⟨xb, 0, none⟩) ∧ q = .int .i64 code ∧ Whole V xb 33 #[.int .i64 kk, vS', vF', vC'] ∧ W0.heap.size ≤ xb ∧ NetRV V kk vS' vF' vC' m' ∧
    AsOr W0.heap.size vS m.S vS' m'.S ∧ AsOr W0.heap.size vF m.F vF' m'.F ∧ AsOr W0.heap.size vC m.C vC' m'.C ∧ Below W0.heap.size W0 V
theorem cutD_A {W0 w5 : World} {kk : Nat} {vS vF vC vS' vF' vC' : Value} {m m' : NetR} {code : Int} (hN : NetRV w5 kk vS' vF' vC' m') (aS : AsOr W0.heap.size vS m.S vS' m'.S) (aF : AsOr W0.heap.size vF m.F vF' m'.F) (aC : AsOr W0.heap.size vC m.C vC' m'.C) (hb : Below W0.heap.size W0 w5) :
    CutD W0 kk vS vF vC m m' code (.pointer (some ⟨w5.heap.size, 0, none⟩)) (.int .i64 code) (w5.alloc (.cells #[.int .i64 kk, vS', vF', vC'] 33)) := by
  have h1 : Below w5.heap.size w5 (w5.alloc (.cells #[.int .i64 kk, vS', vF', vC'] 33)) := (Below.refl _ _).alloc (Nat.le_refl _) _
  exact ⟨_, _, _, _, _, rfl, rfl, rfl, Whole.new _ _ _, hb.size, ⟨hN.1, hN.2.1.below h1 (Nat.le_refl _), hN.2.2.1.below h1 (Nat.le_refl _), hN.2.2.2.below h1 (Nat.le_refl _)⟩, aS, aF, aC, hb.trans (h1.mono hb.size)⟩
theorem AsOr.less {B B' : Nat} {v v' : Value} {S S' : List Let} (h : AsOr B v S v' S') (hB : B' ≤ B) : AsOr B' v S v' S' := by
  rcases h with h | h
  · exact Or.inl h
  · exact Or.inr (fun g hg => Nat.le_trans hB (h g hg))
theorem cutD_B {W0 w5 : World} {kk : Nat} {vS vF vC vS' vF' vC' : Value} {m m' : NetR} {code : Int} {o : Obj} {cs : Array Value} (lS : LetsAt W0 vS m.S) (lF : LetsAt W0 vF m.F) (lC : LetsAt W0 vC m.C) (hz : Whole w5 W0.heap.size 33 cs) (hN : NetRV w5 kk vS' vF' vC' m') (aS : AsOr (W0.alloc o).heap.size vS m.S vS' m'.S) (aF : AsOr (W0.alloc o).heap.size vF m.F vF' m'.F) (aC : AsOr (W0.alloc o).heap.size vC m.C vC' m'.C) (hb : Below (W0.alloc o).heap.size (W0.alloc o) w5) (hcs : cs = #[.int .i64 0, .slice none 0 0, .slice none 0 0, .slice none 0 0] := by rfl) :
    CutD W0 kk vS vF vC m m' code (.pointer (some ⟨W0.heap.size, 0, none⟩)) (.int .i64 code) ((((w5.setCell ⟨W0.heap.size, 0, none⟩ (.int .i64 kk)).setCell ⟨W0.heap.size, 1, none⟩ vS').setCell ⟨W0.heap.size, 2, none⟩ vF').setCell ⟨W0.heap.size, 3, none⟩ vC') := by
  subst hcs
  rw [World.size_alloc] at aS aF aC
  have hb0 : Below W0.heap.size W0 w5 := ((Below.refl W0.heap.size W0).alloc (Nat.le_refl _) o).trans (hb.mono (by rw [World.size_alloc]; omega))
  have off : ∀ {v v' : Value} {S S' : List Let}, LetsAt W0 v S → AsOr (W0.heap.size + 1) v S v' S' → Off19 W0.heap.size v' S' := fun {v v' S S'} hl ha => by
    rcases ha with ⟨rfl, rfl⟩ | ha
    · exact Off19.of hl (Nat.le_refl _)
    · exact Or.inr (fun e => by have := ha _ e; omega)
  have oS := off lS aS; have oF := off lF aF; have oC := off lC aC
  obtain ⟨n0, n1, n2, n3⟩ := hN
  refine ⟨_, _, vS', vF', vC', rfl, rfl, rfl, (((hz.put 0 _).put 1 _).put 2 _).put 3 _, Nat.le_refl _, ⟨n0, (((n1.put oS _ _).put oS _ _).put oS _ _).put oS _ _, (((n2.put oF _ _).put oF _ _).put oF _ _).put oF _ _, (((n3.put oC _ _).put oC _ _).put oC _ _).put oC _ _⟩, aS.less (Nat.le_succ _), aF.less (Nat.le_succ _), aC.less (Nat.le_succ _), (((hb0.setCell (Nat.le_refl _) _).setCell (Nat.le_refl _) _).setCell (Nat.le_refl _) _).setCell (Nat.le_refl _) _⟩
theorem below_of_drew' {B : Nat} {W W' : World} (h : Below B W.drew W') : Below B W W' := ⟨h.os, h.tape, h.output, h.size, h.block⟩
theorem fr_chain {n mb : Nat} (W : World) (u0 u1 u2 u3 : Value) (hn : n ≤ W.heap.size) : Fr n (fun k => k = mb) W ((((W.setCell ⟨mb, 0, none⟩ u0).setCell ⟨mb, 1, none⟩ u1).setCell ⟨mb, 2, none⟩ u2).setCell ⟨mb, 3, none⟩ u3) := by
  have h : ∀ (V : World) (o : Nat) (u : Value), n ≤ V.heap.size → Fr n (fun k => k = mb) V (V.setCell ⟨mb, o, none⟩ u) := fun V o u hV => Fr.of_grown (grown_cell V mb o u) hV (fun k hk _ => by injection hk with hk; exact hk.symm)
  have z : ∀ (V : World) (o : Nat) (u : Value), (V.setCell ⟨mb, o, none⟩ u).heap.size = V.heap.size := fun V o u => by simp [World.setCell]
  exact (((h W 0 u0 hn).trans (h _ 1 u1 (by rw [z]; exact hn))).trans (h _ 2 u2 (by rw [z, z]; exact hn))).trans (h _ 3 u3 (by rw [z, z, z]; exact hn))
theorem quiet_q {w : World} {base N : Nat} {n : NetP} {b : Nat} {R : Nat → Prop} (h : NetB w base N n b R) {q : Bool} (hq : (n.miss == 0) = q) :
    Calls Tryd.prog 17 #[.pointer (some ⟨b, 0, none⟩)] w fun e w' => e = .returned (.bool q) ∧ w' = w := by
  subst hq
  exact quiet_any h.at
/-- Inbox, whatever the worker. -/
theorem inbox_letsB {w : World} {base N M : Nat} {n : NetP} {m : NetR} {T : Int → Int → Int → ByteArray} {b : Nat} {R : Nat → Prop} (h : NetB w base N n b R) (g : Good n M) (hM : M ≤ 1000) (ht : Tie n m T) (c : Int) {L : List Let} (hL : inR m.S m.C c = L) {q : Nat} (hq : L.length = q) :
    Calls Tryd.prog 18 #[.pointer (some ⟨b, 0, none⟩), .int .i64 c] w (LetsAll L q w) := by
  subst hq
  obtain ⟨mb, cb, v, F, G, h, rfl⟩ := h
  cases hc : hasB n.k c with
  | true =>
    refine (inbox_ok h c g.k hc (fun a => Nat.le_trans (g.sn a c) hM)).mono ?_
    rintro e w' ⟨u, rfl, hf, hb⟩
    rw [← ht.inbox c, hL] at hf
    have hl := hf.lets
    obtain ⟨A, cc, rfl, _⟩ := hf
    exact ⟨A, cc, rfl, hl, hb⟩
  | false =>
    refine (inbox_no h c hc).mono ?_
    rintro e w' ⟨rfl, rfl⟩
    have h0 := ht.inbox_no c hc
    rw [hL] at h0
    subst h0
    exact ⟨none, 0, rfl, LetsAt.nil _, Below.refl _ _⟩
/-- Both nets, as the law keeps them. -/
def Both (W : World) (base N M : Nat) (b mb j : Nat) (n : NetP) (m : NetR) (wx : World) : Prop :=
  ∃ R T vS vF vC, W = wx ∧ NetB W base N n b R ∧ Good n M ∧ Tie n m T ∧ SmallR m M ∧ n.k = j ∧ MV W base R mb j vS vF vC m
/-- Behind the comparisons. -/
def CutE (base N M b mb j : Nat) (n : NetP) (m : NetR) (W0 : World) (p : Value) (wx : World) : Prop := p = .bool false ∧ ∃ V, Both V base N M b mb j n m wx ∧ Below base W0 V
/-- Behind the inboxes compared. -/
def CutS (W0 : World) (p : Value) (wx : World) : Prop := p = .bool false ∧ ∃ V, V = wx ∧ Below W0.heap.size W0 V
set_option maxRecDepth 100000 in
set_option maxHeartbeats 8000000 in
theorem plays_any {w : World} (hg : ErrT w) {v : Value} {S : List Let} (hS : LetsAt w v S) (hlen : S.length ≤ 9223372036854775807) (k0 : Int) :
    Calls Tryd.prog 3 #[.int .i64 k0, v] w fun e w' => e = .returned (.bool true) ∧ Below w.heap.size w w' := by
  have AL := Lib.hid (alive_ok w hg)
  have HG := Lib.hid hg; have HS := Lib.hid hS; have HLEN := Lib.hid hlen
  obtain ⟨A, c, rfl, _⟩ := hS
  obtain ⟨n, hnn⟩ : ∃ n, S.length = n := ⟨_, rfl⟩
  have HN := Lib.hid hnn
  rw [hnn] at HS hlen ⊢
  clear hg hnn
  go_enter Tryd.func3, Tryd.ntmps3
  go_wp2_with fail
  refine AL.out.mono ?_
  rintro e w1 ⟨rfl, hb1⟩
  have FR := Lib.hid (far_any (HS.out.below hb1 (Nat.le_refl _)) HLEN.out)
  have HB1 := Lib.hid hb1
  clear hb1
  rw [HN.out] at FR
  go_wp2_with fail
  refine FR.out.mono ?_
  rintro e w2 ⟨z, rfl, hw, hz⟩
  obtain rfl := hw.symm
  have HZ := Lib.hid hz
  clear hz hw
  cases z with
  | true =>
    go_wp2_with fail
    go_ret
    exact ⟨rfl, HB1.out⟩
  | false =>
  obtain ⟨h60, _⟩ := HZ.out (by first | rfl | trivial)
  have NW := Lib.hid (netNew_any k0 w1)
  clear hlen
  go_wp2_with fail
  refine NW.out.mono ?_
  rintro e w2 ⟨hb2, hcase⟩
  have HB2 := Lib.hid hb2
  rcases hcase with ⟨j, p, rfl, hj1, hj2, rfl, hNA⟩ | ⟨hbad, u, rfl, hF⟩
  case inr =>
    have HC := Lib.hid (code_as (Or.inr ⟨by decide, hF⟩) (HG.out.below (HB1.out.trans (hb2.mono HB1.out.size)) (Nat.le_refl _)))
    have hc : decide (k0 < 1) = true ∨ (decide (k0 < 1) = false ∧ decide (64 < k0) = true) := by
      by_cases h : k0 < 1
      · exact Or.inl (decide_eq_true h)
      · exact Or.inr ⟨decide_eq_false h, decide_eq_true (by omega)⟩
    clear hb2 hbad hF
    rcases hc with t1 | ⟨t1, t2⟩
    all_goals
      go_wp2_with fail
      refine HC.out.mono ?_; rintro e w3 ⟨rfl, hb3⟩
      have HB3 := Lib.hid hb3
      clear hb3
      go_wp2_with fail
      go_ret
      exact ⟨rfl, HB1.out.trans ((HB2.out.trans (HB3.out.mono HB2.out.size)).mono HB1.out.size)⟩
  obtain ⟨b, mb0, cb0, v0, F0, G0, rfl, hN0⟩ := hNA
  have t1 : decide ((j : Int) < 1) = false := decide_eq_false (by omega)
  have t1' : decide (j < 1) = false := decide_eq_false (by omega)
  have t2 : decide ((64 : Int) < (j : Int)) = false := decide_eq_false (by omega)
  have t2' : decide (64 < j) = false := decide_eq_false (by omega)
  have hj0 : ¬ j = 0 := by omega
  obtain ⟨mb, hmb⟩ : ∃ g, w2.heap.size = g := ⟨_, rfl⟩
  have hNB : NetB w2 w1.heap.size 0 (freshP j) b (Foot b mb0 cb0 v0) := ⟨mb0, cb0, v0, F0, G0, hN0, rfl⟩
  obtain ⟨w3, hw3⟩ : ∃ W, w2.alloc (.cells #[.int .i64 j, .slice none 0 0, .slice none 0 0, .slice none 0 0] 33) = W := ⟨_, rfl⟩
  have hb23 : Below w2.heap.size w2 w3 := by rw [← hw3]; exact (Below.refl _ _).alloc (Nat.le_refl _) _
  have hmw : Whole w3 mb 33 #[.int .i64 j, .slice none 0 0, .slice none 0 0, .slice none 0 0] := by rw [← hw3, ← hmb]; exact Whole.new _ _ _
  have hBoth : Both w3 w1.heap.size 0 0 b mb j (freshP j) ⟨j, [], [], []⟩ w3 := ⟨_, _, _, _, _, rfl, hNB.below hb23, Good.fresh hj2, Tie.fresh j, ⟨Nat.le_refl _, Nat.le_refl _, Nat.le_refl _⟩, rfl,
    by have := hb2.size; omega, fun h => by have := (hNB.foot h).2; omega, hmw, ⟨rfl, LetsAt.nil _, LetsAt.nil _, LetsAt.nil _⟩, Or.inl rfl, Or.inl rfl, Or.inl rfl⟩
  have HBOTH := Lib.hid hBoth; have HW3 := Lib.hid hw3; have HMB := Lib.hid hmb
  have HB3 : Hid (Below w1.heap.size w1 w3) := Lib.hid (hb2.trans (hb23.mono hb2.size))
  clear hb2 hN0 hNB hw3 hb23 hmw hBoth hmb
  go_upto_region 9 with fail
  rw [HW3.out, HMB.out]
  go_wp2_with fail
  go_loopg [8] n (fun g y wx => ∃ k N V nn m, k ≤ n ∧ g = n - k ∧ y = .int .i64 (k : Nat) ∧ N ≤ k ∧ Both V w1.heap.size N k b mb j nn m wx ∧ Below w1.heap.size w1 V)
  case atStart => exact ⟨0, 0, _, _, _, Nat.zero_le _, rfl, rfl, Nat.le_refl _, HBOTH.out, HB3.out⟩
  case round =>
    obtain ⟨k, N, V, nn, m, hk, rfl, rfl, hNk, ⟨R, T, vS, vF, vC, rfl, hA, hGd, hTie, hSm, hkj, hMV⟩, hB⟩ := hrel
    obtain ⟨wr, rfl⟩ : ∃ x, x = V := ⟨_, rfl⟩
    have HA := Lib.hid hA; have HGD := Lib.hid hGd; have HTI := Lib.hid hTie; have HSM := Lib.hid hSm; have HKJ := Lib.hid hkj; have HMV := Lib.hid hMV; have HB := Lib.hid hB
    clear hA hGd hTie hSm hkj hB
    by_cases hlt : k < n
    · have hkS : k < S.length := by rw [HN.out]; exact hlt
      obtain ⟨⟨f, t, s, x⟩, hl⟩ : ∃ l, S[k] = l := ⟨_, rfl⟩
      have hpos := fun (W : World) (hW : Below w1.heap.size wr W) => (HS.out.below (HB1.out.trans ((HB.out.trans hW).mono HB1.out.size)) (Nat.le_refl _)).pos (i := k) hkS
      obtain ⟨sb, off, rfl, e0, e1, e2, e3⟩ := hpos wr (Below.refl _ _)
      rw [hl] at e0 e1 e2 e3 hpos
      simp only at e0 e1 e2 e3 hpos
      have hsb : sb < w1.heap.size := by
        obtain ⟨sb', off', hz, g0, _⟩ := (HS.out.below HB1.out (Nat.le_refl _)).pos (i := k) hkS
        injection hz with hz
        injection hz with z1 z2
        subst z1 z2
        exact World.block_lt_of_cell? _ _ g0
      obtain ⟨hm0, hmR, hmW, ⟨hmk, hlS, hlF, hlC⟩, hfS, hfF, hfC⟩ := id hMV
      have HLS := Lib.hid hlS; have HLF := Lib.hid hlF; have HLC := Lib.hid hlC
      obtain ⟨AS, cS, hvS, _⟩ := hlS
      obtain ⟨AF, cF, hvF, _⟩ := hlF
      obtain ⟨AC, cC, hvC, _⟩ := hlC
      obtain ⟨nS, hnS⟩ : ∃ q, m.S.length = q := ⟨_, rfl⟩
      obtain ⟨nF, hnF⟩ : ∃ q, m.F.length = q := ⟨_, rfl⟩
      obtain ⟨nC, hnC⟩ : ∃ q, m.C.length = q := ⟨_, rfl⟩
      rw [hnS] at hvS
      rw [hnF] at hvF
      rw [hnC] at hvC
      subst hvS hvF hvC
      obtain ⟨n', hn'⟩ : ∃ n', (stepP nn f t s x).1 = n' := ⟨_, rfl⟩
      obtain ⟨m', hm'⟩ : ∃ m', (stepR m f t s x).1 = m' := ⟨_, rfl⟩
      obtain ⟨cd, hcd⟩ : ∃ cd, (stepR m f t s x).2 = cd := ⟨_, rfl⟩
      obtain ⟨T', hT', hcode⟩ := HTI.out.step f t s x
      rw [hn', hm'] at hT'
      rw [hcd] at hcode
      have hgd' := HGD.out.step (by omega) f t s x
      rw [hn'] at hgd'
      have hsm' := HSM.out.step f t s x
      rw [hm'] at hsm'
      have hkj' : n'.k = j := by rw [← hn', stepP_k]; exact HKJ.out
      have HRD : Hid (∀ W, Below wr.heap.size wr W → Calls Tryd.prog 12 #[.agg #[.int .i64 j, .slice AS nS cS, .slice AF nF cF, .slice AC nC cC], .agg #[.int .i64 f, .int .i64 t, .int .i64 s, .string x]] W (DoR j (.slice AS nS cS) (.slice AF nF cF) (.slice AC nC cC) m m' cd W)) := Lib.hid (fun W hW => by
        have := refDo_any (w := W) (kk := j) (m := m) ⟨hmk, HLS.out.below hW (Nat.le_refl _), HLF.out.below hW (Nat.le_refl _), HLC.out.below hW (Nat.le_refl _)⟩ HSM.out (by omega) f t s x
        rwa [hm', hcd] at this)
      have HKS : Hid (∀ W, Below wr.heap.size wr W → (fun W => W.cell? ⟨mb, 0, none⟩ = some (.int .i64 j) ∧ W.cell? ⟨mb, 1, none⟩ = some (.slice AS nS cS) ∧ W.cell? ⟨mb, 2, none⟩ = some (.slice AF nF cF) ∧ W.cell? ⟨mb, 3, none⟩ = some (.slice AC nC cC) ∧ W.cell? ⟨sb, off + k * 4, none⟩ = some (.int .i64 f) ∧ W.cell? ⟨sb, off + k * 4 + 1, none⟩ = some (.int .i64 t) ∧ W.cell? ⟨sb, off + k * 4 + 2, none⟩ = some (.int .i64 s) ∧ W.cell? ⟨sb, off + k * 4 + 3, none⟩ = some (.string x)) W) := Lib.hid (fun W hW => ⟨(hmW.below hW hmW.lt).cell 0, (hmW.below hW hmW.lt).cell 1, (hmW.below hW hmW.lt).cell 2, (hmW.below hW hmW.lt).cell 3, (hW.cell (p := ⟨sb, off + k * 4, none⟩) (Nat.lt_of_lt_of_le hsb HB.out.size)).trans e0, (hW.cell (p := ⟨sb, off + k * 4 + 1, none⟩) (Nat.lt_of_lt_of_le hsb HB.out.size)).trans e1, (hW.cell (p := ⟨sb, off + k * 4 + 2, none⟩) (Nat.lt_of_lt_of_le hsb HB.out.size)).trans e2, (hW.cell (p := ⟨sb, off + k * 4 + 3, none⟩) (Nat.lt_of_lt_of_le hsb HB.out.size)).trans e3⟩)
      have HT' := Lib.hid hT'; have HCO := Lib.hid hcode; have HGD' := Lib.hid hgd'; have HSM' := Lib.hid hsm'; have HKJ' := Lib.hid hkj'; have HN' := Lib.hid hn'; have HPOS := Lib.hid hpos; have HLT := Lib.hid hlt; have HSB := Lib.hid hsb; have HMR := Lib.hid hmR; have HM0 := Lib.hid hm0; have HMW := Lib.hid hmW
      have t3 : decide (k < n) = true := decide_eq_true hlt
      have t3' : decide ((k : Int) < (n : Int)) = true := decide_eq_true (by omega)
      have i1 : (k : Int) < n := by omega
      have i2 : (0 : Int) ≤ k := by omega
      clear hl hpos hkS hm' hcd hn' hT' hcode hgd' hsm' hkj' hmk hmW hm0 hmR hfS hfF hfC hnS hnF hnC e0 e1 e2 e3 hsb hMV
      go_upto_region 12 with fail
      go_cut [9, 10] (fun p q wx => CutD wr.drew j (.slice AS nS cS) (.slice AF nF cF) (.slice AC nC cC) m m' cd p q wx)
      case first =>
        refine wp_region_held_drew (S := fun W => W.cell? ⟨mb, 0, none⟩ = some (.int .i64 j) ∧ W.cell? ⟨mb, 1, none⟩ = some (.slice AS nS cS) ∧ W.cell? ⟨mb, 2, none⟩ = some (.slice AF nF cF) ∧ W.cell? ⟨mb, 3, none⟩ = some (.slice AC nC cC) ∧ W.cell? ⟨sb, off + k * 4, none⟩ = some (.int .i64 f) ∧ W.cell? ⟨sb, off + k * 4 + 1, none⟩ = some (.int .i64 t) ∧ W.cell? ⟨sb, off + k * 4 + 2, none⟩ = some (.int .i64 s) ∧ W.cell? ⟨sb, off + k * 4 + 3, none⟩ = some (.string x)) (by kernel_rfl) ?_ (fun hHeld => ?_)
        · (try dsimp only); exact HKS.out _ (below_drewN' (Below.refl wr.heap.size wr) 1)
        refine wpAnyH_take (i := 0) (oi := ({ dst := some 43, op := Op.load 33 (Operand.tmp 7), type := 33, pos := "law.go:74", after := #[], guard := none } : Oper)) (v := ?vg1) rfl (by kernel_rfl) (by kernel_rfl) (by kernel_rfl) (fun _ _ _ h => h) (Or.inl ⟨by rfl, ?hyg1⟩) (by assumption) ?restg1
        case hyg1 => intro w hSw; (try dsimp only at hSw); go_simp; all_goals (with_reducible rfl)
        try simp only [Act.put, List.setIfInBounds_toArray, List.set_cons_zero, List.set_cons_succ]
        refine wpAnyH_take (i := 1) (oi := ({ dst := some 44, op := Op.move (Operand.tmp 1), type := 22, pos := "law.go:74", after := #[], guard := none } : Oper)) (v := ?vg2) rfl (by kernel_rfl) (by kernel_rfl) (by kernel_rfl) (fun _ _ _ h => h) (Or.inl ⟨by rfl, ?hyg2⟩) (by assumption) ?restg2
        case hyg2 => intro w hSw; (try dsimp only at hSw); go_simp; all_goals (with_reducible rfl)
        try simp only [Act.put, List.setIfInBounds_toArray, List.set_cons_zero, List.set_cons_succ]
        refine wpAnyH_take (i := 2) (oi := ({ dst := some 45, op := Op.move (Operand.tmp 8), type := 3, pos := "law.go:74", after := #[], guard := none } : Oper)) (v := ?vg3) rfl (by kernel_rfl) (by kernel_rfl) (by kernel_rfl) (fun _ _ _ h => h) (Or.inl ⟨by rfl, ?hyg3⟩) (by assumption) ?restg3
        case hyg3 => intro w hSw; (try dsimp only at hSw); go_simp; all_goals (with_reducible rfl)
        try simp only [Act.put, List.setIfInBounds_toArray, List.set_cons_zero, List.set_cons_succ]
        refine wpAnyH_take (i := 3) (oi := ({ dst := some 46, op := Op.indexAddr 22 (Operand.tmp 44) (Operand.tmp 45), type := 0, pos := "law.go:74", after := #[{ on := 1, ground := Ground.data }, { on := 2, ground := Ground.data }], guard := none } : Oper)) (v := ?vg4) rfl (by kernel_rfl) (by kernel_rfl) (by kernel_rfl) (fun _ _ _ h => h) (Or.inl ⟨by rfl, ?hyg4⟩) (by assumption) ?restg4
        case hyg4 => intro w hSw; (try dsimp only at hSw); go_simp; all_goals (with_reducible rfl)
        try simp only [Act.put, List.setIfInBounds_toArray, List.set_cons_zero, List.set_cons_succ]
        refine wpAnyH_take (i := 4) (oi := ({ dst := some 47, op := Op.load 37 (Operand.tmp 46), type := 37, pos := "law.go:74", after := #[{ on := 3, ground := Ground.data }], guard := none } : Oper)) (v := ?vg5) rfl (by kernel_rfl) (by kernel_rfl) (by kernel_rfl) (fun _ _ _ h => h) (Or.inl ⟨by rfl, ?hyg5⟩) (by assumption) ?restg5
        case hyg5 => intro w hSw; (try dsimp only at hSw); go_simp; all_goals (with_reducible rfl)
        try simp only [Act.put, List.setIfInBounds_toArray, List.set_cons_zero, List.set_cons_succ]
        refine wpAnyH_ready (rs := [5, 9]) (by kernel_rfl) (by simp) ?_
        refine (AllReadyH.cons (o := ({ dst := some 48, op := Op.call { callee := Callee.value (Operand.func 12), args := #[Operand.tmp 43, Operand.tmp 47], argTypes := #[33, 37] }, type := 34, pos := "law.go:74", after := #[{ on := 0, ground := Ground.data }, { on := 4, ground := Ground.data }], guard := none } : Oper)) rfl (fun K hK => ?_) (AllReadyH.cons (o := ({ dst := some 9, op := Op.alloc 33, type := 0, pos := "law.go:74", after := #[], guard := none } : Oper)) rfl (fun K hK => ?_) AllReadyH.nil))
        · go_simp
          refine (HRD.out _ (below_drewN' (Below.refl wr.heap.size wr) 1)).mono ?_
          rintro e' w5 ⟨vS', vF', vC', rfl, hN5, aS, aF, aC, hb5⟩
          obtain ⟨A1, d1, hv1, _⟩ := id hN5.2.1
          obtain ⟨A2, d2, hv2, _⟩ := id hN5.2.2.1
          obtain ⟨A3, d3, hv3, _⟩ := id hN5.2.2.2
          subst hv1 hv2 hv3
          have hbw5 : Below wr.heap.size wr w5 := (below_drewN' (Below.refl wr.heap.size wr) 1).trans (hb5.mono ((below_drewN' (Below.refl wr.heap.size wr) 1)).size)
          refine hK.out _ _ ?_ (fun hHeld => ?_)
          · (try dsimp only); exact HKS.out _ hbw5
          clear hK K
          try simp only [Act.put, List.setIfInBounds_toArray, List.set_cons_zero, List.set_cons_succ]
          refine wpAnyH_take (i := 6) (oi := ({ dst := some 42, op := Op.move (Operand.tmp 48), type := 34, pos := "law.go:74", after := #[{ on := 5, ground := Ground.data }], guard := none } : Oper)) (v := ?vg6) rfl (by kernel_rfl) (by kernel_rfl) (by kernel_rfl) (fun _ _ _ h => h) (Or.inl ⟨by rfl, ?hyg6⟩) (by assumption) ?restg6
          case hyg6 => intro w hSw; (try dsimp only at hSw); go_simp; all_goals (with_reducible rfl)
          try simp only [Act.put, List.setIfInBounds_toArray, List.set_cons_zero, List.set_cons_succ]
          refine wpAnyH_take (i := 7) (oi := ({ dst := some 49, op := Op.extract (Operand.tmp 42) 0, type := 33, pos := "law.go:74", after := #[{ on := 6, ground := Ground.data }], guard := none } : Oper)) (v := ?vg7) rfl (by kernel_rfl) (by kernel_rfl) (by kernel_rfl) (fun _ _ _ h => h) (Or.inl ⟨by rfl, ?hyg7⟩) (by assumption) ?restg7
          case hyg7 => intro w hSw; (try dsimp only at hSw); go_simp; all_goals (with_reducible rfl)
          try simp only [Act.put, List.setIfInBounds_toArray, List.set_cons_zero, List.set_cons_succ]
          refine wpAnyH_take (i := 8) (oi := ({ dst := some 50, op := Op.extract (Operand.tmp 42) 1, type := 3, pos := "law.go:74", after := #[{ on := 6, ground := Ground.data }, { on := 10, ground := Ground.gcOnly Departure.lateStores }], guard := none } : Oper)) (v := ?vg8) rfl (by kernel_rfl) (by kernel_rfl) (by kernel_rfl) (fun _ _ _ h => h) (Or.inl ⟨by rfl, ?hyg8⟩) (by assumption) ?restg8
          case hyg8 => intro w hSw; (try dsimp only at hSw); go_simp; all_goals (with_reducible rfl)
          try simp only [Act.put, List.setIfInBounds_toArray, List.set_cons_zero, List.set_cons_succ]
          refine wpAnyH_ready (rs := [9]) (by kernel_rfl) (by simp) ?_
          refine (AllReadyH.cons (o := ({ dst := some 9, op := Op.alloc 33, type := 0, pos := "law.go:74", after := #[], guard := none } : Oper)) rfl (fun K hK => ?_) AllReadyH.nil)
          go_simp
          refine hK.out _ _ ?_ (fun hHeld => ?_)
          · (try dsimp only); exact HKS.out _ (hbw5.alloc hbw5.size (.cells #[.int .i64 0, .slice none 0 0, .slice none 0 0, .slice none 0 0] 33))
          clear hK K
          try simp only [Act.put, List.setIfInBounds_toArray, List.set_cons_zero, List.set_cons_succ]
          refine wpAnyH_ready (rs := [10]) (by kernel_rfl) (by simp) ?_
          refine (AllReadyH.cons (o := ({ dst := none, op := Op.store 33 (Operand.tmp 9) (Operand.tmp 49), type := 0, pos := "law.go:74", after := #[{ on := 9, ground := Ground.data }, { on := 7, ground := Ground.data }, { on := 5, ground := Ground.chain }, { on := 0, ground := Ground.phase }, { on := 1, ground := Ground.phase }, { on := 2, ground := Ground.phase }, { on := 3, ground := Ground.phase }, { on := 4, ground := Ground.phase }, { on := 5, ground := Ground.phase }, { on := 6, ground := Ground.phase }, { on := 7, ground := Ground.phase }, { on := 8, ground := Ground.textOnly Departure.lateStores }, { on := 9, ground := Ground.phase }], guard := none } : Oper)) rfl (fun K hK => ?_) AllReadyH.nil)
          have hcut := cutD_A (W0 := wr.drew) (code := cd) hN5 aS aF aC hb5
          have HCUT := Lib.hid hcut
          go_simp
          refine hK.out _ _ ?_ (fun hHeld => ?_)
          · (try dsimp only); exact HKS.out _ (hbw5.alloc hbw5.size _)
          clear hK K
          try simp only [Act.put, List.setIfInBounds_toArray, List.set_cons_zero, List.set_cons_succ]
          refine wpAnyH_take (i := 11) (oi := ({ dst := some 10, op := Op.assign (Operand.tmp 50), type := 3, pos := "law.go:74", after := #[{ on := 8, ground := Ground.data }, { on := 10, ground := Ground.chain }, { on := 0, ground := Ground.phase }, { on := 1, ground := Ground.phase }, { on := 2, ground := Ground.phase }, { on := 3, ground := Ground.phase }, { on := 4, ground := Ground.phase }, { on := 5, ground := Ground.phase }, { on := 6, ground := Ground.phase }, { on := 7, ground := Ground.phase }, { on := 8, ground := Ground.phase }, { on := 9, ground := Ground.phase }, { on := 10, ground := Ground.phase }], guard := none } : Oper)) (v := ?vg9) rfl (by kernel_rfl) (by kernel_rfl) (by kernel_rfl) (fun _ _ _ h => h) (Or.inl ⟨by rfl, ?hyg9⟩) (by assumption) ?restg9
          case hyg9 => intro w hSw; (try dsimp only at hSw); go_simp; all_goals (with_reducible rfl)
          try simp only [Act.put, List.setIfInBounds_toArray, List.set_cons_zero, List.set_cons_succ]
          refine wpAnyH_done (by kernel_rfl) ?_ _
          go_wp2_with fail
          go_meet
          exact HCUT.out
        · go_simp
          refine hK.out _ _ ?_ (fun hHeld => ?_)
          · (try dsimp only); exact HKS.out _ ((below_drewN' (Below.refl wr.heap.size wr) 1).alloc (Nat.le_refl _) (.cells #[.int .i64 0, .slice none 0 0, .slice none 0 0, .slice none 0 0] 33))
          clear hK K
          try simp only [Act.put, List.setIfInBounds_toArray, List.set_cons_zero, List.set_cons_succ]
          refine wpAnyH_ready (rs := [5]) (by kernel_rfl) (by simp) ?_
          refine (AllReadyH.cons (o := ({ dst := some 48, op := Op.call { callee := Callee.value (Operand.func 12), args := #[Operand.tmp 43, Operand.tmp 47], argTypes := #[33, 37] }, type := 34, pos := "law.go:74", after := #[{ on := 0, ground := Ground.data }, { on := 4, ground := Ground.data }], guard := none } : Oper)) rfl (fun K hK => ?_) AllReadyH.nil)
          go_simp
          refine (HRD.out _ ((below_drewN' (Below.refl wr.heap.size wr) 1).alloc (Nat.le_refl _) (.cells #[.int .i64 0, .slice none 0 0, .slice none 0 0, .slice none 0 0] 33))).mono ?_
          rintro e' w5 ⟨vS', vF', vC', rfl, hN5, aS, aF, aC, hb5⟩
          obtain ⟨A1, d1, hv1, _⟩ := id hN5.2.1
          obtain ⟨A2, d2, hv2, _⟩ := id hN5.2.2.1
          obtain ⟨A3, d3, hv3, _⟩ := id hN5.2.2.2
          subst hv1 hv2 hv3
          have hbw5 : Below wr.heap.size wr w5 := ((below_drewN' (Below.refl wr.heap.size wr) 1).alloc (Nat.le_refl _) (.cells #[.int .i64 0, .slice none 0 0, .slice none 0 0, .slice none 0 0] 33)).trans (hb5.mono (((below_drewN' (Below.refl wr.heap.size wr) 1).alloc (Nat.le_refl _) (.cells #[.int .i64 0, .slice none 0 0, .slice none 0 0, .slice none 0 0] 33))).size)
          refine hK.out _ _ ?_ (fun hHeld => ?_)
          · (try dsimp only); exact HKS.out _ hbw5
          clear hK K
          try simp only [Act.put, List.setIfInBounds_toArray, List.set_cons_zero, List.set_cons_succ]
          refine wpAnyH_take (i := 6) (oi := ({ dst := some 42, op := Op.move (Operand.tmp 48), type := 34, pos := "law.go:74", after := #[{ on := 5, ground := Ground.data }], guard := none } : Oper)) (v := ?vg10) rfl (by kernel_rfl) (by kernel_rfl) (by kernel_rfl) (fun _ _ _ h => h) (Or.inl ⟨by rfl, ?hyg10⟩) (by assumption) ?restg10
          case hyg10 => intro w hSw; (try dsimp only at hSw); go_simp; all_goals (with_reducible rfl)
          try simp only [Act.put, List.setIfInBounds_toArray, List.set_cons_zero, List.set_cons_succ]
          refine wpAnyH_take (i := 7) (oi := ({ dst := some 49, op := Op.extract (Operand.tmp 42) 0, type := 33, pos := "law.go:74", after := #[{ on := 6, ground := Ground.data }], guard := none } : Oper)) (v := ?vg11) rfl (by kernel_rfl) (by kernel_rfl) (by kernel_rfl) (fun _ _ _ h => h) (Or.inl ⟨by rfl, ?hyg11⟩) (by assumption) ?restg11
          case hyg11 => intro w hSw; (try dsimp only at hSw); go_simp; all_goals (with_reducible rfl)
          try simp only [Act.put, List.setIfInBounds_toArray, List.set_cons_zero, List.set_cons_succ]
          refine wpAnyH_take (i := 8) (oi := ({ dst := some 50, op := Op.extract (Operand.tmp 42) 1, type := 3, pos := "law.go:74", after := #[{ on := 6, ground := Ground.data }, { on := 10, ground := Ground.gcOnly Departure.lateStores }], guard := none } : Oper)) (v := ?vg12) rfl (by kernel_rfl) (by kernel_rfl) (by kernel_rfl) (fun _ _ _ h => h) (Or.inl ⟨by rfl, ?hyg12⟩) (by assumption) ?restg12
          case hyg12 => intro w hSw; (try dsimp only at hSw); go_simp; all_goals (with_reducible rfl)
          try simp only [Act.put, List.setIfInBounds_toArray, List.set_cons_zero, List.set_cons_succ]
          refine wpAnyH_ready (rs := [10]) (by kernel_rfl) (by simp) ?_
          refine (AllReadyH.cons (o := ({ dst := none, op := Op.store 33 (Operand.tmp 9) (Operand.tmp 49), type := 0, pos := "law.go:74", after := #[{ on := 9, ground := Ground.data }, { on := 7, ground := Ground.data }, { on := 5, ground := Ground.chain }, { on := 0, ground := Ground.phase }, { on := 1, ground := Ground.phase }, { on := 2, ground := Ground.phase }, { on := 3, ground := Ground.phase }, { on := 4, ground := Ground.phase }, { on := 5, ground := Ground.phase }, { on := 6, ground := Ground.phase }, { on := 7, ground := Ground.phase }, { on := 8, ground := Ground.textOnly Departure.lateStores }, { on := 9, ground := Ground.phase }], guard := none } : Oper)) rfl (fun K hK => ?_) AllReadyH.nil)
          have hzz := (Whole.new wr.drew 33 #[.int .i64 0, .slice none 0 0, .slice none 0 0, .slice none 0 0]).below hb5 (by simp)
          have hcut := cutD_B (W0 := wr.drew) (code := cd) HLS.out HLF.out HLC.out hzz hN5 aS aF aC hb5
          have HCUT := Lib.hid hcut
          have y0 : w5.cell? ⟨wr.heap.size, 0, none⟩ = some (.int .i64 0) := hzz.cell 0
          have y1 : w5.cell? ⟨wr.heap.size, 1, none⟩ = some (.slice none 0 0) := hzz.cell 1
          have y2 : w5.cell? ⟨wr.heap.size, 2, none⟩ = some (.slice none 0 0) := hzz.cell 2
          have y3 : w5.cell? ⟨wr.heap.size, 3, none⟩ = some (.slice none 0 0) := hzz.cell 3
          have q0 : w5.frozen? ⟨wr.heap.size, 0, none⟩ = false := hzz.free 0
          have q1 : w5.frozen? ⟨wr.heap.size, 1, none⟩ = false := hzz.free 1
          have q2 : w5.frozen? ⟨wr.heap.size, 2, none⟩ = false := hzz.free 2
          have q3 : w5.frozen? ⟨wr.heap.size, 3, none⟩ = false := hzz.free 3
          go_simp
          refine hK.out _ _ ?_ (fun hHeld => ?_)
          · (try dsimp only); exact HKS.out _ ((((hbw5.setCell (Nat.le_refl _) _).setCell (Nat.le_refl _) _).setCell (Nat.le_refl _) _).setCell (Nat.le_refl _) _)
          clear hK K
          try simp only [Act.put, List.setIfInBounds_toArray, List.set_cons_zero, List.set_cons_succ]
          refine wpAnyH_take (i := 11) (oi := ({ dst := some 10, op := Op.assign (Operand.tmp 50), type := 3, pos := "law.go:74", after := #[{ on := 8, ground := Ground.data }, { on := 10, ground := Ground.chain }, { on := 0, ground := Ground.phase }, { on := 1, ground := Ground.phase }, { on := 2, ground := Ground.phase }, { on := 3, ground := Ground.phase }, { on := 4, ground := Ground.phase }, { on := 5, ground := Ground.phase }, { on := 6, ground := Ground.phase }, { on := 7, ground := Ground.phase }, { on := 8, ground := Ground.phase }, { on := 9, ground := Ground.phase }, { on := 10, ground := Ground.phase }], guard := none } : Oper)) (v := ?vg13) rfl (by kernel_rfl) (by kernel_rfl) (by kernel_rfl) (fun _ _ _ h => h) (Or.inl ⟨by rfl, ?hyg13⟩) (by assumption) ?restg13
          case hyg13 => intro w hSw; (try dsimp only at hSw); go_simp; all_goals (with_reducible rfl)
          try simp only [Act.put, List.setIfInBounds_toArray, List.set_cons_zero, List.set_cons_succ]
          refine wpAnyH_done (by kernel_rfl) ?_ _
          go_wp2_with fail
          go_meet
          exact HCUT.out
      case rest =>
      obtain ⟨V2, xb, vS', vF', vC', rfl, rfl, rfl, hxW, hxb, hN2, aS, aF, aC, hb2⟩ := hcut
      have hb2 : Below wr.heap.size wr V2 := below_of_drew hb2
      obtain ⟨A1, d1, hv1, _⟩ := id hN2.2.1
      obtain ⟨A2, d2, hv2, _⟩ := id hN2.2.2.1
      obtain ⟨A3, d3, hv3, _⟩ := id hN2.2.2.2
      obtain ⟨n1, hn1⟩ : ∃ q, m'.S.length = q := ⟨_, rfl⟩
      obtain ⟨n2, hn2⟩ : ∃ q, m'.F.length = q := ⟨_, rfl⟩
      obtain ⟨n3, hn3⟩ : ∃ q, m'.C.length = q := ⟨_, rfl⟩
      rw [hn1] at hv1
      rw [hn2] at hv2
      rw [hn3] at hv3
      subst hv1 hv2 hv3
      have hM4 := MV.next HMV.out (fun q hq => (HA.out.foot hq).2) hb2 hN2 aS aF aC
      have hmW := HMW.out.below hb2 HMW.out.lt
      have hfr := (Fr.of_below (R := fun q => q = mb) hb2 (Nat.le_refl _)).trans (fr_chain (mb := mb) V2 (.int .i64 j) (.slice A1 n1 d1) (.slice A2 n2 d2) (.slice A3 n3 d3) hb2.size)
      have hA4 := HA.out.stay hfr (fun q h1 h2 => HMR.out (by rw [← h2]; exact h1))
      have hB4 : Below w1.heap.size wr ((((V2.setCell ⟨mb, 0, none⟩ (.int .i64 j)).setCell ⟨mb, 1, none⟩ (.slice A1 n1 d1)).setCell ⟨mb, 2, none⟩ (.slice A2 n2 d2)).setCell ⟨mb, 3, none⟩ (.slice A3 n3 d3)) := hfr.below HB.out.size (fun q hq => by rw [hq]; exact HM0.out)
      obtain ⟨W4, hW4⟩ : ∃ W, (((V2.setCell ⟨mb, 0, none⟩ (.int .i64 j)).setCell ⟨mb, 1, none⟩ (.slice A1 n1 d1)).setCell ⟨mb, 2, none⟩ (.slice A2 n2 d2)).setCell ⟨mb, 3, none⟩ (.slice A3 n3 d3) = W := ⟨_, rfl⟩
      rw [hW4] at hM4 hA4 hB4
      have c0 : V2.cell? ⟨mb, 0, none⟩ = some (.int .i64 j) := hmW.cell 0
      have c1 : V2.cell? ⟨mb, 1, none⟩ = some (.slice AS nS cS) := hmW.cell 1
      have c2 : V2.cell? ⟨mb, 2, none⟩ = some (.slice AF nF cF) := hmW.cell 2
      have c3 : V2.cell? ⟨mb, 3, none⟩ = some (.slice AC nC cC) := hmW.cell 3
      have f0 : V2.frozen? ⟨mb, 0, none⟩ = false := hmW.free 0
      have f1 : V2.frozen? ⟨mb, 1, none⟩ = false := hmW.free 1
      have f2 : V2.frozen? ⟨mb, 2, none⟩ = false := hmW.free 2
      have f3 : V2.frozen? ⟨mb, 3, none⟩ = false := hmW.free 3
      have x0 : V2.cell? ⟨xb, 0, none⟩ = some (.int .i64 j) := hxW.cell 0
      have x1 : V2.cell? ⟨xb, 1, none⟩ = some (.slice A1 n1 d1) := hxW.cell 1
      have x2 : V2.cell? ⟨xb, 2, none⟩ = some (.slice A2 n2 d2) := hxW.cell 2
      have x3 : V2.cell? ⟨xb, 3, none⟩ = some (.slice A3 n3 d3) := hxW.cell 3
      have hBW : Below w1.heap.size w1 W4 := HB.out.trans hB4
      obtain ⟨mi, hmi⟩ : ∃ q, n'.miss = q := ⟨_, rfl⟩
      obtain ⟨qz, hqz⟩ : ∃ q, (n'.miss == 0) = q := ⟨_, rfl⟩
      have hms := HT'.out.miss
      rw [hn1, hn3, hmi] at hms
      have hS3 := HSM'.out.s; have hF3 := HSM'.out.f; have hC3 := HSM'.out.c
      rw [hn1] at hS3
      rw [hn2] at hF3
      rw [hn3] at hC3
      have sm : IntKind.i64.wrap ((n1 : Int) - (n3 : Int)) = mi := by rw [IntKind.wrap_i64] <;> omega
      have cc : (cd != cd) = false := by simp
      have mm : (mi != mi) = false := by simp
      have bb : (qz != qz) = false := by cases qz <;> rfl
      have qe : decide ((n1 : Int) = (n3 : Int)) = qz ∧ decide (n1 = n3) = qz := by
        rw [← hqz, hmi]
        have e1 : (mi == 0) = decide (mi = 0) := by
          by_cases h : mi = 0 <;> simp [h]
        rw [e1]
        exact ⟨decide_eq_decide.2 (by omega), decide_eq_decide.2 (by omega)⟩
      obtain ⟨qe1, qe2⟩ := qe
      have qe3 : ((n1 : Int) == (n3 : Int)) = qz := by rw [← qe1]; by_cases h : (n1 : Int) = (n3 : Int) <;> simp [h]
      have qe4 : (n1 == n3) = qz := by rw [← qe2]; by_cases h : n1 = n3 <;> simp [h]
      have DO2 : Hid (∀ W, Below W4.heap.size W4 W → Calls Tryd.prog 13 #[.pointer (some ⟨b, 0, none⟩), .agg #[.int .i64 f, .int .i64 t, .int .i64 s, .string x]] W (DoB w1.heap.size (N + 1) n' cd b R W)) := Lib.hid (fun W hW => by
        have := do_b (hA4.below hW) HGD.out (by omega) (by omega) (hBW.trans (hW.mono hBW.size)).size (fun X hX => HG.out.below (HB1.out.trans ((hBW.trans ((hW.mono hBW.size).trans hX)).mono HB1.out.size)) (Nat.le_refl _)) f t s x
        rwa [HN'.out, HCO.out] at this)
      have hM4r := hM4
      have KS4 : Hid (∀ W, Fr W4.heap.size R W4 W → W.cell? ⟨mb, 1, none⟩ = some (.slice A1 n1 d1) ∧ W.cell? ⟨mb, 2, none⟩ = some (.slice A2 n2 d2) ∧ W.cell? ⟨mb, 3, none⟩ = some (.slice A3 n3 d3) ∧ W.cell? ⟨sb, off + k * 4, none⟩ = some (.int .i64 f) ∧ W.cell? ⟨sb, off + k * 4 + 1, none⟩ = some (.int .i64 t) ∧ W.cell? ⟨sb, off + k * 4 + 2, none⟩ = some (.int .i64 s) ∧ W.cell? ⟨sb, off + k * 4 + 3, none⟩ = some (.string x)) := Lib.hid (fun W hW => by
        have hx := (hW.block mb hM4r.2.2.1.lt hM4r.2.1).trans hM4r.2.2.1
        have hx' : Whole W mb 33 #[.int .i64 j, .slice A1 n1 d1, .slice A2 n2 d2, .slice A3 n3 d3] := hx
        have hbW : Below w1.heap.size wr W := hB4.trans (hW.below hBW.size (fun q hq => (hA4.foot hq).1))
        obtain ⟨sb', off', hz, g0, g1, g2, g3⟩ := HPOS.out W hbW
        injection hz with hz
        injection hz with z1 z2
        subst z1 z2
        exact ⟨hx'.cell 1, hx'.cell 2, hx'.cell 3, g0, g1, g2, g3⟩)
      have HA4 := Lib.hid hA4; have HM4 := Lib.hid hM4; have HBW := Lib.hid hBW; have HW4 := Lib.hid hW4; have HMI := Lib.hid hmi; have HQZ := Lib.hid hqz; have HN2 := Lib.hid hn2; have HF3 := Lib.hid hF3; have HS3 := Lib.hid hS3; have HC3 := Lib.hid hC3
      clear hM4 hM4r hmW hfr hA4 hB4 hW4 hxW hxb hN2 aS aF aC hb2 hBW hmi hqz hms hn1 hn2 hn3 hS3 hF3 hC3
      go_upto_region 14 with fail
      rw [HW4.out]
      clear c0 c1 c2 c3 f0 f1 f2 f3 x0 x1 x2 x3
      go_cut [91] (fun p wx => CutE w1.heap.size (N + 1) (k + 1) b mb j n' m' W4 p wx)
      case first =>
        go_region_held3 (fun W => W.cell? ⟨mb, 1, none⟩ = some (.slice A1 n1 d1) ∧ W.cell? ⟨mb, 2, none⟩ = some (.slice A2 n2 d2) ∧ W.cell? ⟨mb, 3, none⟩ = some (.slice A3 n3 d3) ∧ W.cell? ⟨sb, off + k * 4, none⟩ = some (.int .i64 f) ∧ W.cell? ⟨sb, off + k * 4 + 1, none⟩ = some (.int .i64 t) ∧ W.cell? ⟨sb, off + k * 4 + 2, none⟩ = some (.int .i64 s) ∧ W.cell? ⟨sb, off + k * 4 + 3, none⟩ = some (.string x))
          (exact KS4.out _ (by first | assumption | exact Fr.of_below (below_drewN' (Below.refl _ _) 1) (Nat.le_refl _)))
          (first
            | (go_at_call 17; refine (CQ.out).mono ?_; rintro e' w8 ⟨rfl, hw8⟩; obtain rfl := hw8.symm; have F8 := F6)
            | (go_at_call 16; refine (CM.out).mono ?_; rintro e' w7 ⟨rfl, hw7⟩; obtain rfl := hw7.symm; have F7 := F6)
            | (go_at_call 14; refine (CS.out).mono ?_; rintro e' w6 ⟨rfl, hb6⟩; have F6 := F5.trans (Fr.of_below (R := R) hb6 F5.size); have hN6 := Lib.hid (hN5.out.below hb6); have hM6 := Lib.hid (hM5.out.below hb6); have hB6 := Lib.hid (hB5.out.trans (hb6.mono (Nat.le_trans HBW.out.size F5.size))); have CM := Lib.hid (missing_b hN6.out HMI.out); have CQ := Lib.hid (quiet_q hN6.out HQZ.out); clear hb6)
            | (go_at_call 15; refine (CF.out).mono ?_; rintro e' w5 ⟨v5, rfl, ho5, hb5⟩; have L5 := own_lets ho5; obtain ⟨A5, c5, rfl⟩ := own_form ho5; have F5 := F4.trans (Fr.of_below (R := R) hb5 F4.size); have hN5 := Lib.hid (hN4.out.below hb5); have hM5 := Lib.hid (hM4.out.below hb5); have hB5 := Lib.hid (hB4.out.trans (hb5.mono (Nat.le_trans HBW.out.size F4.size))); have CS := Lib.hid (same_any (L := m'.F) HN2.out (by have := HF3.out; omega) (by rw [HT'.out.fly]; exact L5) hM5.out.2.2.2.1.2.2.1); clear ho5 hb5 L5)
            | (go_at_call 13; refine (DO2.out _ (by first | assumption | exact below_drewN' (Below.refl _ _) 1)).mono ?_; rintro e' w4 ⟨rfl, R4, hN4, hf4, hR4, hb4⟩; have F4 := (Fr.of_below (R := R) (below_drewN' (Below.refl W4.heap.size W4) 1) (Nat.le_refl _)).trans hf4; have hM4 := Lib.hid (HM4.out.net F4 hR4); have hN4 := Lib.hid hN4; have hB4 := Lib.hid (below_of_drew' hb4); have CF := Lib.hid (flying_any hN4.out.at (by have := HGD'.out.fl; omega)); clear hf4 hR4 hb4))
        all_goals
          go_wp2
          go_meet
          exact ⟨rfl, _, ⟨R4, T', _, _, _, rfl, hN6.out, HGD'.out, HT'.out, HSM'.out, HKJ'.out, hM6.out⟩, hB6.out⟩
      case rest =>
      obtain ⟨rfl, V5, ⟨R5, T5, vS5, vF5, vC5, rfl, hA5, hG5, hT5, hSm5, hk5, hM5⟩, hb5⟩ := hcut
      have HBo5 : Hid (Both V5 w1.heap.size (N + 1) (k + 1) b mb j n' m' V5) := Lib.hid ⟨R5, T5, _, _, _, rfl, hA5, hG5, hT5, hSm5, hk5, hM5⟩
      have HB5 := Lib.hid (HBW.out.trans hb5)
      clear hA5 hG5 hT5 hSm5 hk5 hM5 hb5 sm cc mm bb qe1 qe2 qe3 qe4
      go_wp2_with fail
      go_loopg [11] 7 (fun g y wx => ∃ q wv V, q ≤ 7 ∧ g = 7 - q ∧ y = .int .i64 wv ∧ wv = (q : Int) - 1 ∧ Both V w1.heap.size (N + 1) (k + 1) b mb j n' m' wx ∧ Below w1.heap.size w1 V)
      case atStart => exact ⟨0, -1, _, Nat.zero_le _, rfl, rfl, by decide, HBo5.out, HB5.out⟩
      case round =>
        obtain ⟨q, wv, V, hq, rfl, rfl, hwv, ⟨R6, T6, vS6, vF6, vC6, rfl, hA6, hG6, hT6, hSm6, hk6, hM6⟩, hB6⟩ := hrel
        have HA6 := Lib.hid hA6; have HG6 := Lib.hid hG6; have HT6 := Lib.hid hT6; have HSm6 := Lib.hid hSm6; have HK6 := Lib.hid hk6; have HM6 := Lib.hid hM6; have HB6 := Lib.hid hB6; have HWV := Lib.hid hwv
        clear hA6 hG6 hT6 hSm6 hk6 hB6
        by_cases hgo : wv ≤ (j : Int) ∧ wv < 6
        · have tA : decide (wv ≤ (j : Int)) = true := decide_eq_true hgo.1
          have tB : decide (wv < 6) = true := decide_eq_true hgo.2
          have sw : IntKind.i64.wrap (wv + 1) = wv + 1 := by rw [IntKind.wrap_i64] <;> omega
          obtain ⟨hm0, hmR, hmW, ⟨hmk, hlS, hlF, hlC⟩, _, _, _⟩ := id hM6
          have HMW := Lib.hid hmW; have HLS := Lib.hid hlS; have HLC := Lib.hid hlC
          obtain ⟨AS6, cS6, hvS, _⟩ := hlS
          obtain ⟨AF6, cF6, hvF, _⟩ := hlF
          obtain ⟨AC6, cC6, hvC, _⟩ := hlC
          obtain ⟨n4, hn4⟩ : ∃ q, m'.S.length = q := ⟨_, rfl⟩
          obtain ⟨n5, hn5⟩ : ∃ q, m'.F.length = q := ⟨_, rfl⟩
          obtain ⟨n6, hn6⟩ : ∃ q, m'.C.length = q := ⟨_, rfl⟩
          rw [hn4] at hvS
          rw [hn5] at hvF
          rw [hn6] at hvC
          subst hvS hvF hvC
          have hs4 := HSm6.out.s; have hs6 := HSm6.out.c
          rw [hn4] at hs4
          rw [hn6] at hs6
          obtain ⟨L, hL⟩ : ∃ L, inR m'.S m'.C wv = L := ⟨_, rfl⟩
          obtain ⟨ql, hql⟩ : ∃ l, L.length = l := ⟨_, rfl⟩
          have hlen := inR_len m'.S m'.C wv m'.S.length (Nat.le_refl _)
          rw [List.take_length, hL, hql, hn4] at hlen
          have CI := Lib.hid (fun W (hW : Below V.heap.size V W) => inbox_letsB (HA6.out.below hW) HG6.out (by omega) HT6.out wv hL hql)
          have CR : Hid (∀ W, Below V.heap.size V W → Calls Tryd.prog 19 #[.agg #[.int .i64 j, .slice AS6 n4 cS6, .slice AF6 n5 cF6, .slice AC6 n6 cC6], .int .i64 wv] W fun e w' => ∃ u, e = .returned u ∧ LetsAt w' u L ∧ Below W.heap.size W w') := Lib.hid (fun W hW => by
            rw [← hL]
            exact refInbox_any (w := W) (kk := j) (vF := .slice AF6 n5 cF6) (HLS.out.below hW (Nat.le_refl _)) (HLC.out.below hW (Nat.le_refl _)) hn4 hn6 (by omega) (by omega) wv)
          have KS6 := Lib.hid (fun (W : World) (hW : Below V.heap.size V W) => (show W.cell? ⟨mb, 0, none⟩ = some (.int .i64 j) ∧ W.cell? ⟨mb, 1, none⟩ = some (.slice AS6 n4 cS6) ∧ W.cell? ⟨mb, 2, none⟩ = some (.slice AF6 n5 cF6) ∧ W.cell? ⟨mb, 3, none⟩ = some (.slice AC6 n6 cC6) from
            ⟨(HMW.out.below hW HMW.out.lt).cell 0, (HMW.out.below hW HMW.out.lt).cell 1, (HMW.out.below hW HMW.out.lt).cell 2, (HMW.out.below hW HMW.out.lt).cell 3⟩))
          have HQL := Lib.hid hql; have HQ1 : Hid (ql ≤ 1000000) := Lib.hid (by omega)
          have HGO := Lib.hid hgo
          clear hn4 hn5 hn6 hs4 hs6 hL hql hlen hm0 hmR hmW hmk hgo hwv
          go_upto_region 19 with fail
          go_cut [108] (fun p wx => CutS V p wx)
          case first =>
            go_region_held3 (fun W => W.cell? ⟨mb, 0, none⟩ = some (.int .i64 j) ∧ W.cell? ⟨mb, 1, none⟩ = some (.slice AS6 n4 cS6) ∧ W.cell? ⟨mb, 2, none⟩ = some (.slice AF6 n5 cF6) ∧ W.cell? ⟨mb, 3, none⟩ = some (.slice AC6 n6 cC6))
              (exact KS6.out _ (by first | assumption | exact below_drewN' (Below.refl _ _) 1))
              (first
                | (go_at_call 14; refine (CS.out).mono ?_; rintro e' w6 ⟨rfl, hb6⟩; have F6 := F5.trans (hb6.mono F5.size); clear hb6)
                | (go_at_call 19; refine (CR.out _ F4).mono ?_; rintro e' w5 ⟨u5, rfl, hl5, hb5⟩; have L5 := Lib.hid hl5; obtain ⟨A5, c5, rfl, _⟩ := hl5; have F5 := F4.trans (hb5.mono F4.size); have CS := Lib.hid (same_any HQL.out HQ1.out (L4.out.below hb5 (Nat.le_refl _)) L5.out); clear hb5)
                | (go_at_call 18; refine (CI.out _ (by first | assumption | exact below_drewN' (Below.refl _ _) 1)).mono ?_; rintro e' w4 ⟨A4, c4, rfl, hl4, hb4⟩; have L4 := Lib.hid hl4; have F4 := (below_drewN' (Below.refl V.heap.size V) 1).trans (hb4.mono (Nat.le_refl _)); clear hl4 hb4))
            all_goals
              go_wp2
              go_meet
              exact ⟨rfl, _, rfl, F6⟩
          case rest =>
          obtain ⟨rfl, V7, rfl, hb7⟩ := hcut
          have HREL : Hid (Both V7 w1.heap.size (N + 1) (k + 1) b mb j n' m' V7 ∧ Below w1.heap.size w1 V7) := Lib.hid ⟨⟨R6, T6, _, _, _, rfl, HA6.out.below hb7, HG6.out, HT6.out, HSm6.out, HK6.out, HM6.out.below hb7⟩, HB6.out.trans (hb7.mono HB6.out.size)⟩
          clear hb7 hM6
          go_wp2_with fail
          go_roundg (7 - (q + 1))
          case rel => exact ⟨q + 1, wv + 1, _, by have := HGO.out.2; have := HWV.out; omega, rfl, rfl, by have := HWV.out; omega, HREL.out.1, HREL.out.2⟩
          case measure => have := HGO.out.2; have := HWV.out; omega
        · have HREL : Hid (Both V w1.heap.size (N + 1) (k + 1) b mb j n' m' V) := Lib.hid ⟨R6, T6, _, _, _, rfl, HA6.out, HG6.out, HT6.out, HSm6.out, HK6.out, HM6.out⟩
          have hcs : decide (wv ≤ (j : Int)) = false ∨ (decide (wv ≤ (j : Int)) = true ∧ decide (wv < 6) = false) := by
            by_cases h : wv ≤ (j : Int)
            · exact Or.inr ⟨decide_eq_true h, decide_eq_false (fun h2 => hgo ⟨h, h2⟩)⟩
            · exact Or.inl (decide_eq_false h)
          clear hM6 hgo hwv
          rcases hcs with tA | ⟨tA, tB⟩
          · go_wp2_with fail
            go_roundg (n - (k + 1))
            case rel => exact ⟨k + 1, N + 1, V, n', m', HLT.out, rfl, by go_num, by omega, HREL.out, HB6.out⟩
            case measure => have := HLT.out; omega
          · go_wp2_with fail
            go_roundg (n - (k + 1))
            case rel => exact ⟨k + 1, N + 1, V, n', m', HLT.out, rfl, by go_num, by omega, HREL.out, HB6.out⟩
            case measure => have := HLT.out; omega
    · obtain rfl : k = n := by omega
      have t3 : decide (k < k) = false := decide_eq_false (by omega)
      clear hMV
      go_wp2_with fail
      go_ret
      exact ⟨rfl, HB1.out.trans (HB.out.mono HB1.out.size)⟩
end Go.Proofs.YtbecgfeoacncdaaDoor
