/- NetClones. -/
import Derived.Test.YtbecgfeoacncdaaDoorNetB19
import Derived.Test.YtbecgfeoacncdaaDoorArg19
import Derived.Deep.CutBlock
import Derived.Deep.DeepCutAuto
import Derived.Deep.RegionHeld3
namespace Go.Proofs.YtbecgfeoacncdaaDoor
open Go.RowKit

def Off (R R' : Nat → Prop) : Prop := ∀ k, R k → ¬ R' k
theorem trio_step {wr w4 w6 : World} {base N N' N3 : Nat} {n n' n3 : NetP} {b b2 b3 : Nat} {R R2 R3 R4 R6 : Nat → Prop} (hB : NetB wr base N n b2 R2) (hC : NetB wr base N3 n3 b3 R3) (s12 : Off R R2) (s13 : Off R R3) (s23 : Off R2 R3)
    (hN4 : NetB w4 base N' n' b R4) (hf4 : Fr wr.heap.size R wr w4) (hR4 : ∀ k, R4 k → R k ∨ wr.heap.size ≤ k) (hN6 : NetB w6 base N' n' b2 R6) (hf6 : Fr w4.heap.size R2 w4 w6) (hR6 : ∀ k, R6 k → R2 k ∨ w4.heap.size ≤ k) :
    NetB w6 base N' n' b R4 ∧ NetB w6 base N' n' b2 R6 ∧ NetB w6 base N3 n3 b3 R3 ∧ Off R4 R6 ∧ Off R4 R3 ∧ Off R6 R3 := by
  have hs4 := hf4.size
  have s42 : Off R4 R2 := fun k h1 h2 => by
    rcases hR4 k h1 with h | h
    · exact s12 k h h2
    · have := (hB.foot h2).2; omega
  have s43 : Off R4 R3 := fun k h1 h2 => by
    rcases hR4 k h1 with h | h
    · exact s13 k h h2
    · have := (hC.foot h2).2; omega
  have hC4 := hC.stay hf4 (fun k h1 h2 => s13 k h2 h1)
  refine ⟨hN4.stay hf6 s42, hN6, hC4.stay hf6 (fun k h1 h2 => s23 k h2 h1), fun k h1 h2 => ?_, s43, fun k h1 h2 => ?_⟩
  · rcases hR6 k h2 with h | h
    · exact s42 k h1 h
    · have := (hN4.foot h1).2; omega
  · rcases hR6 k h1 with h | h
    · exact s23 k h h2
    · have := (hC.foot h2).2; omega
theorem duo_step {wr w4 : World} {base N3 : Nat} {n3 : NetP} {b3 : Nat} {R R3 R4 : Nat → Prop} (hC : NetB wr base N3 n3 b3 R3) (s13 : Off R3 R)
    (hf4 : Fr wr.heap.size R wr w4) (hR4 : ∀ k, R4 k → R k ∨ wr.heap.size ≤ k) : NetB w4 base N3 n3 b3 R3 ∧ Off R3 R4 := by
  refine ⟨hC.stay hf4 s13, fun k h1 h2 => ?_⟩
  rcases hR4 k h2 with h | h
  · exact s13 k h1 h
  · have := (hC.foot h1).2; omega
/-- What both calls of a round leave. -/
def CutC (base N N3 : Nat) (n n3 : NetP) (b b2 b3 : Nat) (R3 : Nat → Prop) (w : World) (x : Value) (w' : World) : Prop :=
  x = .bool false ∧ ∃ R R2, NetB w' base N n b R ∧ NetB w' base N n b2 R2 ∧ NetB w' base N3 n3 b3 R3 ∧ Off R R2 ∧ Off R R3 ∧ Off R2 R3 ∧ Below base w w'
/-- A letter sent into a fresh net. -/
def SentX (base : Nat) (b : Nat) (w : World) (e : Ending) (w' : World) : Prop :=
  e = .returned .nilIface ∧ ∃ R, NetB w' base 1 (sendP (freshP 3) 2 0 ⟨#[120]⟩) b R ∧ Below base w w'
theorem sendx_b {w : World} {base : Nat} {b : Nat} {R : Nat → Prop} (h : NetB w base 0 (freshP 3) b R) (hbase : base ≤ w.heap.size) :
    Calls Tryd.prog 24 #[.pointer (some ⟨b, 0, none⟩), .int .i64 2, .int .i64 0, .string ⟨#[120]⟩] w (SentX base b w) := by
  obtain ⟨mb, cb, v, F, G, h, rfl⟩ := h
  refine (send_good h 2 0 ⟨#[120]⟩ (by decide) (by decide) (by decide) (by decide) (by decide) (by decide) (by decide) (by decide)).mono ?_
  rintro e w' ⟨rfl, hl⟩
  have hgo := hl.go h hbase
  obtain ⟨v', F', G', hN', _, _⟩ := hl
  exact ⟨rfl, _, ⟨mb, cb, v', F', G', hN', rfl⟩, hgo⟩
/-- The one letter of that net. -/
def OneTo (w : World) (e : Ending) (w' : World) : Prop :=
  Below w.heap.size w w' ∧ ∃ g c, e = .returned (.slice (some ⟨g, 0, none⟩) 1 c) ∧ w'.cell? ⟨g, 2, none⟩ = some (.int .i64 0)
theorem flyx_b {w : World} {base : Nat} {b : Nat} {R : Nat → Prop} (h : NetB w base 1 (sendP (freshP 3) 2 0 ⟨#[120]⟩) b R) :
    Calls Tryd.prog 15 #[.pointer (some ⟨b, 0, none⟩)] w (OneTo w) := by
  refine (flying_any h.at (by decide)).mono ?_
  rintro e w' ⟨v', rfl, ho, hb⟩
  have h0 := ho
  rcases ho.2 with ⟨_, h2⟩ | ⟨g, cap, cur, rfl, hg, hh, _⟩
  · cases h2
  · exact ⟨hb, g, cap, rfl, h0.cellAt 2 (by decide)⟩
set_option maxRecDepth 100000 in
set_option maxHeartbeats 8000000 in
theorem clones_law {w : World} (hg : ErrT w) {v u : Value} {S T : List Let} (hS : LetsAt w v S) (hT : LetsAt w u T) (hlen : S.length ≤ 9223372036854775807) (hlenT : T.length ≤ 9223372036854775807) :
    Calls Tryd.prog 5 #[v, u] w fun e w' => e = .returned (.bool true) ∧ Below w.heap.size w w' := by
  have AL := Lib.hid (alive_ok w hg)
  have HG := Lib.hid hg; have HS := Lib.hid hS; have HT := Lib.hid hT; have HLEN := Lib.hid hlen; have HLENT := Lib.hid hlenT
  obtain ⟨A, c, rfl, _⟩ := hS
  obtain ⟨A', c', rfl, _⟩ := hT
  obtain ⟨n, hnn⟩ : ∃ n, S.length = n := ⟨_, rfl⟩
  obtain ⟨m, hmm⟩ : ∃ n, T.length = n := ⟨_, rfl⟩
  have HN := Lib.hid hnn; have HM := Lib.hid hmm
  rw [hnn] at HS hlen ⊢
  rw [hmm] at HT hlenT ⊢
  clear hg hnn hmm
  go_enter Tryd.func5, Tryd.ntmps5
  go_wp2_with fail
  refine AL.out.mono ?_
  rintro e w1 ⟨rfl, hb1⟩
  have FR := Lib.hid (far_any (HS.out.below hb1 (Nat.le_refl _)) HLEN.out)
  have FT := Lib.hid (far_any (HT.out.below hb1 (Nat.le_refl _)) HLENT.out)
  have HB1 := Lib.hid hb1
  clear hb1
  rw [HN.out] at FR
  rw [HM.out] at FT
  go_wp2_with fail
  refine FR.out.mono ?_
  rintro e w2 ⟨z, rfl, hw, hz⟩
  obtain rfl := hw.symm
  have HZ := Lib.hid hz
  clear hz hw
  cases z with
  | true =>
    go_wp2_with fail
    go_ret
    exact ⟨rfl, HB1.out⟩
  | false =>
  go_wp2_with fail
  refine FT.out.mono ?_
  rintro e w2 ⟨z, rfl, hw, hz⟩
  obtain rfl := hw.symm
  have HZ2 := Lib.hid hz
  clear hz hw
  cases z with
  | true =>
    go_wp2_with fail
    go_ret
    exact ⟨rfl, HB1.out⟩
  | false =>
  obtain ⟨h60, _⟩ := HZ.out (by first | rfl | trivial)
  obtain ⟨h61, _⟩ := HZ2.out (by first | rfl | trivial)
  have HNEW := Lib.hid (new_b (w := w1) (base := w1.heap.size) (Nat.le_refl _))
  clear hlen hlenT
  go_wp2_with fail
  refine HNEW.out.mono ?_
  rintro e w2 ⟨_, rfl, b, R0, rfl, hN, _, hb2⟩
  have HN1 := Lib.hid hN; have HB2 := Lib.hid hb2
  clear hN hb2
  go_wp2_with fail
  go_loopg [7] n (fun g y wr => ∃ (k : Nat) (nn : NetP) (R : Nat → Prop), k ≤ n ∧ g = n - k ∧ y = .int .i64 (k : Nat) ∧ NetB wr w1.heap.size k nn b R ∧ Good nn k ∧ nn = runN (freshP 3) (S.take k) ∧ Below w1.heap.size w1 wr)
  case atStart => exact ⟨0, _, R0, Nat.zero_le _, rfl, rfl, HN1.out, Good.fresh (by decide), rfl, HB2.out⟩
  case round =>
    obtain ⟨k, nn, R, hk, rfl, rfl, hN, hGd, hrun, hB⟩ := hrel
    by_cases hlt : k < n
    · obtain ⟨sb, off, rfl, e0, e1, e2, e3⟩ := (HS.out.below (HB1.out.trans (hB.mono HB1.out.size)) (Nat.le_refl _)).pos (i := k) (by rw [HN.out]; exact hlt)
      obtain ⟨⟨f, t, s, x⟩, hl⟩ : ∃ l, S[k]'(by rw [HN.out]; exact hlt) = l := ⟨_, rfl⟩
      rw [hl] at e0 e1 e2 e3
      simp only at e0 e1 e2 e3
      have HGG : Hid (∀ W, Below w1.heap.size wr W → ErrT W) := fun W hW => HG.out.below (HB1.out.trans ((hB.trans hW).mono HB1.out.size)) (Nat.le_refl _)
      have hdo := do_b hN hGd (by omega) (by omega) hB.size HGG.out f t s x
      have hst := hGd.step (by omega) f t s x
      have hrn : (stepP nn f t s x).1 = runN (freshP 3) (S.take (k + 1)) := by
        rw [List.take_succ_eq_append_getElem (by rw [HN.out]; exact hlt), hl, runN_snoc, ← hrun]
      obtain ⟨n', hn'⟩ : ∃ n', (stepP nn f t s x).1 = n' := ⟨_, rfl⟩
      obtain ⟨cd, hcd⟩ : ∃ n', (stepP nn f t s x).2 = n' := ⟨_, rfl⟩
      rw [hn'] at hdo hst hrn
      rw [hcd] at hdo
      have HDO := Lib.hid hdo; have HST := Lib.hid hst; have HRN := Lib.hid hrn; have HB := Lib.hid hB; have HLT := Lib.hid hlt
      have t3 : decide (k < n) = true := decide_eq_true hlt
      have t3' : decide ((k : Int) < (n : Int)) = true := decide_eq_true (by omega)
      have i1 : (k : Int) < n := by omega
      have i2 : (0 : Int) ≤ k := by omega
      clear hN hGd hrun hB hl hdo hst hrn hn' hcd
      go_wp2_with fail
      refine HDO.out.mono ?_; rintro e w4 ⟨rfl, R4, hN4, _, _, hb4⟩
      have HREL := Lib.hid (And.intro hN4 (HB.out.trans hb4))
      clear hN4 hb4
      go_wp2_with fail
      go_roundg (n - (k + 1))
      case rel => exact ⟨k + 1, n', R4, HLT.out, rfl, by go_num, HREL.out.1, HST.out, HRN.out, HREL.out.2⟩
      case measure => have := HLT.out; omega
    · obtain rfl : k = n := by omega
      rw [List.take_of_length_le (by rw [HN.out]; exact Nat.le_refl _)] at hrun
      have hk3 : nn.k = 3 := by rw [hrun, runN_k]; rfl
      have HK3 := Lib.hid hk3; have HRUN := Lib.hid hrun; have HGD := Lib.hid hGd; have HA := Lib.hid hN; have HB := Lib.hid hB
      have CL1 := Lib.hid (clone_b hN (by have := hGd.fl; omega) hB.size)
      have t3 : decide (k < k) = false := decide_eq_false (by omega)
      clear hN hGd hrun hB hk3
      go_wp2_with fail
      refine CL1.out.mono ?_; rintro e w3 ⟨_, rfl, b2, R2, rfl, hN2, hR2, hb3⟩
      have hA3 := HA.out.below hb3
      have hB3 := HB.out.trans (hb3.mono HB.out.size)
      have CL2 := Lib.hid (clone_b hA3 (by have := HGD.out.fl; omega) hB3.size)
      have HR2 := Lib.hid hR2; have HN2 := Lib.hid hN2; have HB3 := Lib.hid hB3; have HA3 := Lib.hid hA3; have HSZ := Lib.hid hb3.size
      clear hN2 hR2 hb3 hA3 hB3
      go_wp2_with fail
      refine CL2.out.mono ?_; rintro e w5 ⟨_, rfl, b3, R3, rfl, hN3, hR3, hb5⟩
      have HA5 := Lib.hid (HA3.out.below hb5); have HB5 := Lib.hid (HB3.out.trans (hb5.mono HB3.out.size)); have HN25 := Lib.hid (HN2.out.below hb5); have HN35 := Lib.hid hN3
      have S12 : Hid (Off R R2) := Lib.hid (fun k h1 h2 => by have a1 := (HA.out.foot h1).2; have a2 := HR2.out k h2; omega)
      have S13 : Hid (Off R R3) := Lib.hid (fun k h1 h2 => by have a1 := (HA.out.foot h1).2; have a2 := hR3 k h2; have a3 := HSZ.out; omega)
      have S23 : Hid (Off R2 R3) := Lib.hid (fun k h1 h2 => by have a1 := (HN2.out.foot h1).2; have a2 := hR3 k h2; omega)
      clear hN3 hR3 hb5
      go_wp2_with fail
      go_loopg [10] m (fun g y wr => ∃ (q : Nat) (na : NetP) (R R2 : Nat → Prop), q ≤ m ∧ g = m - q ∧ y = .int .i64 (q : Nat) ∧ NetB wr w1.heap.size (k + q) na b R ∧ NetB wr w1.heap.size (k + q) na b2 R2 ∧ NetB wr w1.heap.size k nn b3 R3 ∧ Off R R2 ∧ Off R R3 ∧ Off R2 R3 ∧ Good na (k + q) ∧ na.k = 3 ∧ Below w1.heap.size w1 wr)
      case atStart => exact ⟨0, nn, R, R2, Nat.zero_le _, rfl, rfl, HA5.out, HN25.out, HN35.out, S12.out, S13.out, S23.out, HGD.out, HK3.out, HB5.out⟩
      case round =>
        obtain ⟨q, na, Ra, Rb, hq, rfl, rfl, hA, hBn, hC, s12, s13, s23, hGd, hk3, hB⟩ := hrel
        have HAA := Lib.hid hA; have HBB := Lib.hid hBn; have HCC := Lib.hid hC; have Q12 := Lib.hid s12; have Q13 := Lib.hid s13; have Q23 := Lib.hid s23; have HGD2 := Lib.hid hGd; have HKA := Lib.hid hk3; have HBQ := Lib.hid hB
        clear hA hBn hC s12 s13 s23 hGd hk3 hB
        by_cases hlt : q < m
        · have hpos := (HT.out.below (HB1.out.trans (HBQ.out.mono HB1.out.size)) (Nat.le_refl _)).pos (i := q) (by rw [HM.out]; exact hlt)
          have hpos2 := fun (W : World) (hW : Below w1.heap.size wr W) => (HT.out.below (HB1.out.trans ((HBQ.out.trans hW).mono HB1.out.size)) (Nat.le_refl _)).pos (i := q) (by rw [HM.out]; exact hlt)
          obtain ⟨sb, off, hAA', e0, e1, e2, e3⟩ := hpos
          subst hAA'
          obtain ⟨⟨f, t, s, x⟩, hl⟩ : ∃ l, T[q]'(by rw [HM.out]; exact hlt) = l := ⟨_, rfl⟩
          rw [hl] at e0 e1 e2 e3 hpos2
          simp only at e0 e1 e2 e3 hpos2
          have KS : Hid (∀ W, Below w1.heap.size wr W → (Below w1.heap.size wr W ∧ W.cell? ⟨sb, off + q * 4, none⟩ = some (.int .i64 f) ∧ W.cell? ⟨sb, off + q * 4 + 1, none⟩ = some (.int .i64 t) ∧ W.cell? ⟨sb, off + q * 4 + 2, none⟩ = some (.int .i64 s) ∧ W.cell? ⟨sb, off + q * 4 + 3, none⟩ = some (.string x))) := by
            refine Lib.hid (fun W hW => ?_)
            obtain ⟨sb', off', hz, g0, g1, g2, g3⟩ := hpos2 W hW
            injection hz with hz
            injection hz with z1 z2
            subst z1 z2
            exact ⟨hW, g0, g1, g2, g3⟩
          have HGG : Hid (∀ W, Below w1.heap.size wr W → ErrT W) := fun W hW => HG.out.below (HB1.out.trans ((HBQ.out.trans hW).mono HB1.out.size)) (Nat.le_refl _)
          obtain ⟨n', hn'⟩ : ∃ n', (stepP na f t s x).1 = n' := ⟨_, rfl⟩
          obtain ⟨cd, hcd⟩ : ∃ n', (stepP na f t s x).2 = n' := ⟨_, rfl⟩
          have hkb : k + q ≤ 1000 := by omega
          have HKB := Lib.hid hkb
          have hd1 : ∀ W, Below w1.heap.size wr W → w1.heap.size ≤ W.heap.size → NetB W w1.heap.size (k + q) na b Ra → Calls Tryd.prog 13 #[.pointer (some ⟨b, 0, none⟩), .agg #[.int .i64 f, .int .i64 t, .int .i64 s, .string x]] W (DoB w1.heap.size (k + q + 1) n' cd b Ra W) := by
            intro W hW hz hN
            have := do_b hN HGD2.out HKB.out HKB.out hz (fun X hX => HGG.out X (hW.trans hX)) f t s x
            rwa [hn', hcd] at this
          have hd2 : ∀ W, Below w1.heap.size wr W → w1.heap.size ≤ W.heap.size → NetB W w1.heap.size (k + q) na b2 Rb → Calls Tryd.prog 13 #[.pointer (some ⟨b2, 0, none⟩), .agg #[.int .i64 f, .int .i64 t, .int .i64 s, .string x]] W (DoB w1.heap.size (k + q + 1) n' cd b2 Rb W) := by
            intro W hW hz hN
            have := do_b hN HGD2.out HKB.out HKB.out hz (fun X hX => HGG.out X (hW.trans hX)) f t s x
            rwa [hn', hcd] at this
          have hst := HGD2.out.step HKB.out f t s x
          rw [hn'] at hst
          have hka : n'.k = 3 := by rw [← hn', stepP_k]; exact HKA.out
          have HD1 := Lib.hid hd1; have HD2 := Lib.hid hd2; have HST := Lib.hid hst; have HKA' := Lib.hid hka; have HLT := Lib.hid hlt
          have t3 : decide (q < m) = true := decide_eq_true hlt
          have t3' : decide ((q : Int) < (m : Int)) = true := decide_eq_true (by omega)
          have i1 : (q : Int) < m := by omega
          have i2 : (0 : Int) ≤ q := by omega
          clear hpos2 hl hn' hcd hkb hd1 hd2 hst hka
          go_upto_region 14 with fail
          go_cut [66] (fun x wx => CutC w1.heap.size (k + q + 1) k n' nn b b2 b3 R3 wr x wx)
          case first =>
            go_region_held3 (fun W => Below w1.heap.size wr W ∧ W.cell? ⟨sb, off + q * 4, none⟩ = some (.int .i64 f) ∧ W.cell? ⟨sb, off + q * 4 + 1, none⟩ = some (.int .i64 t) ∧ W.cell? ⟨sb, off + q * 4 + 2, none⟩ = some (.int .i64 s) ∧ W.cell? ⟨sb, off + q * 4 + 3, none⟩ = some (.string x))
              (exact KS.out _ (by first | assumption | exact below_drewN' (Below.refl _ _) 1))
              (first
                | (go_at_call 13; refine (HD2.out _ hk4 (Nat.le_trans HBQ.out.size hk4.size) ((HBB.out.below (below_drewN' (Below.refl _ _) 1)).stay hf4 (fun k h1 h2 => Q12.out k h2 h1))).mono ?_; rintro e' w6 ⟨rfl, R6, hN6, hf6, hR6, hb6⟩; have hk6 : Below w1.heap.size wr w6 := hk4.trans hb6)
                | (go_at_call 13; refine (HD1.out _ (by exact below_drewN' (Below.refl _ _) 1) (by exact HBQ.out.size) (by exact HAA.out.below (below_drewN' (Below.refl _ _) 1))).mono ?_; rintro e' w4 ⟨rfl, R4, hN4, hf4, hR4, hb4⟩; have hk4 : Below w1.heap.size wr w4 := (below_drewN' (Below.refl _ _) 1).trans hb4))
            all_goals
              have HFIN := Lib.hid (trio_step (HBB.out.below (below_drewN' (Below.refl _ _) 1)) (HCC.out.below (below_drewN' (Below.refl _ _) 1)) Q12.out Q13.out Q23.out hN4 hf4 hR4 hN6 hf6 hR6)
              clear hN4 hf4 hR4 hN6 hf6 hR6
              go_wp2
              go_meet
              obtain ⟨p1, p2, p3, p4, p5, p6⟩ := HFIN.out
              exact ⟨rfl, _, _, p1, p2, p3, p4, p5, p6, hk6⟩
          case rest =>
            obtain ⟨rfl, R4, R6, p1, p2, p3, p4, p5, p6, hk6⟩ := hcut
            have HREL := Lib.hid (And.intro p1 (And.intro p2 (And.intro p3 (And.intro p4 (And.intro p5 (And.intro p6 (HBQ.out.trans hk6)))))))
            clear p1 p2 p3 p4 p5 p6 hk6 e0 e1 e2 e3
            go_wp2_with fail
            go_roundg (m - (q + 1))
            case rel => exact ⟨q + 1, n', R4, R6, HLT.out, rfl, by go_num, HREL.out.1, HREL.out.2.1, HREL.out.2.2.1, HREL.out.2.2.2.1, HREL.out.2.2.2.2.1, HREL.out.2.2.2.2.2.1, HST.out, HKA'.out, HREL.out.2.2.2.2.2.2⟩
            case measure => have := HLT.out; omega
        · obtain rfl : q = m := by omega
          obtain ⟨lf, hlf⟩ : ∃ l, na.fly.length = l := ⟨_, rfl⟩
          obtain ⟨zm, hzm⟩ : ∃ l, na.miss = l := ⟨_, rfl⟩
          obtain ⟨li, hli⟩ : ∃ l, (inboxL na 1 na.k).length = l := ⟨_, rfl⟩
          have hf1000 : na.fly.length ≤ 1000000 := by have := HGD2.out.fl; omega
          have HFLY := Lib.hid (fun (W : World) (b : Nat) (R : Nat → Prop) (h : NetB W w1.heap.size (k + q) na b R) => flying_b h hf1000 hlf)
          have HMIS := Lib.hid (fun (W : World) (b : Nat) (R : Nat → Prop) (h : NetB W w1.heap.size (k + q) na b R) => missing_b h hzm)
          have HINB := Lib.hid (fun (W : World) (b : Nat) (R : Nat → Prop) (h : NetB W w1.heap.size (k + q) na b R) => inbox_b h 1 (by have := HGD2.out.k; omega) (by unfold hasB; rw [HKA.out]; rfl) (fun a => by have := HGD2.out.sn a 1; omega) hli)
          have FL1 := Lib.hid (HFLY.out _ _ _ HAA.out)
          have t3 : decide (q < q) = false := decide_eq_false (by omega)
          clear hlf hzm hli hf1000
          go_wp2_with fail
          refine FL1.out.mono ?_; rintro e x1 ⟨Ax, cx, rfl, hb⟩
          have A1 := Lib.hid (HAA.out.below hb); have B1 := Lib.hid (HBB.out.below hb); have C1 := Lib.hid (HCC.out.below hb); have X1 := Lib.hid (HBQ.out.trans (hb.mono HBQ.out.size))
          have FL2 := Lib.hid (HFLY.out _ _ _ B1.out)
          clear hb
          go_wp2_with fail
          refine FL2.out.mono ?_; rintro e x2 ⟨Ay, cy, rfl, hb⟩
          have A2 := Lib.hid (A1.out.below hb); have B2 := Lib.hid (B1.out.below hb); have C2 := Lib.hid (C1.out.below hb); have X2 := Lib.hid (X1.out.trans (hb.mono X1.out.size))
          have MS1 := Lib.hid (HMIS.out _ _ _ A2.out); have MS2 := Lib.hid (HMIS.out _ _ _ B2.out); have IB1 := Lib.hid (HINB.out _ _ _ A2.out)
          clear hb
          go_wp2_with fail
          refine MS1.out.mono ?_; rintro e x3 ⟨rfl, hw⟩
          obtain rfl := hw.symm
          clear hw
          go_wp2_with fail
          refine MS2.out.mono ?_; rintro e x3 ⟨rfl, hw⟩
          obtain rfl := hw.symm
          clear hw
          go_wp2_with fail
          refine IB1.out.mono ?_; rintro e x3 ⟨Az, cz, rfl, hb⟩
          have A3 := Lib.hid (A2.out.below hb); have B3 := Lib.hid (B2.out.below hb); have C3 := Lib.hid (C2.out.below hb); have X3 := Lib.hid (X2.out.trans (hb.mono X2.out.size))
          have IB2 := Lib.hid (HINB.out _ _ _ B3.out)
          clear hb
          go_wp2_with fail
          refine IB2.out.mono ?_; rintro e x4 ⟨Au, cu, rfl, hb⟩
          have A4 := Lib.hid (A3.out.below hb); have C4 := Lib.hid (C3.out.below hb); have X4 := Lib.hid (X3.out.trans (hb.mono X3.out.size))
          have ND := Lib.hid (new_b (w := x4) X4.out.size)
          clear hb
          go_wp2_with fail
          refine ND.out.mono ?_; rintro e x5 ⟨_, rfl, b4, R4, rfl, hN4, hR4, hb⟩
          have A5 := Lib.hid (A4.out.below hb); have C5 := Lib.hid (C4.out.below hb); have X5 := Lib.hid (X4.out.trans (hb.mono X4.out.size)); have D5 := Lib.hid hN4
          have SA : Hid (Off Ra R4) := Lib.hid (fun j h1 h2 => by have a1 := (A4.out.foot h1).2; have a2 := hR4 j h2; omega)
          have SC : Hid (Off R3 R4) := Lib.hid (fun j h1 h2 => by have a1 := (C4.out.foot h1).2; have a2 := hR4 j h2; omega)
          clear hb hN4 hR4
          go_wp2_with fail
          go_loopg [15] k (fun g y wr => ∃ (i : Nat) (nd : NetP) (R4 : Nat → Prop), i ≤ k ∧ g = k - i ∧ y = .int .i64 (i : Nat) ∧ NetB wr w1.heap.size i nd b4 R4 ∧ Good nd i ∧ nd = runN (freshP 3) (S.take i) ∧ NetB wr w1.heap.size (k + q) na b Ra ∧ NetB wr w1.heap.size k nn b3 R3 ∧ Off Ra R4 ∧ Off R3 R4 ∧ Below w1.heap.size w1 wr)
          case atStart => exact ⟨0, _, R4, Nat.zero_le _, rfl, rfl, D5.out, Good.fresh (by decide), rfl, A5.out, C5.out, SA.out, SC.out, X5.out⟩
          case round =>
            obtain ⟨i, nd, R4, hi, rfl, rfl, hN, hGd, hrun, hA, hC, sA, sC, hB⟩ := hrel
            by_cases hlt : i < k
            · obtain ⟨sb, off, rfl, e0, e1, e2, e3⟩ := (HS.out.below (HB1.out.trans (hB.mono HB1.out.size)) (Nat.le_refl _)).pos (i := i) (by rw [HN.out]; exact hlt)
              obtain ⟨⟨f, t, s, x⟩, hl⟩ : ∃ l, S[i]'(by rw [HN.out]; exact hlt) = l := ⟨_, rfl⟩
              rw [hl] at e0 e1 e2 e3
              simp only at e0 e1 e2 e3
              have HGG : Hid (∀ W, Below w1.heap.size wr W → ErrT W) := fun W hW => HG.out.below (HB1.out.trans ((hB.trans hW).mono HB1.out.size)) (Nat.le_refl _)
              have hdo := do_b hN hGd (by omega) (by omega) hB.size HGG.out f t s x
              have hst := hGd.step (by omega) f t s x
              have hrn : (stepP nd f t s x).1 = runN (freshP 3) (S.take (i + 1)) := by
                rw [List.take_succ_eq_append_getElem (by rw [HN.out]; exact hlt), hl, runN_snoc, ← hrun]
              obtain ⟨n', hn'⟩ : ∃ n', (stepP nd f t s x).1 = n' := ⟨_, rfl⟩
              obtain ⟨cd, hcd⟩ : ∃ n', (stepP nd f t s x).2 = n' := ⟨_, rfl⟩
              rw [hn'] at hdo hst hrn
              rw [hcd] at hdo
              have HDO := Lib.hid hdo; have HST := Lib.hid hst; have HRN := Lib.hid hrn; have HB := Lib.hid hB; have HLT := Lib.hid hlt; have HA' := Lib.hid hA; have HC' := Lib.hid hC; have SA' := Lib.hid sA; have SC' := Lib.hid sC
              have t3 : decide (i < k) = true := decide_eq_true hlt
              have t3' : decide ((i : Int) < (k : Int)) = true := decide_eq_true (by omega)
              have i1 : (i : Int) < k := by omega
              have i2 : (0 : Int) ≤ i := by omega
              clear hN hGd hrun hB hl hdo hst hrn hn' hcd hA hC sA sC
              go_wp2_with fail
              refine HDO.out.mono ?_; rintro e w4 ⟨rfl, R5, hN4, hf4, hR4, hb4⟩
              have hda := duo_step HA'.out SA'.out hf4 hR4
              have hdc := duo_step HC'.out SC'.out hf4 hR4
              have HREL := Lib.hid (And.intro hN4 (And.intro hda (And.intro hdc (HB.out.trans hb4))))
              clear hN4 hb4 hf4 hR4 hda hdc
              go_wp2_with fail
              go_roundg (k - (i + 1))
              case rel => exact ⟨i + 1, n', R5, HLT.out, rfl, by go_num, HREL.out.1, HST.out, HRN.out, HREL.out.2.1.1, HREL.out.2.2.1.1, HREL.out.2.1.2, HREL.out.2.2.1.2, HREL.out.2.2.2⟩
              case measure => have := HLT.out; omega
            · obtain rfl : i = k := by omega
              rw [List.take_of_length_le (by rw [HN.out]; exact Nat.le_refl _), ← HRUN.out] at hrun
              subst hrun
              obtain ⟨lf2, hlf⟩ : ∃ l, nd.fly.length = l := ⟨_, rfl⟩
              obtain ⟨zm2, hzm⟩ : ∃ l, nd.miss = l := ⟨_, rfl⟩
              obtain ⟨li2, hli⟩ : ∃ l, (inboxL nd 2 nd.k).length = l := ⟨_, rfl⟩
              have hf1000 : nd.fly.length ≤ 1000000 := by have := hGd.fl; omega
              have HGD5 := Lib.hid hGd
              have HFL5 := Lib.hid (fun (W : World) (b : Nat) (R : Nat → Prop) (h : NetB W w1.heap.size i nd b R) => flying_b h hf1000 hlf)
              have HMI5 := Lib.hid (fun (W : World) (b : Nat) (R : Nat → Prop) (h : NetB W w1.heap.size i nd b R) => missing_b h hzm)
              have HIN5 := Lib.hid (fun (W : World) (b : Nat) (R : Nat → Prop) (h : NetB W w1.heap.size i nd b R) => inbox_b h 2 (by have := HGD5.out.k; omega) (by unfold hasB; rw [HK3.out]; rfl) (fun a => by have := HGD5.out.sn a 2; omega) hli)
              have K1 := Lib.hid (HFL5.out _ _ _ hC)
              have HA' := Lib.hid hA; have HC' := Lib.hid hC; have HD' := Lib.hid hN; have HB' := Lib.hid hB
              have t3 : decide (i < i) = false := decide_eq_false (by omega)
              clear hlf hzm hli hf1000 hN hGd hA hC sA sC hB
              go_wp2_with fail
              refine K1.out.mono ?_; rintro e y1 ⟨Ax, cx, rfl, hb⟩
              have P1 := Lib.hid (HA'.out.below hb); have C1 := Lib.hid (HC'.out.below hb); have D1 := Lib.hid (HD'.out.below hb); have Y1 := Lib.hid (HB'.out.trans (hb.mono HB'.out.size))
              have K2 := Lib.hid (HFL5.out _ _ _ D1.out)
              clear hb
              go_wp2_with fail
              refine K2.out.mono ?_; rintro e y2 ⟨Ay, cy, rfl, hb⟩
              have P2 := Lib.hid (P1.out.below hb); have C2 := Lib.hid (C1.out.below hb); have D2 := Lib.hid (D1.out.below hb); have Y2 := Lib.hid (Y1.out.trans (hb.mono Y1.out.size))
              have K3 := Lib.hid (HMI5.out _ _ _ C2.out); have K4 := Lib.hid (HMI5.out _ _ _ D2.out); have K5 := Lib.hid (HIN5.out _ _ _ C2.out)
              clear hb
              go_wp2_with fail
              refine K3.out.mono ?_; rintro e y3 ⟨rfl, hw⟩
              obtain rfl := hw.symm
              clear hw
              go_wp2_with fail
              refine K4.out.mono ?_; rintro e y3 ⟨rfl, hw⟩
              obtain rfl := hw.symm
              clear hw
              go_wp2_with fail
              refine K5.out.mono ?_; rintro e y3 ⟨Az, cz, rfl, hb⟩
              have P3 := Lib.hid (P2.out.below hb); have D3 := Lib.hid (D2.out.below hb); have Y3 := Lib.hid (Y2.out.trans (hb.mono Y2.out.size))
              have K6 := Lib.hid (HIN5.out _ _ _ D3.out)
              clear hb
              go_wp2_with fail
              refine K6.out.mono ?_; rintro e y4 ⟨Au, cu, rfl, hb⟩
              have P4 := Lib.hid (P3.out.below hb); have Y4 := Lib.hid (Y3.out.trans (hb.mono Y3.out.size))
              have hnx := next_b P4.out Y4.out.size
              rw [HKA.out] at hnx
              have NX := Lib.hid hnx
              clear hb hnx
              go_wp2_with fail
              refine NX.out.mono ?_; rintro e y5 ⟨_, rfl, b5, R5, rfl, hN5, _, hb⟩
              have Y5 := Lib.hid (Y4.out.trans (hb.mono Y4.out.size))
              have SX := Lib.hid (sendx_b hN5 Y5.out.size)
              clear hb hN5
              go_wp2_with fail
              refine SX.out.mono ?_; rintro e y6 ⟨rfl, R6, hN6, hb⟩
              have Y6 := Lib.hid (Y5.out.trans hb)
              have FX := Lib.hid (flyx_b hN6)
              clear hb hN6
              go_wp2_with fail
              refine FX.out.mono ?_; rintro e y7 ⟨hb, g7, c7, rfl, hc7⟩
              have Y7 := Lib.hid (Y6.out.trans (hb.mono Y6.out.size))
              have N1 := Lib.hid (send_nil 0 0 ⟨#[]⟩ y7)
              clear hb
              go_wp2_with fail
              refine N1.out.mono ?_; rintro e y8 ⟨hb, u8, rfl, hf8⟩
              have Y8 := Lib.hid (Y7.out.trans (hb.mono Y7.out.size))
              have G1 := Lib.hid (code_f7 hf8 (HG.out.below (HB1.out.trans (Y8.out.mono HB1.out.size)) (Nat.le_refl _)))
              obtain ⟨p8, s8, rfl, _⟩ := id hf8
              clear hb hf8 hc7
              go_wp2_with fail
              refine G1.out.mono ?_; rintro e y9 ⟨rfl, hb⟩
              have Y9 := Lib.hid (Y8.out.trans (hb.mono Y8.out.size))
              have N2 := Lib.hid (double_nil 0 y9)
              clear hb
              go_wp2_with fail
              refine N2.out.mono ?_; rintro e y10 ⟨hb, u10, rfl, hf10⟩
              have Y10 := Lib.hid (Y9.out.trans (hb.mono Y9.out.size))
              have G2 := Lib.hid (code_f7 hf10 (HG.out.below (HB1.out.trans (Y10.out.mono HB1.out.size)) (Nat.le_refl _)))
              obtain ⟨p10, s10, rfl, _⟩ := id hf10
              clear hb hf10
              go_wp2_with fail
              refine G2.out.mono ?_; rintro e y11 ⟨rfl, hb⟩
              have Y11 := Lib.hid (Y10.out.trans (hb.mono Y10.out.size))
              have N3 := Lib.hid (deliver_nil 0 y11)
              clear hb
              go_wp2_with fail
              refine N3.out.mono ?_; rintro e y12 ⟨hb, u12, rfl, hf12⟩
              have Y12 := Lib.hid (Y11.out.trans (hb.mono Y11.out.size))
              have G3 := Lib.hid (code_f7 hf12 (HG.out.below (HB1.out.trans (Y12.out.mono HB1.out.size)) (Nat.le_refl _)))
              obtain ⟨p12, s12, rfl, _⟩ := id hf12
              clear hb hf12
              go_wp2_with fail
              refine G3.out.mono ?_; rintro e y13 ⟨rfl, hb⟩
              have Y13 := Lib.hid (Y12.out.trans (hb.mono Y12.out.size))
              have Z1 := Lib.hid (quiet_nil y13); have Z2 := Lib.hid (missing_nil y13); have Z3 := Lib.hid (flying_nil y13); have Z4 := Lib.hid (inbox_nil 0 y13); have Z5 := Lib.hid (next_nil y13); have Z6 := Lib.hid (clone_nil y13)
              clear hb
              go_wp2_with fail
              refine Z1.out.mono ?_; rintro e y14 ⟨rfl, hw⟩
              obtain rfl := hw.symm
              clear hw
              go_wp2_with fail
              refine Z2.out.mono ?_; rintro e y14 ⟨rfl, hw⟩
              obtain rfl := hw.symm
              clear hw
              go_wp2_with fail
              refine Z3.out.mono ?_; rintro e y14 ⟨rfl, hw⟩
              obtain rfl := hw.symm
              clear hw
              go_wp2_with fail
              refine Z4.out.mono ?_; rintro e y14 ⟨rfl, hw⟩
              obtain rfl := hw.symm
              clear hw
              go_wp2_with fail
              refine Z5.out.mono ?_; rintro e y14 ⟨rfl, hw⟩
              obtain rfl := hw.symm
              clear hw
              go_wp2_with fail
              refine Z6.out.mono ?_; rintro e y14 ⟨rfl, hw⟩
              obtain rfl := hw.symm
              clear hw
              go_wp2_with fail
              go_ret
              exact ⟨rfl, HB1.out.trans (Y13.out.mono HB1.out.size)⟩
end Go.Proofs.YtbecgfeoacncdaaDoor
