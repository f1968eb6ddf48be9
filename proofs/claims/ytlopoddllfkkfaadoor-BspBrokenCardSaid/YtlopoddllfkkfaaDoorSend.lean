/- net: Send. -/
import Derived.Test.YtlopoddllfkkfaaDoorNetF
import Derived.Deep.CutBlock
import Derived.Deep.DeepCutAuto
import Derived.Deep.RegionHeld3
import Derived.Deep.DrawnRows
namespace Go.Proofs.YtlopoddllfkkfaaDoor
open Go.RowKit

set_option maxRecDepth 100000 in
theorem send_bad {w : World} {base N : Nat} {n : NetP} {b mb cb : Nat} {v : Value} {F G : Value → Option Value} (h : NetIn w base N n b mb cb v F G) (a c : Int) (x : ByteArray) (hbad : (hasB n.k a && hasB n.k c) = false) :
    Calls Tryd.prog 33 #[.pointer (some ⟨b, 0, none⟩), .int .i64 a, .int .i64 c, .string x] w fun e w' => (∃ u, e = .returned u ∧ FaultAt 3 0 w' u) ∧ Below w.heap.size w w' := by
  have H1 := Lib.hid (has_any h a); have H2 := Lib.hid (has_any h c)
  have HF := Lib.hid (new_any 3 0 ⟨#[119, 111, 114, 107, 101, 114]⟩ w)
  have HB : Hid (Below w.heap.size w (w.alloc (.cells #[.int .i64 3, .int .i64 0, .string ⟨#[119, 111, 114, 107, 101, 114]⟩] 72))) := Lib.hid ((Below.refl _ _).alloc (Nat.le_refl _) _)
  have HW := Lib.hid (Whole.new w 72 #[.int .i64 3, .int .i64 0, .string ⟨#[119, 111, 114, 107, 101, 114]⟩])
  obtain ⟨z1, hz1⟩ : ∃ z, hasB n.k a = z := ⟨_, rfl⟩
  obtain ⟨z2, hz2⟩ : ∃ z, hasB n.k c = z := ⟨_, rfl⟩
  rw [hz1] at H1 hbad
  rw [hz2] at H2 hbad
  clear h hz1 hz2
  cases z1 with
  | false =>
    go_enter Tryd.func33, Tryd.ntmps33
    go_wp2_with fail
    refine H1.out.mono ?_; rintro e w1 ⟨rfl, hw⟩; obtain rfl := hw.symm
    go_wp2_with fail
    refine HF.out.mono ?_; rintro e w1 ⟨rfl, rfl⟩
    go_wp2_with fail
    go_ret
    exact ⟨⟨_, rfl, _, _, rfl, HW.out⟩, HB.out⟩
  | true =>
    obtain rfl : z2 = false := by simpa using hbad
    go_enter Tryd.func33, Tryd.ntmps33
    go_wp2_with fail
    refine H1.out.mono ?_; rintro e w1 ⟨rfl, hw⟩; obtain rfl := hw.symm
    go_wp2_with fail
    refine H2.out.mono ?_; rintro e w1 ⟨rfl, hw⟩; obtain rfl := hw.symm
    go_wp2_with fail
    refine HF.out.mono ?_; rintro e w1 ⟨rfl, rfl⟩
    go_wp2_with fail
    go_ret
    exact ⟨⟨_, rfl, _, _, rfl, HW.out⟩, HB.out⟩

/-- A world, by its letter. -/
def IsW (W w : World) : Prop := w = W
/-- What a call leaves of a net. -/
def Left (w : World) (base N : Nat) (n : NetP) (b mb cb : Nat) (v : Value) (w' : World) : Prop :=
  ∃ v' F' G', NetIn w' base N n b mb cb v' F' G' ∧ Fr w.heap.size (Foot b mb cb v) w w' ∧ (v'.ownBlock = v.ownBlock ∨ ∃ g, v'.ownBlock = some g ∧ w.heap.size ≤ g)

set_option maxRecDepth 100000 in
set_option maxHeartbeats 4000000 in
theorem send_good {w : World} {base N : Nat} {n : NetP} {b mb cb : Nat} {v : Value} {F G : Value → Option Value} (h : NetIn w base N n b mb cb v F G) (a c : Int) (x : ByteArray) (hk : n.k ≤ 64) (ha : hasB n.k a = true) (hc : hasB n.k c = true) (hN : N ≤ 100000) (hfl : n.fly.length ≤ 100000) (hs1 : n.sent a c ≤ 100000) (hm1 : -100000 ≤ n.miss) (hm2 : n.miss ≤ 100000) :
    Calls Tryd.prog 33 #[.pointer (some ⟨b, 0, none⟩), .int .i64 a, .int .i64 c, .string x] w fun e w' => e = .returned .nilIface ∧ Left w base (N + 1) (sendP n a c x) b mb cb v w' := by
  obtain ⟨i0, hi0, hz0, hz1, hz2⟩ := info_parts Tryd.infoNL
  have H1 := has_any h a
  have H2 := has_any h c
  rw [ha] at H1
  rw [hc] at H2
  obtain ⟨kl, hkl⟩ := key_route (hasB_in hk ha).1 (hasB_in hk hc).1
  obtain ⟨A, cap, hv, hcap⟩ := h.fly
  obtain ⟨s, hs⟩ : ∃ s, n.sent a c = s := ⟨_, rfl⟩
  obtain ⟨m, hm⟩ : ∃ m, n.miss = m := ⟨_, rfl⟩
  rw [hs] at hs1
  rw [hm] at hm1 hm2
  -- the key's box
  have hb1 : Below w.heap.size w (w.alloc (.cells #[.int .i64 a, .int .i64 c] 95)) := (Below.refl _ _).alloc (Nat.le_refl _) _
  have hrb := Whole.new w 95 #[.int .i64 a, .int .i64 c]
  obtain ⟨w1, hw1⟩ : ∃ W, w.alloc (.cells #[.int .i64 a, .int .i64 c] 95) = W := ⟨_, rfl⟩
  obtain ⟨rb, hrbn⟩ : ∃ B, w.heap.size = B := ⟨_, rfl⟩
  rw [hw1] at hb1 hrb
  have h1 := h.below hb1 (Nat.le_refl _)
  have hfoot := fun k (hk : Foot b mb cb v k) => (h.foot hk).2
  rw [hrbn] at hrb
  have hsz1 : w1.heap.size = rb + 1 := by rw [← hw1, World.size_alloc, hrbn]
  have hlook : ∀ W, MapF W 95 mb N F → (Instr.lookup 96 (.map (some mb)) (.agg #[.int .i64 a, .int .i64 c]) false).run Tryd.prog W = .ok (.int .i64 s) W := fun W hW => by
    have hh := hW.look route_keyed Tryd.underlying96 zero_int hkl
    rw [h.fs a c, hs] at hh
    exact hh
  have hn1 : b ≠ rb := by have := hfoot b (Or.inl rfl); omega
  have hn2 : rb ≠ mb := by have := hfoot mb (Or.inr (Or.inl rfl)); omega
  have hn3 : rb ≠ cb := by have := hfoot cb (Or.inr (Or.inr (Or.inl rfl))); omega
  have hn4 : v.ownBlock ≠ some rb := fun e => by have := hfoot rb (Or.inr (Or.inr (Or.inr e))); omega
  subst hv
  -- the letter, laid
  have hl0 : ∀ j, j < 1 * 4 → ((w1.alloc (.cells #[.int .i64 a, .int .i64 c, .int .i64 s, .string x] 83)).drew).cell? ⟨w1.heap.size, 0 + j, none⟩ = (letsC [⟨a, c, s, x⟩])[j]? := fun j hj => by
    have hW := (Whole.new w1 83 #[.int .i64 a, .int .i64 c, .int .i64 s, .string x]).drewN 1
    rw [Nat.zero_add]
    refine (hW.cell j).trans ?_
    rw [letsC_one]
    simp [letC]
  have hb2 : Below w1.heap.size w1 ((w1.alloc (.cells #[.int .i64 a, .int .i64 c, .int .i64 s, .string x] 83)).drew) := below_drewN' ((Below.refl _ _).alloc (Nat.le_refl _) _) 1
  have h2 := h1.below hb2 (Nat.le_refl _)
  have hrb2 := hrb.below hb2 hrb.lt
  obtain ⟨v3, w3, happ, hfly3, hgrow3, hloc3, _⟩ := h2.fly.app (P := Tryd.prog) (T := [⟨a, c, s, x⟩]) (m := 1) 78 78 83 i0 (letV letZ) Tryd.underlying78 hi0 hz0 rfl hz1 hz2 rfl hl0 1 (by omega) (Nat.le_trans h1.bb (Nat.le_of_lt h2.whole.lt))
  have hb3 : b < ((w1.alloc (.cells #[.int .i64 a, .int .i64 c, .int .i64 s, .string x] 83)).drew).heap.size := h2.whole.lt
  have hw3 : Whole w3 b 99 #[.int .i64 n.k, .slice A n.fly.length cap, .map (some mb), .map (some cb), .int .i64 n.miss] := h2.whole.grown hgrow3 (fun e => h.v1 e.symm)
  have hrb3 := hrb2.grown hgrow3 (fun e => hn4 e.symm)
  have hm3 := h2.sent.kept hgrow3 (fun e => h.v2 e.symm)
  have hc3 := h2.came.kept hgrow3 (fun e => h.v3 e.symm)
  have hv3b : v3.ownBlock ≠ some b ∧ v3.ownBlock ≠ some mb ∧ v3.ownBlock ≠ some cb ∧ v3.ownBlock ≠ some rb := by
    rcases hloc3 with e | ⟨g, e, hg⟩
    · rw [e]; exact ⟨h.v1, h.v2, h.v3, hn4⟩
    · have hbig := hb2.size
      rw [e]
      refine ⟨fun e => ?_, fun e => ?_, fun e => ?_, fun e => ?_⟩
      all_goals
        injection e with e
        subst e
      · exact absurd hb3 (by omega)
      · have := h2.sent.lt; omega
      · have := h2.came.lt; omega
      · have := hrb2.lt; omega
  have hw4 := hw3.put 1 v3
  have hgr4 := grown_cell w3 b 1 v3
  have hf4 := hfly3.kept hgr4 (Or.inr hv3b.1)
  have hm4 := hm3.kept hgr4 (fun e => h.n1 (by injection e with e; exact e.symm))
  have hc4 := hc3.kept hgr4 (fun e => h.n2 (by injection e with e; exact e.symm))
  have hrb4 := hrb3.grown hgr4 (fun e => hn1 (by injection e with e; exact e.symm))
  obtain ⟨w4, hw4n⟩ : ∃ W, w3.setCell ⟨b, 1, none⟩ v3 = W := ⟨_, rfl⟩
  rw [hw4n] at hw4 hgr4 hf4 hm4 hc4 hrb4
  -- the number, one more
  obtain ⟨v0, st, w5, F1, hme, hF1, hF1k, hgr5, hthen⟩ := (hm4.drewN 1).entry route_law Tryd.underlying96 zero_int (by omega) hkl
  obtain ⟨w6, F3, hes, hF3, hF3k, hF3o, hgr6⟩ := hthen w5 (.int .i64 (s + 1)) rfl
  have hd4 : Below w4.heap.size w4 (w4.drewN 1) := below_drewN' (Below.refl _ _) 1
  have hw5 := (hw4.drewN 1).grown hgr5 (fun e => h.n1 (by injection e))
  have hw6 := hw5.grown hgr6 (fun e => h.n1 (by injection e))
  have hrb5 := (hrb4.drewN 1).grown hgr5 (fun e => hn2 (by injection e))
  have hf6 := ((hf4.below hd4 (Nat.le_refl _)).kept hgr5 (Or.inr hv3b.2.1)).kept hgr6 (Or.inr hv3b.2.1)
  have hc6 := ((hc4.drewN 1).kept hgr5 (fun e => h.n3 (by injection e with e; exact e.symm))).kept hgr6 (fun e => h.n3 (by injection e with e; exact e.symm))
  have hlook5 : (Instr.lookup 96 (.map (some mb)) (.agg #[.int .i64 a, .int .i64 c]) false).run Tryd.prog w5 = .ok (.int .i64 s) w5 := by
    have hh := hF1.look route_keyed Tryd.underlying96 zero_int hkl
    rw [hF1k, h.fs a c, hs] at hh
    exact hh
  have hw7 := hw6.put 4 (.int .i64 (m + 1))
  have hgr7 := grown_cell w6 b 4 (.int .i64 (m + 1))
  have hf7 := hf6.kept hgr7 (Or.inr hv3b.1)
  have hm7 := hF3.kept hgr7 (fun e => h.n1 (by injection e with e; exact e.symm))
  have hc7 := hc6.kept hgr7 (fun e => h.n2 (by injection e with e; exact e.symm))
  have hfin : NetIn (w6.setCell ⟨b, 4, none⟩ (.int .i64 (m + 1))) base (N + 1) (sendP n a c x) b mb cb v3 F3 G :=
    { bb := h.bb, bm := h.bm, bc := h.bc, n1 := h.n1, n2 := h.n2, n3 := h.n3, v1 := hv3b.1, v2 := hv3b.2.1, v3 := hv3b.2.2.1,
      whole := by
        show Whole _ b 99 #[.int .i64 n.k, v3, .map (some mb), .map (some cb), .int .i64 (n.miss + 1)]
        rw [hm]
        exact hw7,
      fly := by
        have e : (sendP n a c x).fly = n.fly ++ [⟨a, c, s, x⟩] := by show n.fly ++ [⟨a, c, n.sent a c, x⟩] = _; rw [hs]
        rw [e]
        exact hf7,
      sent := hm7, came := hc7.mono (Nat.le_succ _),
      fs := fun p q => by
        show _ = Value.int .i64 ((if p = a ∧ q = c then n.sent a c + 1 else n.sent p q : Nat) : Int)
        by_cases hpq : p = a ∧ q = c
        · obtain ⟨rfl, rfl⟩ := hpq
          rw [if_pos ⟨rfl, rfl⟩, hF3k, hs]
          rfl
        · rw [if_neg hpq, hF3o _ (fun e => hpq (routeV_inj e)), h.fs],
      gs := h.gs }
  have hR : ∀ {k : Nat}, Foot b mb cb (.slice A n.fly.length cap) k → k < w.heap.size := fun hk => hfoot _ hk
  have hfr : Fr w.heap.size (Foot b mb cb (.slice A n.fly.length cap)) w (w6.setCell ⟨b, 4, none⟩ (.int .i64 (m + 1))) := by
    have f1 := Fr.of_below (R := Foot b mb cb (.slice A n.fly.length cap)) hb1 (Nat.le_refl _)
    have f2 := Fr.of_below (R := Foot b mb cb (.slice A n.fly.length cap)) hb2 hb1.size
    have f3 := Fr.of_grown (R := Foot b mb cb (.slice A n.fly.length cap)) hgrow3 (Nat.le_trans hb1.size hb2.size) (fun k e _ => Or.inr (Or.inr (Or.inr e)))
    have z3 := Nat.le_trans (Nat.le_trans hb1.size hb2.size) hgrow3.size
    have f4 := Fr.of_grown (R := Foot b mb cb (.slice A n.fly.length cap)) hgr4 z3 (fun k e _ => Or.inl (by injection e with e; exact e.symm))
    have z4 := Nat.le_trans z3 hgr4.size
    have f5 := Fr.of_below (R := Foot b mb cb (.slice A n.fly.length cap)) hd4 z4
    have f6 := Fr.of_grown (R := Foot b mb cb (.slice A n.fly.length cap)) hgr5 z4 (fun k e _ => Or.inr (Or.inl (by injection e with e; exact e.symm)))
    have z5 := Nat.le_trans z4 hgr5.size
    have f7 := Fr.of_grown (R := Foot b mb cb (.slice A n.fly.length cap)) hgr6 z5 (fun k e _ => Or.inr (Or.inl (by injection e with e; exact e.symm)))
    have f8 := Fr.of_grown (R := Foot b mb cb (.slice A n.fly.length cap)) hgr7 (Nat.le_trans z5 hgr6.size) (fun k e _ => Or.inl (by injection e with e; exact e.symm))
    exact ((((((f1.trans f2).trans f3).trans f4).trans f5).trans f6).trans f7).trans f8
  have hloc : v3.ownBlock = (Value.slice A n.fly.length cap).ownBlock ∨ ∃ g, v3.ownBlock = some g ∧ w.heap.size ≤ g := by
    rcases hloc3 with e | ⟨g, e, hg⟩
    · exact Or.inl e
    · exact Or.inr ⟨g, e, Nat.le_trans (Nat.le_trans hb1.size hb2.size) hg⟩
  have HEND : Hid (Left w base (N + 1) (sendP n a c x) b mb cb (.slice A n.fly.length cap) (w6.setCell ⟨b, 4, none⟩ (.int .i64 (m + 1)))) := Lib.hid ⟨v3, F3, G, hfin, hfr, hloc⟩
  -- what the walk reads
  have x1 : w1.drew.cell? ⟨b, 1, none⟩ = some (.slice A n.fly.length cap) := (h1.whole.drewN 1).cell 1
  have x2 : w1.drew.cell? ⟨b, 2, none⟩ = some (.map (some mb)) := (h1.whole.drewN 1).cell 2
  have x3 : w1.drew.cell? ⟨rb, 0, none⟩ = some (.int .i64 a) := (hrb.drewN 1).cell 0
  have x4 : w1.drew.cell? ⟨rb, 1, none⟩ = some (.int .i64 c) := (hrb.drewN 1).cell 1
  have x5 := hlook w1.drew (h1.sent.drewN 1)
  have y1 : ((w1.alloc (.cells #[.int .i64 a, .int .i64 c, .int .i64 s, .string x] 83)).drew).cell? ⟨b, 1, none⟩ = some (.slice A n.fly.length cap) := h2.whole.cell 1
  have y2 : ((w1.alloc (.cells #[.int .i64 a, .int .i64 c, .int .i64 s, .string x] 83)).drew).cell? ⟨b, 2, none⟩ = some (.map (some mb)) := h2.whole.cell 2
  have y3 : ((w1.alloc (.cells #[.int .i64 a, .int .i64 c, .int .i64 s, .string x] 83)).drew).cell? ⟨rb, 0, none⟩ = some (.int .i64 a) := hrb2.cell 0
  have y4 : ((w1.alloc (.cells #[.int .i64 a, .int .i64 c, .int .i64 s, .string x] 83)).drew).cell? ⟨rb, 1, none⟩ = some (.int .i64 c) := hrb2.cell 1
  have y5 := hlook _ h2.sent
  have q1 : w3.cell? ⟨b, 1, none⟩ = some (.slice A n.fly.length cap) := hw3.cell 1
  have q2 : w3.cell? ⟨b, 2, none⟩ = some (.map (some mb)) := hw3.cell 2
  have q3 : w3.cell? ⟨rb, 0, none⟩ = some (.int .i64 a) := hrb3.cell 0
  have q4 : w3.cell? ⟨rb, 1, none⟩ = some (.int .i64 c) := hrb3.cell 1
  have q5 := hlook _ hm3
  have g3 : w3.frozen? ⟨b, 1, none⟩ = false := hw3.free 1
  have p2 : w4.drew.cell? ⟨b, 2, none⟩ = some (.map (some mb)) := (hw4.drewN 1).cell 2
  have p3 : w4.drew.cell? ⟨rb, 0, none⟩ = some (.int .i64 a) := (hrb4.drewN 1).cell 0
  have p4 : w4.drew.cell? ⟨rb, 1, none⟩ = some (.int .i64 c) := (hrb4.drewN 1).cell 1
  have p5 := hlook w4.drew (hm4.drewN 1)
  have r2 : w5.cell? ⟨b, 2, none⟩ = some (.map (some mb)) := hw5.cell 2
  have r3 : w5.cell? ⟨rb, 0, none⟩ = some (.int .i64 a) := hrb5.cell 0
  have r4 : w5.cell? ⟨rb, 1, none⟩ = some (.int .i64 c) := hrb5.cell 1
  have hrb6 := hrb5.grown hgr6 (fun e => hn2 (by injection e))
  have HK6 := Lib.hid (show w6.cell? ⟨b, 2, none⟩ = some (.map (some mb)) ∧ w6.cell? ⟨rb, 0, none⟩ = some (.int .i64 a) ∧ w6.cell? ⟨rb, 1, none⟩ = some (.int .i64 c) from ⟨hw6.cell 2, hrb6.cell 0, hrb6.cell 1⟩)
  have u4 : w6.cell? ⟨b, 4, none⟩ = some (.int .i64 m) := by rw [← hm]; exact hw6.cell 4
  have g6 : w6.frozen? ⟨b, 4, none⟩ = false := hw6.free 4
  obtain ⟨A3, c3, hv3, hx3⟩ := hfly3
  clear hx3
  obtain ⟨fl, hfln⟩ : ∃ l, n.fly.length = l := ⟨_, rfl⟩
  obtain ⟨fl3, hfl3⟩ : ∃ l, (n.fly ++ [(⟨a, c, s, x⟩ : Let)]).length = l := ⟨_, rfl⟩
  rw [hfl3] at hv3
  rw [hfln] at HEND x1 y1 q1 happ ⊢
  subst hv3
  have HX := Lib.hid (show w1.drew.cell? ⟨b, 1, none⟩ = some (.slice A fl cap) ∧ w1.drew.cell? ⟨b, 2, none⟩ = some (.map (some mb)) ∧ w1.drew.cell? ⟨rb, 0, none⟩ = some (.int .i64 a) ∧ w1.drew.cell? ⟨rb, 1, none⟩ = some (.int .i64 c) ∧ (Instr.lookup 96 (.map (some mb)) (.agg #[.int .i64 a, .int .i64 c]) false).run Tryd.prog w1.drew = .ok (.int .i64 s) w1.drew from ⟨x1, x2, x3, x4, x5⟩)
  have HY := Lib.hid (And.intro y1 (And.intro y2 (And.intro y3 (And.intro y4 y5))))
  have HQ := Lib.hid (And.intro q1 (And.intro q2 (And.intro q3 (And.intro q4 q5))))
  have HP := Lib.hid (And.intro p2 (And.intro p3 (And.intro p4 p5)))
  have HRR := Lib.hid (And.intro r2 (And.intro r3 (And.intro r4 hlook5)))
  have H1 := Lib.hid H1; have H2 := Lib.hid H2; have HW1 := Lib.hid hw1; have HRB := Lib.hid hrbn; have HAPP := Lib.hid happ; have HW4 := Lib.hid hw4n; have HME := Lib.hid (show (Instr.mapEntry 96 (.map (some mb)) (.agg #[.int .i64 a, .int .i64 c])).run Tryd.prog w4.drew = .ok (.tuple #[v0, .int .i64 (st : Nat)]) w5 from hme)
  have HES := Lib.hid (show (Instr.entryStore 96 (.map (some mb)) (.int .i64 (st : Nat)) (.int .i64 (IntKind.i64.wrap ((s : Int) + 1)))).run Tryd.prog w5 = .ok () w6 from by rw [show IntKind.i64.wrap ((s : Int) + 1) = (s : Int) + 1 by rw [IntKind.wrap_i64]; omega]; exact hes)
  clear h ha hc hkl hcap hs hm hb1 hrb h1 hfoot hlook hn1 hn2 hn3 hn4 hl0 hb2 h2 hrb2 hgrow3 hloc3 hw3 hrb3 hm3 hc3 hv3b hw4 hgr4 hf4 hm4 hc4 hrb4 hF1 hF1k hgr5 hthen hF3 hF3k hF3o hgr6 hd4 hw5 hw6 hrb5 hrb6 hf6 hc6 hlook5 hw7 hgr7 hf7 hm7 hc7 hfin hR hfr hloc x1 x2 x3 x4 x5 y1 y2 y3 y4 y5 q1 q2 q3 q4 q5 p2 p3 p4 p5 r2 r3 r4 hfln hfl3 happ hw4n hme hes hfl hN hk hb3 hw1 hrbn hsz1
  go_enter Tryd.func33, Tryd.ntmps33
  go_wp2_with fail
  refine H1.out.mono ?_; rintro e wz ⟨rfl, hw⟩; obtain rfl := hw.symm
  go_wp2_with fail
  refine H2.out.mono ?_; rintro e wz ⟨rfl, hw⟩; obtain rfl := hw.symm
  go_upto_region 6 with fail
  rw [HW1.out, HRB.out]
  go_cut [] (fun wx => IsW w4 wx)
  case first =>
    refine region_reads5 [0,1,2,3,4,5,6,7,8,9,10,11,12,13,14] 15 16 17 18 19 (by kernel_rfl) (by kernel_rfl) (fun w' => w'.cell? ⟨b, 1, none⟩ = some (.slice A fl cap) ∧ w'.cell? ⟨b, 2, none⟩ = some (.map (some mb)) ∧ w'.cell? ⟨rb, 0, none⟩ = some (.int .i64 a) ∧ w'.cell? ⟨rb, 1, none⟩ = some (.int .i64 c) ∧ (Instr.lookup 96 (.map (some mb)) (.agg #[.int .i64 a, .int .i64 c]) false).run Tryd.prog w' = .ok (.int .i64 s) w') HX.out (by kernel_rfl) (by kernel_rfl) (by kernel_rfl) (by kernel_rfl) (by kernel_rfl) (by kernel_rfl) (by kernel_rfl) (by kernel_rfl) rfl rfl rfl rfl rfl rfl rfl rfl rfl rfl (by kernel_rfl) ?_
    refine ⟨_, ?va0, rfl, Or.inl ⟨by rfl, ?hya0⟩, fun _ _ _ h => h, ?resta0⟩
    case hya0 => (intro w' hSw; obtain ⟨s1, s2, s3, s4, s5⟩ := hSw; go_simp; try with_reducible rfl)
    try dsimp only [Act.put]
    refine ⟨_, ?va1, rfl, Or.inl ⟨by rfl, ?hya1⟩, fun _ _ _ h => h, ?resta1⟩
    case hya1 => (intro w' hSw; obtain ⟨s1, s2, s3, s4, s5⟩ := hSw; go_simp; try with_reducible rfl)
    try dsimp only [Act.put]
    refine ⟨_, ?va2, rfl, Or.inl ⟨by rfl, ?hya2⟩, fun _ _ _ h => h, ?resta2⟩
    case hya2 => (intro w' hSw; obtain ⟨s1, s2, s3, s4, s5⟩ := hSw; go_simp; try with_reducible rfl)
    try dsimp only [Act.put]
    refine ⟨_, ?va3, rfl, Or.inl ⟨by rfl, ?hya3⟩, fun _ _ _ h => h, ?resta3⟩
    case hya3 => (intro w' hSw; obtain ⟨s1, s2, s3, s4, s5⟩ := hSw; go_simp; try with_reducible rfl)
    try dsimp only [Act.put]
    refine ⟨_, ?va4, rfl, Or.inl ⟨by rfl, ?hya4⟩, fun _ _ _ h => h, ?resta4⟩
    case hya4 => (intro w' hSw; obtain ⟨s1, s2, s3, s4, s5⟩ := hSw; go_simp; try with_reducible rfl)
    try dsimp only [Act.put]
    refine ⟨_, ?va5, rfl, Or.inl ⟨by rfl, ?hya5⟩, fun _ _ _ h => h, ?resta5⟩
    case hya5 => (intro w' hSw; obtain ⟨s1, s2, s3, s4, s5⟩ := hSw; go_simp; try with_reducible rfl)
    try dsimp only [Act.put]
    refine ⟨_, ?va6, rfl, Or.inl ⟨by rfl, ?hya6⟩, fun _ _ _ h => h, ?resta6⟩
    case hya6 => (intro w' hSw; obtain ⟨s1, s2, s3, s4, s5⟩ := hSw; go_simp; try with_reducible rfl)
    try dsimp only [Act.put]
    refine ⟨_, ?va7, rfl, Or.inl ⟨by rfl, ?hya7⟩, fun _ _ _ h => h, ?resta7⟩
    case hya7 => (intro w' hSw; obtain ⟨s1, s2, s3, s4, s5⟩ := hSw; go_simp; try with_reducible rfl)
    try dsimp only [Act.put]
    refine ⟨_, ?va8, rfl, Or.inl ⟨by rfl, ?hya8⟩, fun _ _ _ h => h, ?resta8⟩
    case hya8 => (intro w' hSw; obtain ⟨s1, s2, s3, s4, s5⟩ := hSw; go_simp; try with_reducible rfl)
    try dsimp only [Act.put]
    refine ⟨_, ?va9, rfl, Or.inl ⟨by rfl, ?hya9⟩, fun _ _ _ h => h, ?resta9⟩
    case hya9 => (intro w' hSw; obtain ⟨s1, s2, s3, s4, s5⟩ := hSw; go_simp; try with_reducible rfl)
    try dsimp only [Act.put]
    refine ⟨_, ?va10, rfl, Or.inl ⟨by rfl, ?hya10⟩, fun _ _ _ h => h, ?resta10⟩
    case hya10 => (intro w' hSw; obtain ⟨s1, s2, s3, s4, s5⟩ := hSw; go_simp; try with_reducible rfl)
    try dsimp only [Act.put]
    refine ⟨_, ?va11, rfl, Or.inl ⟨by rfl, ?hya11⟩, fun _ _ _ h => h, ?resta11⟩
    case hya11 => (intro w' hSw; obtain ⟨s1, s2, s3, s4, s5⟩ := hSw; go_simp; try with_reducible rfl)
    try dsimp only [Act.put]
    refine ⟨_, ?va12, rfl, Or.inl ⟨by rfl, ?hya12⟩, fun _ _ _ h => h, ?resta12⟩
    case hya12 => (intro w' hSw; obtain ⟨s1, s2, s3, s4, s5⟩ := hSw; go_simp; try with_reducible rfl)
    try dsimp only [Act.put]
    refine ⟨_, ?va13, rfl, Or.inl ⟨by rfl, ?hya13⟩, fun _ _ _ h => h, ?resta13⟩
    case hya13 => (intro w' hSw; obtain ⟨s1, s2, s3, s4, s5⟩ := hSw; go_simp; try with_reducible rfl)
    try dsimp only [Act.put]
    refine ⟨_, ?va14, rfl, Or.inl ⟨by rfl, ?hya14⟩, fun _ _ _ h => h, ?resta14⟩
    case hya14 => (intro w' hSw; obtain ⟨s1, s2, s3, s4, s5⟩ := hSw; go_simp; try with_reducible rfl)
    try dsimp only [Act.put]
    refine reads_nil ?_
    refine wp_bare (fun K11 hK11 => ?_)
    go_simp
    refine hK11.out _ _ ⟨HY.out, ?_⟩
    refine wp_of_append _ _ _ rfl _ _ rfl rfl _ _ HAPP.out ⟨HQ.out, ?_⟩
    refine wp_bare (fun K13 hK13 => ?_)
    go_simp
    refine hK13.out _ _ ?_
    refine wp_bare (fun K14 hK14 => ?_)
    go_simp
    refine hK14.out _ _ ?_
    have q1' := HQ.out.1
    refine wp_bare (fun K15 hK15 => ?_)
    go_simp
    refine hK15.out _ _ ?_
    go_wp2_with fail
    go_meet
    exact HW4.out
  case rest =>
    obtain rfl : w4 = _ := (show _ = w4 from hcut).symm
    go_upto_region 7 with fail
    go_cut [] (fun wx => IsW w6 wx)
    case first =>
      have HK4 := Lib.hid (show w4.drew.cell? ⟨b, 2, none⟩ = some (.map (some mb)) ∧ w4.drew.cell? ⟨rb, 0, none⟩ = some (.int .i64 a) ∧ w4.drew.cell? ⟨rb, 1, none⟩ = some (.int .i64 c) from ⟨HP.out.1, HP.out.2.1, HP.out.2.2.1⟩)
      have HL4 := Lib.hid HP.out.2.2.2
      have HK5 := Lib.hid (show w5.cell? ⟨b, 2, none⟩ = some (.map (some mb)) ∧ w5.cell? ⟨rb, 0, none⟩ = some (.int .i64 a) ∧ w5.cell? ⟨rb, 1, none⟩ = some (.int .i64 c) from ⟨HRR.out.1, HRR.out.2.1, HRR.out.2.2.1⟩)
      have HL5 := Lib.hid HRR.out.2.2.2
      refine wp_region_held_drew (S := fun w' => w'.cell? ⟨b, 2, none⟩ = some (.map (some mb)) ∧ w'.cell? ⟨rb, 0, none⟩ = some (.int .i64 a) ∧ w'.cell? ⟨rb, 1, none⟩ = some (.int .i64 c)) (by kernel_rfl) ?_ (fun hHeld => ?_)
      · (try dsimp only); exact HK4.out
      refine wpAnyH_take (i := 0) (oi := ({ dst := some 46, op := Op.move (Operand.tmp 0), type := 62, pos := "net.go:61", after := #[], guard := none } : Oper)) (v := ?vg1) rfl (by kernel_rfl) (by kernel_rfl) (by kernel_rfl) (fun _ _ _ h => h) (Or.inl ⟨by rfl, ?hyg1⟩) (by assumption) ?restg1
      case hyg1 => intro w hSw; (try dsimp only at hSw); go_simp; all_goals (with_reducible rfl)
      try simp only [Act.put, List.setIfInBounds_toArray, List.set_cons_zero, List.set_cons_succ]
      refine wpAnyH_take (i := 1) (oi := ({ dst := some 47, op := Op.nilCheck (Operand.tmp 46), type := 0, pos := "net.go:61", after := #[{ on := 0, ground := Ground.data }], guard := none } : Oper)) (v := ?vg2) rfl (by kernel_rfl) (by kernel_rfl) (by kernel_rfl) (fun _ _ _ h => h) (Or.inl ⟨by rfl, ?hyg2⟩) (by assumption) ?restg2
      case hyg2 => intro w hSw; (try dsimp only at hSw); go_simp; all_goals (with_reducible rfl)
      try simp only [Act.put, List.setIfInBounds_toArray, List.set_cons_zero, List.set_cons_succ]
      refine wpAnyH_take (i := 2) (oi := ({ dst := some 48, op := Op.fieldAddr 99 (Operand.tmp 47) 2, type := 0, pos := "net.go:61", after := #[{ on := 1, ground := Ground.data }], guard := none } : Oper)) (v := ?vg3) rfl (by kernel_rfl) (by kernel_rfl) (by kernel_rfl) (fun _ _ _ h => h) (Or.inl ⟨by rfl, ?hyg3⟩) (by assumption) ?restg3
      case hyg3 => intro w hSw; (try dsimp only at hSw); go_simp; all_goals (with_reducible rfl)
      try simp only [Act.put, List.setIfInBounds_toArray, List.set_cons_zero, List.set_cons_succ]
      refine wpAnyH_take (i := 3) (oi := ({ dst := some 49, op := Op.load 96 (Operand.tmp 48), type := 96, pos := "net.go:61", after := #[{ on := 2, ground := Ground.data }], guard := none } : Oper)) (v := ?vg4) rfl (by kernel_rfl) (by kernel_rfl) (by kernel_rfl) (fun _ _ _ h => h) (Or.inl ⟨by rfl, ?hyg4⟩) (by assumption) ?restg4
      case hyg4 => intro w hSw; (try dsimp only at hSw); go_simp; all_goals (with_reducible rfl)
      try simp only [Act.put, List.setIfInBounds_toArray, List.set_cons_zero, List.set_cons_succ]
      refine wpAnyH_take (i := 4) (oi := ({ dst := some 50, op := Op.load 95 (Operand.tmp 9), type := 95, pos := "net.go:61", after := #[], guard := none } : Oper)) (v := ?vg5) rfl (by kernel_rfl) (by kernel_rfl) (by kernel_rfl) (fun _ _ _ h => h) (Or.inl ⟨by rfl, ?hyg5⟩) (by assumption) ?restg5
      case hyg5 => intro w hSw; (try dsimp only at hSw); go_simp; all_goals (with_reducible rfl)
      try simp only [Act.put, List.setIfInBounds_toArray, List.set_cons_zero, List.set_cons_succ]
      refine wpAnyH_ready (rs := [5, 7]) (by kernel_rfl) (by simp) ?_
      refine (AllReadyH.cons (o := ({ dst := some 51, op := Op.lookup 96 (Operand.tmp 49) (Operand.tmp 50) false, type := 3, pos := "net.go:61", after := #[{ on := 3, ground := Ground.data }, { on := 4, ground := Ground.data }], guard := none } : Oper)) rfl (fun K hK => ?_) (AllReadyH.cons (o := ({ dst := some 53, op := Op.mapEntry 96 (Operand.tmp 49) (Operand.tmp 50), type := 0, pos := "net.go:61", after := #[{ on := 3, ground := Ground.data }, { on := 4, ground := Ground.data }, { on := 0, ground := Ground.phase }, { on := 1, ground := Ground.phase }, { on := 2, ground := Ground.phase }, { on := 3, ground := Ground.phase }, { on := 4, ground := Ground.phase }, { on := 5, ground := Ground.textOnly Departure.mapOpAssignEntry }, { on := 6, ground := Ground.textOnly Departure.mapOpAssignEntry }], guard := none } : Oper)) rfl (fun K hK => ?_) AllReadyH.nil))
      · have hlk := HL4.out
        go_simp
        refine hK.out _ _ ?_ (fun hHeld => ?_)
        · (try dsimp only); exact HK4.out
        clear hK K
        try simp only [Act.put, List.setIfInBounds_toArray, List.set_cons_zero, List.set_cons_succ]
        refine wpAnyH_take (i := 6) (oi := ({ dst := some 52, op := Op.binOp BinOp.add 3 (Operand.tmp 51) (Operand.const (Value.int IntKind.i64 1)) 3, type := 3, pos := "net.go:61", after := #[{ on := 5, ground := Ground.data }], guard := none } : Oper)) (v := ?vg6) rfl (by kernel_rfl) (by kernel_rfl) (by kernel_rfl) (fun _ _ _ h => h) (Or.inl ⟨by rfl, ?hyg6⟩) (by assumption) ?restg6
        case hyg6 => intro w hSw; (try dsimp only at hSw); go_simp; all_goals (with_reducible rfl)
        try simp only [Act.put, List.setIfInBounds_toArray, List.set_cons_zero, List.set_cons_succ]
        refine wpAnyH_ready (rs := [7]) (by kernel_rfl) (by simp) ?_
        refine (AllReadyH.cons (o := ({ dst := some 53, op := Op.mapEntry 96 (Operand.tmp 49) (Operand.tmp 50), type := 0, pos := "net.go:61", after := #[{ on := 3, ground := Ground.data }, { on := 4, ground := Ground.data }, { on := 0, ground := Ground.phase }, { on := 1, ground := Ground.phase }, { on := 2, ground := Ground.phase }, { on := 3, ground := Ground.phase }, { on := 4, ground := Ground.phase }, { on := 5, ground := Ground.textOnly Departure.mapOpAssignEntry }, { on := 6, ground := Ground.textOnly Departure.mapOpAssignEntry }], guard := none } : Oper)) rfl (fun K hK => ?_) AllReadyH.nil)
        have hmk := HME.out
        go_simp
        refine hK.out _ _ ?_ (fun hHeld => ?_)
        · (try dsimp only); exact HK5.out
        clear hK K
        try simp only [Act.put, List.setIfInBounds_toArray, List.set_cons_zero, List.set_cons_succ]
        refine wpAnyH_take (i := 8) (oi := ({ dst := some 54, op := Op.extract (Operand.tmp 53) 1, type := 3, pos := "net.go:61", after := #[{ on := 7, ground := Ground.data }], guard := none } : Oper)) (v := ?vg7) rfl (by kernel_rfl) (by kernel_rfl) (by kernel_rfl) (fun _ _ _ h => h) (Or.inl ⟨by rfl, ?hyg7⟩) (by assumption) ?restg7
        case hyg7 => intro w hSw; (try dsimp only at hSw); go_simp; all_goals (with_reducible rfl)
        try simp only [Act.put, List.setIfInBounds_toArray, List.set_cons_zero, List.set_cons_succ]
        refine wpAnyH_ready (rs := [9]) (by kernel_rfl) (by simp) ?_
        refine (AllReadyH.cons (o := ({ dst := none, op := Op.entryStore 96 (Operand.tmp 49) (Operand.tmp 54) (Operand.tmp 52), type := 0, pos := "net.go:61", after := #[{ on := 3, ground := Ground.data }, { on := 8, ground := Ground.data }, { on := 6, ground := Ground.data }, { on := 7, ground := Ground.chain }, { on := 0, ground := Ground.phase }, { on := 1, ground := Ground.phase }, { on := 2, ground := Ground.phase }, { on := 3, ground := Ground.phase }, { on := 4, ground := Ground.phase }, { on := 5, ground := Ground.phase }, { on := 6, ground := Ground.phase }, { on := 7, ground := Ground.phase }, { on := 8, ground := Ground.phase }], guard := none } : Oper)) rfl (fun K hK => ?_) AllReadyH.nil)
        have hsk := HES.out
        go_simp
        refine hK.out _ _ ?_ (fun hHeld => ?_)
        · (try dsimp only); exact HK6.out
        clear hK K
        try simp only [Act.put, List.setIfInBounds_toArray, List.set_cons_zero, List.set_cons_succ]
        refine wpAnyH_done (by kernel_rfl) ?_ _
        go_wp2_with fail
        go_meet
        exact rfl
      · have hmk := HME.out
        go_simp
        refine hK.out _ _ ?_ (fun hHeld => ?_)
        · (try dsimp only); exact HK5.out
        clear hK K
        try simp only [Act.put, List.setIfInBounds_toArray, List.set_cons_zero, List.set_cons_succ]
        refine wpAnyH_take (i := 8) (oi := ({ dst := some 54, op := Op.extract (Operand.tmp 53) 1, type := 3, pos := "net.go:61", after := #[{ on := 7, ground := Ground.data }], guard := none } : Oper)) (v := ?vg8) rfl (by kernel_rfl) (by kernel_rfl) (by kernel_rfl) (fun _ _ _ h => h) (Or.inl ⟨by rfl, ?hyg8⟩) (by assumption) ?restg8
        case hyg8 => intro w hSw; (try dsimp only at hSw); go_simp; all_goals (with_reducible rfl)
        try simp only [Act.put, List.setIfInBounds_toArray, List.set_cons_zero, List.set_cons_succ]
        refine wpAnyH_ready (rs := [5]) (by kernel_rfl) (by simp) ?_
        refine (AllReadyH.cons (o := ({ dst := some 51, op := Op.lookup 96 (Operand.tmp 49) (Operand.tmp 50) false, type := 3, pos := "net.go:61", after := #[{ on := 3, ground := Ground.data }, { on := 4, ground := Ground.data }], guard := none } : Oper)) rfl (fun K hK => ?_) AllReadyH.nil)
        have hlk := HL5.out
        go_simp
        refine hK.out _ _ ?_ (fun hHeld => ?_)
        · (try dsimp only); exact HK5.out
        clear hK K
        try simp only [Act.put, List.setIfInBounds_toArray, List.set_cons_zero, List.set_cons_succ]
        refine wpAnyH_take (i := 6) (oi := ({ dst := some 52, op := Op.binOp BinOp.add 3 (Operand.tmp 51) (Operand.const (Value.int IntKind.i64 1)) 3, type := 3, pos := "net.go:61", after := #[{ on := 5, ground := Ground.data }], guard := none } : Oper)) (v := ?vg9) rfl (by kernel_rfl) (by kernel_rfl) (by kernel_rfl) (fun _ _ _ h => h) (Or.inl ⟨by rfl, ?hyg9⟩) (by assumption) ?restg9
        case hyg9 => intro w hSw; (try dsimp only at hSw); go_simp; all_goals (with_reducible rfl)
        try simp only [Act.put, List.setIfInBounds_toArray, List.set_cons_zero, List.set_cons_succ]
        refine wpAnyH_ready (rs := [9]) (by kernel_rfl) (by simp) ?_
        refine (AllReadyH.cons (o := ({ dst := none, op := Op.entryStore 96 (Operand.tmp 49) (Operand.tmp 54) (Operand.tmp 52), type := 0, pos := "net.go:61", after := #[{ on := 3, ground := Ground.data }, { on := 8, ground := Ground.data }, { on := 6, ground := Ground.data }, { on := 7, ground := Ground.chain }, { on := 0, ground := Ground.phase }, { on := 1, ground := Ground.phase }, { on := 2, ground := Ground.phase }, { on := 3, ground := Ground.phase }, { on := 4, ground := Ground.phase }, { on := 5, ground := Ground.phase }, { on := 6, ground := Ground.phase }, { on := 7, ground := Ground.phase }, { on := 8, ground := Ground.phase }], guard := none } : Oper)) rfl (fun K hK => ?_) AllReadyH.nil)
        have hsk := HES.out
        go_simp
        refine hK.out _ _ ?_ (fun hHeld => ?_)
        · (try dsimp only); exact HK6.out
        clear hK K
        try simp only [Act.put, List.setIfInBounds_toArray, List.set_cons_zero, List.set_cons_succ]
        refine wpAnyH_done (by kernel_rfl) ?_ _
        go_wp2_with fail
        go_meet
        exact rfl
    case rest =>
      obtain rfl : w6 = _ := (show _ = w6 from hcut).symm
      go_wp2_with fail
      go_ret
      exact ⟨rfl, HEND.out⟩
end Go.Proofs.YtlopoddllfkkfaaDoor
