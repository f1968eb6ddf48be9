/- net: Deliver. -/
import Derived.Test.YtlopoddllfkkfaaDoorDlvM
import Derived.Deep.CutBlock
import Derived.Deep.DeepCutAuto
import Derived.Deep.RegionHeld3
import Derived.Deep.DrawnRows
namespace Go.Proofs.YtlopoddllfkkfaaDoor
open Go.RowKit

set_option maxRecDepth 100000 in
theorem deliver_bad {w : World} {base N : Nat} {n : NetP} {p : Value} (h : NetAt w base p N n) (i : Int) (hbad : atCode n.fly.length i = 3) :
    Calls Tryd.prog 35 #[p, .int .i64 i] w fun e w' => (∃ u, e = .returned u ∧ FaultAt 3 0 w' u) ∧ Below w.heap.size w w' := by
  have CK := check_any h i
  rw [hbad] at CK
  have HC := Lib.hid CK
  obtain ⟨b, mb, cb, v, F, G, rfl, _⟩ := h
  clear hbad CK
  go_enter Tryd.func35, Tryd.ntmps35
  go_wp2_with fail
  refine HC.out.mono ?_
  rintro e w1 ⟨hb, ⟨h0, _⟩ | ⟨_, u, rfl, hu⟩⟩
  · omega
  · have HB := Lib.hid hb; have HU := Lib.hid hu
    obtain ⟨bb, s, rfl, _⟩ := id hu
    clear hb hu
    go_wp2_with fail
    go_ret
    exact ⟨⟨_, rfl, HU.out⟩, HB.out⟩
/-- Behind the look. -/
def C9 (ok : Bool) (w4 : World) (x : Value) (wx : World) : Prop := ∃ V, V = wx ∧ x = .bool ok ∧ Below w4.heap.size w4 V

set_option maxRecDepth 100000 in
set_option maxHeartbeats 4000000 in
theorem deliver_zero {w : World} {base N : Nat} {n : NetP} {b mb cb : Nat} {v : Value} {F G : Value → Option Value} (h : NetIn w base N n b mb cb v F G) (hi : 0 < n.fly.length) (hfl : n.fly.length ≤ 100000) (hN : N ≤ 100000) (hm1 : -100000 ≤ n.miss) (hm2 : n.miss ≤ 100000) (l : Let) (hl : n.fly[0] = l) (hf : In64 l.f) (ht : In64 l.t) (hs : In64 l.s) :
    Calls Tryd.prog 35 #[.pointer (some ⟨b, 0, none⟩), .int .i64 0] w fun e w' => e = .returned .nilIface ∧ Left w base (N + 1) (cameP (dropP n 0) l) b mb cb v w' := by
  have CK := check_any ⟨b, mb, cb, v, F, G, rfl, h⟩ 0
  rw [show atCode n.fly.length 0 = 0 from if_pos (by omega)] at CK
  have HC := Lib.hid CK
  have H := Lib.hid h
  obtain ⟨A, cap, hv, hcap, hfx⟩ := h.fly
  clear hfx
  have HM := Lib.hid (And.intro hm1 hm2); have HI := Lib.hid (And.intro hf (And.intro ht hs)); have HNN := Lib.hid hN
  obtain ⟨fl, hfln⟩ : ∃ k, n.fly.length = k := ⟨_, rfl⟩
  rw [hfln] at hv hcap
  have hi' : 0 < fl := by rw [← hfln]; exact hi
  have hfl' : fl ≤ 100000 := by rw [← hfln]; exact hfl
  have HL := Lib.hid hl; have HFL := Lib.hid hfln
  have HII := Lib.hid hi
  subst hv
  clear h CK hl hfln hm1 hm2 hf ht hs hN hfl
  go_enter Tryd.func35, Tryd.ntmps35
  go_wp2_with fail
  refine HC.out.mono ?_
  rintro e w1 ⟨hb0, ⟨_, rfl⟩ | ⟨h0, _⟩⟩
  case inr => exact absurd rfl h0
  have h1 := H.out.below hb0 (Nat.le_refl _)
  obtain ⟨g, off, hA, e0, e1, e2, e3⟩ := h1.fly.lets.pos (i := 0) HII.out
  rw [HL.out] at e0 e1 e2 e3
  obtain ⟨f, t, s, x⟩ := l
  simp only [Nat.zero_mul, Nat.add_zero] at e0 e1 e2 e3
  subst hA
  have hb2 : Below w1.heap.size w1 (w1.alloc (.cells #[.int .i64 f, .int .i64 t, .int .i64 s, .string x] 83)) := (Below.refl _ _).alloc (Nat.le_refl _) _
  have hlb2 := Whole.new w1 83 #[.int .i64 f, .int .i64 t, .int .i64 s, .string x]
  have h2 := h1.below hb2 (Nat.le_refl _)
  have hfoot := fun k (hk : Foot b mb cb (.slice (some ⟨g, off, none⟩) fl cap) k) => (h1.foot hk).2
  obtain ⟨lb, hlbn⟩ : ∃ B, w1.heap.size = B := ⟨_, rfl⟩
  rw [hlbn] at hlb2
  have hn1 : lb ≠ b := by have := hfoot b (Or.inl rfl); omega
  have hn2 : lb ≠ cb := by have := hfoot cb (Or.inr (Or.inr (Or.inl rfl))); omega
  have hn3 : lb ≠ g := by have := hfoot g (Or.inr (Or.inr (Or.inr rfl))); omega
  have y1 : w1.cell? ⟨b, 1, none⟩ = some (.slice (some ⟨g, off, none⟩) fl cap) := h1.whole.cell 1
  have HLB := Lib.hid hlbn
  clear hlbn
  obtain ⟨o3, ho3, hflm⟩ := h2.fly.first (by omega)
  have hgm : (w1.alloc (.cells #[.int .i64 f, .int .i64 t, .int .i64 s, .string x] 83)).grownBy (w1.alloc (.cells #[.int .i64 f, .int .i64 t, .int .i64 s, .string x] 83)) (Value.slice (some ⟨g, off, none⟩) fl cap).ownBlock := World.grownBy.refl _ _
  have hown : (Value.slice (some ⟨g, o3, none⟩) (fl - 1) (cap - 1)).ownBlock = (Value.slice (some ⟨g, off, none⟩) fl cap).ownBlock := rfl
  obtain ⟨⟨x1, x2⟩, h3, hfr3⟩ := h2.refly hgm hflm hown
  have hlb3 := (hlb2.grown hgm (fun e => hn3 (by have e' : some lb = some g := e; injection e'))).other (p := ⟨b, 1, none⟩) hn1 (.slice (some ⟨g, o3, none⟩) (fl - 1) (cap - 1))
  have hlbm := hlb2.grown hgm (fun e => hn3 (by have e' : some lb = some g := e; injection e'))
  have nb1 : ¬ w1.heap.size = b := by rw [HLB.out]; exact hn1
  have nb2 : ¬ b = w1.heap.size := fun e => nb1 e.symm
  have d0 : (w1.alloc (.cells #[.int .i64 f, .int .i64 t, .int .i64 s, .string x] 83)).cell? ⟨w1.heap.size, 0, none⟩ = some (.int .i64 f) := by rw [HLB.out]; exact hlbm.cell 0
  have d1 : (w1.alloc (.cells #[.int .i64 f, .int .i64 t, .int .i64 s, .string x] 83)).cell? ⟨w1.heap.size, 1, none⟩ = some (.int .i64 t) := by rw [HLB.out]; exact hlbm.cell 1
  have d2 : (w1.alloc (.cells #[.int .i64 f, .int .i64 t, .int .i64 s, .string x] 83)).cell? ⟨w1.heap.size, 2, none⟩ = some (.int .i64 s) := by rw [HLB.out]; exact hlbm.cell 2
  clear hlbm
  obtain ⟨w3, hw3⟩ : ∃ W, (w1.alloc (.cells #[.int .i64 f, .int .i64 t, .int .i64 s, .string x] 83)).setCell ⟨b, 1, none⟩ (.slice (some ⟨g, o3, none⟩) (fl - 1) (cap - 1)) = W := ⟨_, rfl⟩
  rw [hw3] at h3 hfr3 hlb3
  obtain ⟨w4, hw4⟩ : ∃ W, w3.alloc (.cells #[.int .i64 f, .int .i64 t, .int .i64 s] 103) = W := ⟨_, rfl⟩
  obtain ⟨k1, k2, k3⟩ := dlv_mem (n := dropP n 0) h3 ⟨f, t, s, x⟩ HI.out.1 HI.out.2.1 HI.out.2.2 hlb3 hn2 HNN.out hw4.symm
  have hb4 : Below w3.heap.size w3 w4 := by rw [← hw4]; exact (Below.refl _ _).alloc (Nat.le_refl _) _
  obtain ⟨kb, hkbn⟩ : ∃ B, w3.heap.size = B := ⟨_, rfl⟩
  rw [hkbn] at k1 k3
  have hfr4 : Fr w.heap.size (Foot b mb cb (.slice (some ⟨g, off, none⟩) fl cap)) w w4 :=
    (((Fr.of_below (R := Foot b mb cb (.slice (some ⟨g, off, none⟩) fl cap)) hb0 (Nat.le_refl _)).trans (Fr.of_below hb2 hb0.size)).trans (hfr3.less (Nat.le_trans hb0.size hb2.size))).trans (Fr.of_below hb4 (Nat.le_trans (Nat.le_trans hb0.size hb2.size) hfr3.size))
  obtain ⟨m, hm⟩ : ∃ m, n.miss = m := ⟨_, rfl⟩
  have hmd : (dropP n 0).miss = m := hm
  obtain ⟨ok, hok⟩ : ∃ ok, (n.came f t s).isSome = ok := ⟨_, rfl⟩
  have hokd : ((dropP n 0).came f t s).isSome = ok := hok
  simp only [hokd, hmd] at k1 k3
  have HKS : Hid (∀ W, Below w4.heap.size w4 W → Below w4.heap.size w4 W ∧ DlvC b cb kb lb ⟨f, t, s, x⟩ W) := fun W hW => ⟨hW, (k1 W hW).1⟩
  have HLK : Hid (∀ W, Below w4.heap.size w4 W → ∃ (zf zt zs : Int) (zx : ByteArray), (Instr.lookup 97 (.map (some cb)) (.agg #[.int .i64 f, .int .i64 t, .int .i64 s]) true).run Tryd.prog W = .ok (.tuple #[.agg #[.int .i64 zf, .int .i64 zt, .int .i64 zs, .string zx], .bool ok]) W) := fun W hW => by
    obtain ⟨z, hz⟩ := (k1 W hW).2
    exact ⟨_, _, _, _, hz⟩
  have hmm := HM.out
  rw [hm] at hmm
  have HEND0 : Hid (ok = true → ∀ W, Below w4.heap.size w4 W → Left w base (N + 1) (cameP (dropP n 0) ⟨f, t, s, x⟩) b mb cb (.slice (some ⟨g, off, none⟩) fl cap) W) := fun h0 W hW => by
    rw [show cameP (dropP n 0) ⟨f, t, s, x⟩ = dropP n 0 from if_pos (hokd.trans h0)]
    have hz := k2 W hW
    exact ⟨_, F, G, { hz with sent := hz.sent.mono (Nat.le_succ _), came := hz.came.mono (Nat.le_succ _) }, hfr4.trans (Fr.of_below hW hfr4.size), Or.inl hown⟩
  have HEND1 : Hid (ok = false → ∀ W, Below w4.heap.size w4 W → ∃ W6, (Instr.mapUpdate 97 (.map (some cb)) (.agg #[.int .i64 f, .int .i64 t, .int .i64 s]) (.agg #[.int .i64 f, .int .i64 t, .int .i64 s, .string x])).run Tryd.prog W = .ok () W6 ∧
      DlvC b cb kb lb ⟨f, t, s, x⟩ W6 ∧ W6.cell? ⟨b, 4, none⟩ = some (.int .i64 m) ∧ W6.frozen? ⟨b, 4, none⟩ = false ∧ Left w base (N + 1) (cameP (dropP n 0) ⟨f, t, s, x⟩) b mb cb (.slice (some ⟨g, off, none⟩) fl cap) (W6.setCell ⟨b, 4, none⟩ (.int .i64 (m - 1)))) := fun h0 W hW => by
    obtain ⟨W6, G', q1, q2, q3, q4, q5, q6⟩ := k3 W hW h0
    have hWs := Nat.le_trans hfr4.size hW.size
    refine ⟨W6, q1, q2, q3, q4, _, F, G', q5, (hfr4.trans (Fr.of_below hW hfr4.size)).trans ((q6.mono fun k hk hr => ?_).less hWs), Or.inl hown⟩
    rcases hr with e | e | e | e
    · exact Or.inl e
    · exact Or.inr (Or.inl e)
    · exact Or.inr (Or.inr (Or.inl e))
    · exact Or.inr (Or.inr (Or.inr (hown.symm.trans e)))
  have HW3 := Lib.hid hw3; have HW4 := Lib.hid hw4; have HKB := Lib.hid hkbn
  have HKX := Lib.hid (show lb + 1 = kb from by rw [← hkbn, ← hw3, ← HLB.out]; simp [World.setCell])
  have HXX := Lib.hid (And.intro x1 x2)
  clear hlb2 hfoot hn1 hn2 hn3 h3 hfr3 hlb3 k1 k2 k3 hb4 hfr4 hm hmd hok hokd hw3 hw4 hkbn hgm hflm hown
  go_upto_region 9 with fail
  rw [HLB.out, HW3.out, HW4.out, HKX.out]
  go_cut [9] (fun x wx => C9 ok w4 x wx)
  case first =>
    refine wp_region_held_drew (S := fun w' => Below w4.heap.size w4 w' ∧ w'.cell? ⟨b, 3, none⟩ = some (.map (some cb)) ∧ w'.cell? ⟨kb, 0, none⟩ = some (.int .i64 f) ∧ w'.cell? ⟨kb, 1, none⟩ = some (.int .i64 t) ∧ w'.cell? ⟨kb, 2, none⟩ = some (.int .i64 s) ∧ w'.cell? ⟨lb, 0, none⟩ = some (.int .i64 f) ∧ w'.cell? ⟨lb, 1, none⟩ = some (.int .i64 t) ∧ w'.cell? ⟨lb, 2, none⟩ = some (.int .i64 s) ∧ w'.cell? ⟨lb, 3, none⟩ = some (.string x)) (by kernel_rfl) ?_ (fun hHeld => ?_)
    · (try dsimp only); exact HKS.out _ (below_drewN' (Below.refl _ _) 1)
    refine wpAnyH_take (i := 0) (oi := ({ dst := some 53, op := Op.move (Operand.tmp 0), type := 62, pos := "net.go:107", after := #[], guard := none } : Oper)) (v := ?vg1) rfl (by kernel_rfl) (by kernel_rfl) (by kernel_rfl) (fun _ _ _ h => h) (Or.inl ⟨by rfl, ?hyg1⟩) (by assumption) ?restg1
    case hyg1 => intro w hSw; (try dsimp only at hSw); go_simp; all_goals (with_reducible rfl)
    try simp only [Act.put, List.setIfInBounds_toArray, List.set_cons_zero, List.set_cons_succ]
    refine wpAnyH_take (i := 1) (oi := ({ dst := some 54, op := Op.nilCheck (Operand.tmp 53), type := 0, pos := "net.go:107", after := #[{ on := 0, ground := Ground.data }], guard := none } : Oper)) (v := ?vg2) rfl (by kernel_rfl) (by kernel_rfl) (by kernel_rfl) (fun _ _ _ h => h) (Or.inl ⟨by rfl, ?hyg2⟩) (by assumption) ?restg2
    case hyg2 => intro w hSw; (try dsimp only at hSw); go_simp; all_goals (with_reducible rfl)
    try simp only [Act.put, List.setIfInBounds_toArray, List.set_cons_zero, List.set_cons_succ]
    refine wpAnyH_take (i := 2) (oi := ({ dst := some 55, op := Op.fieldAddr 99 (Operand.tmp 54) 3, type := 0, pos := "net.go:107", after := #[{ on := 1, ground := Ground.data }], guard := none } : Oper)) (v := ?vg3) rfl (by kernel_rfl) (by kernel_rfl) (by kernel_rfl) (fun _ _ _ h => h) (Or.inl ⟨by rfl, ?hyg3⟩) (by assumption) ?restg3
    case hyg3 => intro w hSw; (try dsimp only at hSw); go_simp; all_goals (with_reducible rfl)
    try simp only [Act.put, List.setIfInBounds_toArray, List.set_cons_zero, List.set_cons_succ]
    refine wpAnyH_take (i := 3) (oi := ({ dst := some 56, op := Op.load 97 (Operand.tmp 55), type := 97, pos := "net.go:107", after := #[{ on := 2, ground := Ground.data }], guard := none } : Oper)) (v := ?vg4) rfl (by kernel_rfl) (by kernel_rfl) (by kernel_rfl) (fun _ _ _ h => h) (Or.inl ⟨by rfl, ?hyg4⟩) (by assumption) ?restg4
    case hyg4 => intro w hSw; (try dsimp only at hSw); go_simp; all_goals (with_reducible rfl)
    try simp only [Act.put, List.setIfInBounds_toArray, List.set_cons_zero, List.set_cons_succ]
    refine wpAnyH_take (i := 4) (oi := ({ dst := some 57, op := Op.load 103 (Operand.tmp 7), type := 103, pos := "net.go:107", after := #[], guard := none } : Oper)) (v := ?vg5) rfl (by kernel_rfl) (by kernel_rfl) (by kernel_rfl) (fun _ _ _ h => h) (Or.inl ⟨by rfl, ?hyg5⟩) (by assumption) ?restg5
    case hyg5 => intro w hSw; (try dsimp only at hSw); go_simp; all_goals (with_reducible rfl)
    try simp only [Act.put, List.setIfInBounds_toArray, List.set_cons_zero, List.set_cons_succ]
    refine wpAnyH_ready (rs := [5, 9]) (by kernel_rfl) (by simp) ?_
    refine (AllReadyH.cons (o := ({ dst := some 58, op := Op.lookup 97 (Operand.tmp 56) (Operand.tmp 57) true, type := 104, pos := "net.go:107", after := #[{ on := 3, ground := Ground.data }, { on := 4, ground := Ground.data }], guard := none } : Oper)) rfl (fun K hK => ?_) (AllReadyH.cons (o := ({ dst := some 8, op := Op.alloc 83, type := 0, pos := "net.go:107", after := #[], guard := none } : Oper)) rfl (fun K hK => ?_) AllReadyH.nil))
    · obtain ⟨zf, zt, zs, zx, hlk⟩ := HLK.out _ hHeld.1
      go_simp
      refine hK.out _ _ ?_ (fun hHeld => ?_)
      · (try dsimp only); exact hHeld
      clear hK K
      try simp only [Act.put, List.setIfInBounds_toArray, List.set_cons_zero, List.set_cons_succ]
      refine wpAnyH_take (i := 6) (oi := ({ dst := some 52, op := Op.move (Operand.tmp 58), type := 104, pos := "net.go:107", after := #[{ on := 5, ground := Ground.data }], guard := none } : Oper)) (v := ?vg6) rfl (by kernel_rfl) (by kernel_rfl) (by kernel_rfl) (fun _ _ _ h => h) (Or.inl ⟨by rfl, ?hyg6⟩) (by assumption) ?restg6
      case hyg6 => intro w hSw; (try dsimp only at hSw); go_simp; all_goals (with_reducible rfl)
      try simp only [Act.put, List.setIfInBounds_toArray, List.set_cons_zero, List.set_cons_succ]
      refine wpAnyH_take (i := 7) (oi := ({ dst := some 59, op := Op.extract (Operand.tmp 52) 0, type := 83, pos := "net.go:107", after := #[{ on := 6, ground := Ground.data }], guard := none } : Oper)) (v := ?vg7) rfl (by kernel_rfl) (by kernel_rfl) (by kernel_rfl) (fun _ _ _ h => h) (Or.inl ⟨by rfl, ?hyg7⟩) (by assumption) ?restg7
      case hyg7 => intro w hSw; (try dsimp only at hSw); go_simp; all_goals (with_reducible rfl)
      try simp only [Act.put, List.setIfInBounds_toArray, List.set_cons_zero, List.set_cons_succ]
      refine wpAnyH_take (i := 8) (oi := ({ dst := some 60, op := Op.extract (Operand.tmp 52) 1, type := 4, pos := "net.go:107", after := #[{ on := 6, ground := Ground.data }, { on := 10, ground := Ground.gcOnly Departure.lateStores }], guard := none } : Oper)) (v := ?vg8) rfl (by kernel_rfl) (by kernel_rfl) (by kernel_rfl) (fun _ _ _ h => h) (Or.inl ⟨by rfl, ?hyg8⟩) (by assumption) ?restg8
      case hyg8 => intro w hSw; (try dsimp only at hSw); go_simp; all_goals (with_reducible rfl)
      try simp only [Act.put, List.setIfInBounds_toArray, List.set_cons_zero, List.set_cons_succ]
      refine wpAnyH_ready (rs := [9]) (by kernel_rfl) (by simp) ?_
      refine (AllReadyH.cons (o := ({ dst := some 8, op := Op.alloc 83, type := 0, pos := "net.go:107", after := #[], guard := none } : Oper)) rfl (fun K hK => ?_) AllReadyH.nil)
      go_simp
      refine hK.out _ _ ?_ (fun hHeld => ?_)
      · (try dsimp only); exact HKS.out _ (hHeld.1.alloc hHeld.1.size _)
      clear hK K
      try simp only [Act.put, List.setIfInBounds_toArray, List.set_cons_zero, List.set_cons_succ]
      refine wpAnyH_ready (rs := [10]) (by kernel_rfl) (by simp) ?_
      refine (AllReadyH.cons (o := ({ dst := none, op := Op.store 83 (Operand.tmp 8) (Operand.tmp 59), type := 0, pos := "net.go:107", after := #[{ on := 9, ground := Ground.data }, { on := 7, ground := Ground.data }, { on := 0, ground := Ground.phase }, { on := 1, ground := Ground.phase }, { on := 2, ground := Ground.phase }, { on := 3, ground := Ground.phase }, { on := 4, ground := Ground.phase }, { on := 5, ground := Ground.phase }, { on := 6, ground := Ground.phase }, { on := 7, ground := Ground.phase }, { on := 8, ground := Ground.textOnly Departure.lateStores }, { on := 9, ground := Ground.phase }], guard := none } : Oper)) rfl (fun K hK => ?_) AllReadyH.nil)
      go_simp
      refine hK.out _ _ ?_ (fun hHeld => ?_)
      · (try dsimp only); first | exact HKS.out _ (below_drewN' ((Below.refl _ _).alloc (Nat.le_refl _) _) 1) | exact HKS.out _ ((below_drewN' (Below.refl _ _) 1).alloc (Nat.le_refl _) _)
      clear hK K
      try simp only [Act.put, List.setIfInBounds_toArray, List.set_cons_zero, List.set_cons_succ]
      refine wpAnyH_take (i := 11) (oi := ({ dst := some 9, op := Op.assign (Operand.tmp 60), type := 4, pos := "net.go:107", after := #[{ on := 8, ground := Ground.data }, { on := 10, ground := Ground.chain }, { on := 0, ground := Ground.phase }, { on := 1, ground := Ground.phase }, { on := 2, ground := Ground.phase }, { on := 3, ground := Ground.phase }, { on := 4, ground := Ground.phase }, { on := 5, ground := Ground.phase }, { on := 6, ground := Ground.phase }, { on := 7, ground := Ground.phase }, { on := 8, ground := Ground.phase }, { on := 9, ground := Ground.phase }, { on := 10, ground := Ground.phase }], guard := none } : Oper)) (v := ?vg9) rfl (by kernel_rfl) (by kernel_rfl) (by kernel_rfl) (fun _ _ _ h => h) (Or.inl ⟨by rfl, ?hyg9⟩) (by assumption) ?restg9
      case hyg9 => intro w hSw; (try dsimp only at hSw); go_simp; all_goals (with_reducible rfl)
      try simp only [Act.put, List.setIfInBounds_toArray, List.set_cons_zero, List.set_cons_succ]
      refine wpAnyH_done (by kernel_rfl) ?_ _
      go_wp2_with fail
      go_meet
      exact ⟨_, rfl, rfl, hHeld.1⟩
    · go_simp
      refine hK.out _ _ ?_ (fun hHeld => ?_)
      · (try dsimp only); exact HKS.out _ (hHeld.1.alloc hHeld.1.size _)
      clear hK K
      try simp only [Act.put, List.setIfInBounds_toArray, List.set_cons_zero, List.set_cons_succ]
      refine wpAnyH_ready (rs := [5]) (by kernel_rfl) (by simp) ?_
      refine (AllReadyH.cons (o := ({ dst := some 58, op := Op.lookup 97 (Operand.tmp 56) (Operand.tmp 57) true, type := 104, pos := "net.go:107", after := #[{ on := 3, ground := Ground.data }, { on := 4, ground := Ground.data }], guard := none } : Oper)) rfl (fun K hK => ?_) AllReadyH.nil)
      obtain ⟨zf, zt, zs, zx, hlk⟩ := HLK.out _ hHeld.1
      go_simp
      refine hK.out _ _ ?_ (fun hHeld => ?_)
      · (try dsimp only); exact hHeld
      clear hK K
      try simp only [Act.put, List.setIfInBounds_toArray, List.set_cons_zero, List.set_cons_succ]
      refine wpAnyH_take (i := 6) (oi := ({ dst := some 52, op := Op.move (Operand.tmp 58), type := 104, pos := "net.go:107", after := #[{ on := 5, ground := Ground.data }], guard := none } : Oper)) (v := ?vg10) rfl (by kernel_rfl) (by kernel_rfl) (by kernel_rfl) (fun _ _ _ h => h) (Or.inl ⟨by rfl, ?hyg10⟩) (by assumption) ?restg10
      case hyg10 => intro w hSw; (try dsimp only at hSw); go_simp; all_goals (with_reducible rfl)
      try simp only [Act.put, List.setIfInBounds_toArray, List.set_cons_zero, List.set_cons_succ]
      refine wpAnyH_take (i := 7) (oi := ({ dst := some 59, op := Op.extract (Operand.tmp 52) 0, type := 83, pos := "net.go:107", after := #[{ on := 6, ground := Ground.data }], guard := none } : Oper)) (v := ?vg11) rfl (by kernel_rfl) (by kernel_rfl) (by kernel_rfl) (fun _ _ _ h => h) (Or.inl ⟨by rfl, ?hyg11⟩) (by assumption) ?restg11
      case hyg11 => intro w hSw; (try dsimp only at hSw); go_simp; all_goals (with_reducible rfl)
      try simp only [Act.put, List.setIfInBounds_toArray, List.set_cons_zero, List.set_cons_succ]
      refine wpAnyH_take (i := 8) (oi := ({ dst := some 60, op := Op.extract (Operand.tmp 52) 1, type := 4, pos := "net.go:107", after := #[{ on := 6, ground := Ground.data }, { on := 10, ground := Ground.gcOnly Departure.lateStores }], guard := none } : Oper)) (v := ?vg12) rfl (by kernel_rfl) (by kernel_rfl) (by kernel_rfl) (fun _ _ _ h => h) (Or.inl ⟨by rfl, ?hyg12⟩) (by assumption) ?restg12
      case hyg12 => intro w hSw; (try dsimp only at hSw); go_simp; all_goals (with_reducible rfl)
      try simp only [Act.put, List.setIfInBounds_toArray, List.set_cons_zero, List.set_cons_succ]
      refine wpAnyH_ready (rs := [10]) (by kernel_rfl) (by simp) ?_
      refine (AllReadyH.cons (o := ({ dst := none, op := Op.store 83 (Operand.tmp 8) (Operand.tmp 59), type := 0, pos := "net.go:107", after := #[{ on := 9, ground := Ground.data }, { on := 7, ground := Ground.data }, { on := 0, ground := Ground.phase }, { on := 1, ground := Ground.phase }, { on := 2, ground := Ground.phase }, { on := 3, ground := Ground.phase }, { on := 4, ground := Ground.phase }, { on := 5, ground := Ground.phase }, { on := 6, ground := Ground.phase }, { on := 7, ground := Ground.phase }, { on := 8, ground := Ground.textOnly Departure.lateStores }, { on := 9, ground := Ground.phase }], guard := none } : Oper)) rfl (fun K hK => ?_) AllReadyH.nil)
      go_simp
      refine hK.out _ _ ?_ (fun hHeld => ?_)
      · (try dsimp only); first | exact HKS.out _ (below_drewN' ((Below.refl _ _).alloc (Nat.le_refl _) _) 1) | exact HKS.out _ ((below_drewN' (Below.refl _ _) 1).alloc (Nat.le_refl _) _)
      clear hK K
      try simp only [Act.put, List.setIfInBounds_toArray, List.set_cons_zero, List.set_cons_succ]
      refine wpAnyH_take (i := 11) (oi := ({ dst := some 9, op := Op.assign (Operand.tmp 60), type := 4, pos := "net.go:107", after := #[{ on := 8, ground := Ground.data }, { on := 10, ground := Ground.chain }, { on := 0, ground := Ground.phase }, { on := 1, ground := Ground.phase }, { on := 2, ground := Ground.phase }, { on := 3, ground := Ground.phase }, { on := 4, ground := Ground.phase }, { on := 5, ground := Ground.phase }, { on := 6, ground := Ground.phase }, { on := 7, ground := Ground.phase }, { on := 8, ground := Ground.phase }, { on := 9, ground := Ground.phase }, { on := 10, ground := Ground.phase }], guard := none } : Oper)) (v := ?vg13) rfl (by kernel_rfl) (by kernel_rfl) (by kernel_rfl) (fun _ _ _ h => h) (Or.inl ⟨by rfl, ?hyg13⟩) (by assumption) ?restg13
      case hyg13 => intro w hSw; (try dsimp only at hSw); go_simp; all_goals (with_reducible rfl)
      try simp only [Act.put, List.setIfInBounds_toArray, List.set_cons_zero, List.set_cons_succ]
      refine wpAnyH_done (by kernel_rfl) ?_ _
      go_wp2_with fail
      go_meet
      exact ⟨_, rfl, rfl, hHeld.1⟩
  case rest =>
    obtain ⟨w5, rfl, rfl, hb5⟩ := hcut
    have HB5 := Lib.hid hb5
    obtain ⟨hmm1, hmm2⟩ := hmm
    cases ok with
    | true =>
      have HEE := Lib.hid (HEND0.out rfl w5 hb5)
      clear hb5
      go_wp2_with fail
      go_ret
      exact ⟨rfl, HEE.out⟩
    | false =>
      obtain ⟨W6, q1, q2, q3, q4, q5⟩ := HEND1.out rfl w5.drew (below_drewN' hb5 1)
      have HMU := Lib.hid q1; have HK6 := Lib.hid q2; have HEE := Lib.hid q5
      clear hb5 q1 q2 q5
      go_upto_region 11 with fail
      refine wp_region_held_drew (S := fun w' => w'.cell? ⟨b, 3, none⟩ = some (.map (some cb)) ∧ w'.cell? ⟨kb, 0, none⟩ = some (.int .i64 f) ∧ w'.cell? ⟨kb, 1, none⟩ = some (.int .i64 t) ∧ w'.cell? ⟨kb, 2, none⟩ = some (.int .i64 s) ∧ w'.cell? ⟨lb, 0, none⟩ = some (.int .i64 f) ∧ w'.cell? ⟨lb, 1, none⟩ = some (.int .i64 t) ∧ w'.cell? ⟨lb, 2, none⟩ = some (.int .i64 s) ∧ w'.cell? ⟨lb, 3, none⟩ = some (.string x)) (by kernel_rfl) ?_ (fun hHeld => ?_)
      · (try dsimp only); exact (HKS.out _ (below_drewN' HB5.out 1)).2
      refine wpAnyH_take (i := 0) (oi := ({ dst := some 63, op := Op.move (Operand.tmp 0), type := 62, pos := "net.go:108", after := #[], guard := none } : Oper)) (v := ?vh1) rfl (by kernel_rfl) (by kernel_rfl) (by kernel_rfl) (fun _ _ _ h => h) (Or.inl ⟨by rfl, ?hyh1⟩) (by assumption) ?resth1
      case hyh1 => intro w hSw; (try dsimp only at hSw); go_simp; all_goals (with_reducible rfl)
      try simp only [Act.put, List.setIfInBounds_toArray, List.set_cons_zero, List.set_cons_succ]
      refine wpAnyH_take (i := 1) (oi := ({ dst := some 64, op := Op.nilCheck (Operand.tmp 63), type := 0, pos := "net.go:108", after := #[{ on := 0, ground := Ground.data }], guard := none } : Oper)) (v := ?vh2) rfl (by kernel_rfl) (by kernel_rfl) (by kernel_rfl) (fun _ _ _ h => h) (Or.inl ⟨by rfl, ?hyh2⟩) (by assumption) ?resth2
      case hyh2 => intro w hSw; (try dsimp only at hSw); go_simp; all_goals (with_reducible rfl)
      try simp only [Act.put, List.setIfInBounds_toArray, List.set_cons_zero, List.set_cons_succ]
      refine wpAnyH_take (i := 2) (oi := ({ dst := some 65, op := Op.fieldAddr 99 (Operand.tmp 64) 3, type := 0, pos := "net.go:108", after := #[{ on := 1, ground := Ground.data }], guard := none } : Oper)) (v := ?vh3) rfl (by kernel_rfl) (by kernel_rfl) (by kernel_rfl) (fun _ _ _ h => h) (Or.inl ⟨by rfl, ?hyh3⟩) (by assumption) ?resth3
      case hyh3 => intro w hSw; (try dsimp only at hSw); go_simp; all_goals (with_reducible rfl)
      try simp only [Act.put, List.setIfInBounds_toArray, List.set_cons_zero, List.set_cons_succ]
      refine wpAnyH_take (i := 3) (oi := ({ dst := some 66, op := Op.load 97 (Operand.tmp 65), type := 97, pos := "net.go:108", after := #[{ on := 2, ground := Ground.data }], guard := none } : Oper)) (v := ?vh4) rfl (by kernel_rfl) (by kernel_rfl) (by kernel_rfl) (fun _ _ _ h => h) (Or.inl ⟨by rfl, ?hyh4⟩) (by assumption) ?resth4
      case hyh4 => intro w hSw; (try dsimp only at hSw); go_simp; all_goals (with_reducible rfl)
      try simp only [Act.put, List.setIfInBounds_toArray, List.set_cons_zero, List.set_cons_succ]
      refine wpAnyH_take (i := 4) (oi := ({ dst := some 67, op := Op.load 103 (Operand.tmp 7), type := 103, pos := "net.go:108", after := #[], guard := none } : Oper)) (v := ?vh5) rfl (by kernel_rfl) (by kernel_rfl) (by kernel_rfl) (fun _ _ _ h => h) (Or.inl ⟨by rfl, ?hyh5⟩) (by assumption) ?resth5
      case hyh5 => intro w hSw; (try dsimp only at hSw); go_simp; all_goals (with_reducible rfl)
      try simp only [Act.put, List.setIfInBounds_toArray, List.set_cons_zero, List.set_cons_succ]
      refine wpAnyH_take (i := 5) (oi := ({ dst := some 68, op := Op.load 83 (Operand.tmp 6), type := 83, pos := "net.go:108", after := #[], guard := none } : Oper)) (v := ?vh6) rfl (by kernel_rfl) (by kernel_rfl) (by kernel_rfl) (fun _ _ _ h => h) (Or.inl ⟨by rfl, ?hyh6⟩) (by assumption) ?resth6
      case hyh6 => intro w hSw; (try dsimp only at hSw); go_simp; all_goals (with_reducible rfl)
      try simp only [Act.put, List.setIfInBounds_toArray, List.set_cons_zero, List.set_cons_succ]
      refine wpAnyH_ready (rs := [6]) (by kernel_rfl) (by simp) ?_
      refine (AllReadyH.cons (o := ({ dst := none, op := Op.mapUpdate 97 (Operand.tmp 66) (Operand.tmp 67) (Operand.tmp 68), type := 0, pos := "net.go:108", after := #[{ on := 3, ground := Ground.data }, { on := 4, ground := Ground.data }, { on := 5, ground := Ground.data }, { on := 0, ground := Ground.phase }, { on := 1, ground := Ground.phase }, { on := 2, ground := Ground.phase }, { on := 3, ground := Ground.phase }, { on := 4, ground := Ground.phase }, { on := 5, ground := Ground.phase }], guard := none } : Oper)) rfl (fun K hK => ?_) AllReadyH.nil)
      have hmu := HMU.out
      go_simp
      refine hK.out _ _ ?_ (fun hHeld => ?_)
      · (try dsimp only); exact HK6.out
      clear hK K
      try simp only [Act.put, List.setIfInBounds_toArray, List.set_cons_zero, List.set_cons_succ]
      refine wpAnyH_done (by kernel_rfl) ?_ _
      go_wp2_with fail
      go_ret
      exact ⟨rfl, HEE.out⟩

set_option maxRecDepth 100000 in
set_option maxHeartbeats 4000000 in
theorem deliver_pos {w : World} {base N : Nat} {n : NetP} {b mb cb : Nat} {v : Value} {F G : Value → Option Value} (h : NetIn w base N n b mb cb v F G) (i : Nat) (hi0 : ¬ i = 0) (hi : i < n.fly.length) (hfl : n.fly.length ≤ 100000) (hN : N ≤ 100000) (hm1 : -100000 ≤ n.miss) (hm2 : n.miss ≤ 100000) (l : Let) (hl : n.fly[i] = l) (hf : In64 l.f) (ht : In64 l.t) (hs : In64 l.s) :
    Calls Tryd.prog 35 #[.pointer (some ⟨b, 0, none⟩), .int .i64 i] w fun e w' => e = .returned .nilIface ∧ Left w base (N + 1) (cameP (dropP n i) l) b mb cb v w' := by
  have CK := check_any ⟨b, mb, cb, v, F, G, rfl, h⟩ i
  rw [show atCode n.fly.length i = 0 from if_pos (by omega)] at CK
  have HC := Lib.hid CK
  have H := Lib.hid h
  obtain ⟨A, cap, hv, hcap, hfx⟩ := h.fly
  clear hfx
  have HM := Lib.hid (And.intro hm1 hm2); have HI := Lib.hid (And.intro hf (And.intro ht hs)); have HNN := Lib.hid hN
  obtain ⟨fl, hfln⟩ : ∃ k, n.fly.length = k := ⟨_, rfl⟩
  rw [hfln] at hv hcap
  have hi' : i < fl := by rw [← hfln]; exact hi
  have hfl' : fl ≤ 100000 := by rw [← hfln]; exact hfl
  have HL := Lib.hid hl; have HFL := Lib.hid hfln
  have HII := Lib.hid hi
  subst hv
  clear h CK hl hfln hm1 hm2 hf ht hs hN hfl
  go_enter Tryd.func35, Tryd.ntmps35
  go_wp2_with fail
  refine HC.out.mono ?_
  rintro e w1 ⟨hb0, ⟨_, rfl⟩ | ⟨h0, _⟩⟩
  case inr => exact absurd rfl h0
  have h1 := H.out.below hb0 (Nat.le_refl _)
  obtain ⟨g, off, hA, e0, e1, e2, e3⟩ := h1.fly.lets.pos (i := i) HII.out
  rw [HL.out] at e0 e1 e2 e3
  obtain ⟨f, t, s, x⟩ := l
  simp only at e0 e1 e2 e3
  subst hA
  have hb2 : Below w1.heap.size w1 (w1.alloc (.cells #[.int .i64 f, .int .i64 t, .int .i64 s, .string x] 83)) := (Below.refl _ _).alloc (Nat.le_refl _) _
  have hlb2 := Whole.new w1 83 #[.int .i64 f, .int .i64 t, .int .i64 s, .string x]
  have h2 := h1.below hb2 (Nat.le_refl _)
  have hfoot := fun k (hk : Foot b mb cb (.slice (some ⟨g, off, none⟩) fl cap) k) => (h1.foot hk).2
  obtain ⟨lb, hlbn⟩ : ∃ B, w1.heap.size = B := ⟨_, rfl⟩
  rw [hlbn] at hlb2
  have hn1 : lb ≠ b := by have := hfoot b (Or.inl rfl); omega
  have hn2 : lb ≠ cb := by have := hfoot cb (Or.inr (Or.inr (Or.inl rfl))); omega
  have hn3 : lb ≠ g := by have := hfoot g (Or.inr (Or.inr (Or.inr rfl))); omega
  have y1 : w1.cell? ⟨b, 1, none⟩ = some (.slice (some ⟨g, off, none⟩) fl cap) := h1.whole.cell 1
  have HLB := Lib.hid hlbn
  clear hlbn
  have hd := delete_one h2.fly i (i + 1) hi' rfl
  rw [show ((i + 1 : Nat) : Int) = (i : Int) + 1 by omega] at hd
  have HD := Lib.hid hd
  have p1 : (w1.alloc (.cells #[.int .i64 f, .int .i64 t, .int .i64 s, .string x] 83)).cell? ⟨b, 1, none⟩ = some (.slice (some ⟨g, off, none⟩) fl cap) := h2.whole.cell 1
  clear hd
  go_wp2_with fail
  refine HD.out.mono ?_; rintro e wd ⟨rfl, hflm, hgm⟩
  have hown : (Value.slice (some ⟨g, off, none⟩) (i + (fl - (i + 1))) cap).ownBlock = (Value.slice (some ⟨g, off, none⟩) fl cap).ownBlock := rfl
  obtain ⟨⟨x1, x2⟩, h3, hfr3⟩ := h2.refly hgm hflm hown
  have hlb3 := (hlb2.grown hgm (fun e => hn3 (by have e' : some lb = some g := e; injection e'))).other (p := ⟨b, 1, none⟩) hn1 (.slice (some ⟨g, off, none⟩) (i + (fl - (i + 1))) cap)
  have hlbm := hlb2.grown hgm (fun e => hn3 (by have e' : some lb = some g := e; injection e'))
  have nb1 : ¬ w1.heap.size = b := by rw [HLB.out]; exact hn1
  have nb2 : ¬ b = w1.heap.size := fun e => nb1 e.symm
  have d0 : wd.cell? ⟨w1.heap.size, 0, none⟩ = some (.int .i64 f) := by rw [HLB.out]; exact hlbm.cell 0
  have d1 : wd.cell? ⟨w1.heap.size, 1, none⟩ = some (.int .i64 t) := by rw [HLB.out]; exact hlbm.cell 1
  have d2 : wd.cell? ⟨w1.heap.size, 2, none⟩ = some (.int .i64 s) := by rw [HLB.out]; exact hlbm.cell 2
  clear hlbm
  obtain ⟨w3, hw3⟩ : ∃ W, wd.setCell ⟨b, 1, none⟩ (.slice (some ⟨g, off, none⟩) (i + (fl - (i + 1))) cap) = W := ⟨_, rfl⟩
  rw [hw3] at h3 hfr3 hlb3
  obtain ⟨w4, hw4⟩ : ∃ W, w3.alloc (.cells #[.int .i64 f, .int .i64 t, .int .i64 s] 103) = W := ⟨_, rfl⟩
  obtain ⟨k1, k2, k3⟩ := dlv_mem (n := dropP n i) h3 ⟨f, t, s, x⟩ HI.out.1 HI.out.2.1 HI.out.2.2 hlb3 hn2 HNN.out hw4.symm
  have hb4 : Below w3.heap.size w3 w4 := by rw [← hw4]; exact (Below.refl _ _).alloc (Nat.le_refl _) _
  obtain ⟨kb, hkbn⟩ : ∃ B, w3.heap.size = B := ⟨_, rfl⟩
  rw [hkbn] at k1 k3
  have hfr4 : Fr w.heap.size (Foot b mb cb (.slice (some ⟨g, off, none⟩) fl cap)) w w4 :=
    (((Fr.of_below (R := Foot b mb cb (.slice (some ⟨g, off, none⟩) fl cap)) hb0 (Nat.le_refl _)).trans (Fr.of_below hb2 hb0.size)).trans (hfr3.less (Nat.le_trans hb0.size hb2.size))).trans (Fr.of_below hb4 (Nat.le_trans (Nat.le_trans hb0.size hb2.size) hfr3.size))
  obtain ⟨m, hm⟩ : ∃ m, n.miss = m := ⟨_, rfl⟩
  have hmd : (dropP n i).miss = m := hm
  obtain ⟨ok, hok⟩ : ∃ ok, (n.came f t s).isSome = ok := ⟨_, rfl⟩
  have hokd : ((dropP n i).came f t s).isSome = ok := hok
  simp only [hokd, hmd] at k1 k3
  have HKS : Hid (∀ W, Below w4.heap.size w4 W → Below w4.heap.size w4 W ∧ DlvC b cb kb lb ⟨f, t, s, x⟩ W) := fun W hW => ⟨hW, (k1 W hW).1⟩
  have HLK : Hid (∀ W, Below w4.heap.size w4 W → ∃ (zf zt zs : Int) (zx : ByteArray), (Instr.lookup 97 (.map (some cb)) (.agg #[.int .i64 f, .int .i64 t, .int .i64 s]) true).run Tryd.prog W = .ok (.tuple #[.agg #[.int .i64 zf, .int .i64 zt, .int .i64 zs, .string zx], .bool ok]) W) := fun W hW => by
    obtain ⟨z, hz⟩ := (k1 W hW).2
    exact ⟨_, _, _, _, hz⟩
  have hmm := HM.out
  rw [hm] at hmm
  have HEND0 : Hid (ok = true → ∀ W, Below w4.heap.size w4 W → Left w base (N + 1) (cameP (dropP n i) ⟨f, t, s, x⟩) b mb cb (.slice (some ⟨g, off, none⟩) fl cap) W) := fun h0 W hW => by
    rw [show cameP (dropP n i) ⟨f, t, s, x⟩ = dropP n i from if_pos (hokd.trans h0)]
    have hz := k2 W hW
    exact ⟨_, F, G, { hz with sent := hz.sent.mono (Nat.le_succ _), came := hz.came.mono (Nat.le_succ _) }, hfr4.trans (Fr.of_below hW hfr4.size), Or.inl hown⟩
  have HEND1 : Hid (ok = false → ∀ W, Below w4.heap.size w4 W → ∃ W6, (Instr.mapUpdate 97 (.map (some cb)) (.agg #[.int .i64 f, .int .i64 t, .int .i64 s]) (.agg #[.int .i64 f, .int .i64 t, .int .i64 s, .string x])).run Tryd.prog W = .ok () W6 ∧
      DlvC b cb kb lb ⟨f, t, s, x⟩ W6 ∧ W6.cell? ⟨b, 4, none⟩ = some (.int .i64 m) ∧ W6.frozen? ⟨b, 4, none⟩ = false ∧ Left w base (N + 1) (cameP (dropP n i) ⟨f, t, s, x⟩) b mb cb (.slice (some ⟨g, off, none⟩) fl cap) (W6.setCell ⟨b, 4, none⟩ (.int .i64 (m - 1)))) := fun h0 W hW => by
    obtain ⟨W6, G', q1, q2, q3, q4, q5, q6⟩ := k3 W hW h0
    have hWs := Nat.le_trans hfr4.size hW.size
    refine ⟨W6, q1, q2, q3, q4, _, F, G', q5, (hfr4.trans (Fr.of_below hW hfr4.size)).trans ((q6.mono fun k hk hr => ?_).less hWs), Or.inl hown⟩
    rcases hr with e | e | e | e
    · exact Or.inl e
    · exact Or.inr (Or.inl e)
    · exact Or.inr (Or.inr (Or.inl e))
    · exact Or.inr (Or.inr (Or.inr (hown.symm.trans e)))
  have HW3 := Lib.hid hw3; have HW4 := Lib.hid hw4; have HKB := Lib.hid hkbn
  have HKX := Lib.hid (show wd.heap.size = kb from by rw [← hkbn, ← hw3]; simp [World.setCell])
  have HXX := Lib.hid (And.intro x1 x2)
  clear hlb2 hfoot hn1 hn2 hn3 h3 hfr3 hlb3 k1 k2 k3 hb4 hfr4 hm hmd hok hokd hw3 hw4 hkbn hgm hflm hown
  go_upto_region 9 with fail
  rw [HLB.out, HW3.out, HW4.out, HKX.out]
  go_cut [9] (fun x wx => C9 ok w4 x wx)
  case first =>
    refine wp_region_held_drew (S := fun w' => Below w4.heap.size w4 w' ∧ w'.cell? ⟨b, 3, none⟩ = some (.map (some cb)) ∧ w'.cell? ⟨kb, 0, none⟩ = some (.int .i64 f) ∧ w'.cell? ⟨kb, 1, none⟩ = some (.int .i64 t) ∧ w'.cell? ⟨kb, 2, none⟩ = some (.int .i64 s) ∧ w'.cell? ⟨lb, 0, none⟩ = some (.int .i64 f) ∧ w'.cell? ⟨lb, 1, none⟩ = some (.int .i64 t) ∧ w'.cell? ⟨lb, 2, none⟩ = some (.int .i64 s) ∧ w'.cell? ⟨lb, 3, none⟩ = some (.string x)) (by kernel_rfl) ?_ (fun hHeld => ?_)
    · (try dsimp only); exact HKS.out _ (below_drewN' (Below.refl _ _) 1)
    refine wpAnyH_take (i := 0) (oi := ({ dst := some 53, op := Op.move (Operand.tmp 0), type := 62, pos := "net.go:107", after := #[], guard := none } : Oper)) (v := ?vg1) rfl (by kernel_rfl) (by kernel_rfl) (by kernel_rfl) (fun _ _ _ h => h) (Or.inl ⟨by rfl, ?hyg1⟩) (by assumption) ?restg1
    case hyg1 => intro w hSw; (try dsimp only at hSw); go_simp; all_goals (with_reducible rfl)
    try simp only [Act.put, List.setIfInBounds_toArray, List.set_cons_zero, List.set_cons_succ]
    refine wpAnyH_take (i := 1) (oi := ({ dst := some 54, op := Op.nilCheck (Operand.tmp 53), type := 0, pos := "net.go:107", after := #[{ on := 0, ground := Ground.data }], guard := none } : Oper)) (v := ?vg2) rfl (by kernel_rfl) (by kernel_rfl) (by kernel_rfl) (fun _ _ _ h => h) (Or.inl ⟨by rfl, ?hyg2⟩) (by assumption) ?restg2
    case hyg2 => intro w hSw; (try dsimp only at hSw); go_simp; all_goals (with_reducible rfl)
    try simp only [Act.put, List.setIfInBounds_toArray, List.set_cons_zero, List.set_cons_succ]
    refine wpAnyH_take (i := 2) (oi := ({ dst := some 55, op := Op.fieldAddr 99 (Operand.tmp 54) 3, type := 0, pos := "net.go:107", after := #[{ on := 1, ground := Ground.data }], guard := none } : Oper)) (v := ?vg3) rfl (by kernel_rfl) (by kernel_rfl) (by kernel_rfl) (fun _ _ _ h => h) (Or.inl ⟨by rfl, ?hyg3⟩) (by assumption) ?restg3
    case hyg3 => intro w hSw; (try dsimp only at hSw); go_simp; all_goals (with_reducible rfl)
    try simp only [Act.put, List.setIfInBounds_toArray, List.set_cons_zero, List.set_cons_succ]
    refine wpAnyH_take (i := 3) (oi := ({ dst := some 56, op := Op.load 97 (Operand.tmp 55), type := 97, pos := "net.go:107", after := #[{ on := 2, ground := Ground.data }], guard := none } : Oper)) (v := ?vg4) rfl (by kernel_rfl) (by kernel_rfl) (by kernel_rfl) (fun _ _ _ h => h) (Or.inl ⟨by rfl, ?hyg4⟩) (by assumption) ?restg4
    case hyg4 => intro w hSw; (try dsimp only at hSw); go_simp; all_goals (with_reducible rfl)
    try simp only [Act.put, List.setIfInBounds_toArray, List.set_cons_zero, List.set_cons_succ]
    refine wpAnyH_take (i := 4) (oi := ({ dst := some 57, op := Op.load 103 (Operand.tmp 7), type := 103, pos := "net.go:107", after := #[], guard := none } : Oper)) (v := ?vg5) rfl (by kernel_rfl) (by kernel_rfl) (by kernel_rfl) (fun _ _ _ h => h) (Or.inl ⟨by rfl, ?hyg5⟩) (by assumption) ?restg5
    case hyg5 => intro w hSw; (try dsimp only at hSw); go_simp; all_goals (with_reducible rfl)
    try simp only [Act.put, List.setIfInBounds_toArray, List.set_cons_zero, List.set_cons_succ]
    refine wpAnyH_ready (rs := [5, 9]) (by kernel_rfl) (by simp) ?_
    refine (AllReadyH.cons (o := ({ dst := some 58, op := Op.lookup 97 (Operand.tmp 56) (Operand.tmp 57) true, type := 104, pos := "net.go:107", after := #[{ on := 3, ground := Ground.data }, { on := 4, ground := Ground.data }], guard := none } : Oper)) rfl (fun K hK => ?_) (AllReadyH.cons (o := ({ dst := some 8, op := Op.alloc 83, type := 0, pos := "net.go:107", after := #[], guard := none } : Oper)) rfl (fun K hK => ?_) AllReadyH.nil))
    · obtain ⟨zf, zt, zs, zx, hlk⟩ := HLK.out _ hHeld.1
      go_simp
      refine hK.out _ _ ?_ (fun hHeld => ?_)
      · (try dsimp only); exact hHeld
      clear hK K
      try simp only [Act.put, List.setIfInBounds_toArray, List.set_cons_zero, List.set_cons_succ]
      refine wpAnyH_take (i := 6) (oi := ({ dst := some 52, op := Op.move (Operand.tmp 58), type := 104, pos := "net.go:107", after := #[{ on := 5, ground := Ground.data }], guard := none } : Oper)) (v := ?vg6) rfl (by kernel_rfl) (by kernel_rfl) (by kernel_rfl) (fun _ _ _ h => h) (Or.inl ⟨by rfl, ?hyg6⟩) (by assumption) ?restg6
      case hyg6 => intro w hSw; (try dsimp only at hSw); go_simp; all_goals (with_reducible rfl)
      try simp only [Act.put, List.setIfInBounds_toArray, List.set_cons_zero, List.set_cons_succ]
      refine wpAnyH_take (i := 7) (oi := ({ dst := some 59, op := Op.extract (Operand.tmp 52) 0, type := 83, pos := "net.go:107", after := #[{ on := 6, ground := Ground.data }], guard := none } : Oper)) (v := ?vg7) rfl (by kernel_rfl) (by kernel_rfl) (by kernel_rfl) (fun _ _ _ h => h) (Or.inl ⟨by rfl, ?hyg7⟩) (by assumption) ?restg7
      case hyg7 => intro w hSw; (try dsimp only at hSw); go_simp; all_goals (with_reducible rfl)
      try simp only [Act.put, List.setIfInBounds_toArray, List.set_cons_zero, List.set_cons_succ]
      refine wpAnyH_take (i := 8) (oi := ({ dst := some 60, op := Op.extract (Operand.tmp 52) 1, type := 4, pos := "net.go:107", after := #[{ on := 6, ground := Ground.data }, { on := 10, ground := Ground.gcOnly Departure.lateStores }], guard := none } : Oper)) (v := ?vg8) rfl (by kernel_rfl) (by kernel_rfl) (by kernel_rfl) (fun _ _ _ h => h) (Or.inl ⟨by rfl, ?hyg8⟩) (by assumption) ?restg8
      case hyg8 => intro w hSw; (try dsimp only at hSw); go_simp; all_goals (with_reducible rfl)
      try simp only [Act.put, List.setIfInBounds_toArray, List.set_cons_zero, List.set_cons_succ]
      refine wpAnyH_ready (rs := [9]) (by kernel_rfl) (by simp) ?_
      refine (AllReadyH.cons (o := ({ dst := some 8, op := Op.alloc 83, type := 0, pos := "net.go:107", after := #[], guard := none } : Oper)) rfl (fun K hK => ?_) AllReadyH.nil)
      go_simp
      refine hK.out _ _ ?_ (fun hHeld => ?_)
      · (try dsimp only); exact HKS.out _ (hHeld.1.alloc hHeld.1.size _)
      clear hK K
      try simp only [Act.put, List.setIfInBounds_toArray, List.set_cons_zero, List.set_cons_succ]
      refine wpAnyH_ready (rs := [10]) (by kernel_rfl) (by simp) ?_
      refine (AllReadyH.cons (o := ({ dst := none, op := Op.store 83 (Operand.tmp 8) (Operand.tmp 59), type := 0, pos := "net.go:107", after := #[{ on := 9, ground := Ground.data }, { on := 7, ground := Ground.data }, { on := 0, ground := Ground.phase }, { on := 1, ground := Ground.phase }, { on := 2, ground := Ground.phase }, { on := 3, ground := Ground.phase }, { on := 4, ground := Ground.phase }, { on := 5, ground := Ground.phase }, { on := 6, ground := Ground.phase }, { on := 7, ground := Ground.phase }, { on := 8, ground := Ground.textOnly Departure.lateStores }, { on := 9, ground := Ground.phase }], guard := none } : Oper)) rfl (fun K hK => ?_) AllReadyH.nil)
      go_simp
      refine hK.out _ _ ?_ (fun hHeld => ?_)
      · (try dsimp only); first | exact HKS.out _ (below_drewN' ((Below.refl _ _).alloc (Nat.le_refl _) _) 1) | exact HKS.out _ ((below_drewN' (Below.refl _ _) 1).alloc (Nat.le_refl _) _)
      clear hK K
      try simp only [Act.put, List.setIfInBounds_toArray, List.set_cons_zero, List.set_cons_succ]
      refine wpAnyH_take (i := 11) (oi := ({ dst := some 9, op := Op.assign (Operand.tmp 60), type := 4, pos := "net.go:107", after := #[{ on := 8, ground := Ground.data }, { on := 10, ground := Ground.chain }, { on := 0, ground := Ground.phase }, { on := 1, ground := Ground.phase }, { on := 2, ground := Ground.phase }, { on := 3, ground := Ground.phase }, { on := 4, ground := Ground.phase }, { on := 5, ground := Ground.phase }, { on := 6, ground := Ground.phase }, { on := 7, ground := Ground.phase }, { on := 8, ground := Ground.phase }, { on := 9, ground := Ground.phase }, { on := 10, ground := Ground.phase }], guard := none } : Oper)) (v := ?vg9) rfl (by kernel_rfl) (by kernel_rfl) (by kernel_rfl) (fun _ _ _ h => h) (Or.inl ⟨by rfl, ?hyg9⟩) (by assumption) ?restg9
      case hyg9 => intro w hSw; (try dsimp only at hSw); go_simp; all_goals (with_reducible rfl)
      try simp only [Act.put, List.setIfInBounds_toArray, List.set_cons_zero, List.set_cons_succ]
      refine wpAnyH_done (by kernel_rfl) ?_ _
      go_wp2_with fail
      go_meet
      exact ⟨_, rfl, rfl, hHeld.1⟩
    · go_simp
      refine hK.out _ _ ?_ (fun hHeld => ?_)
      · (try dsimp only); exact HKS.out _ (hHeld.1.alloc hHeld.1.size _)
      clear hK K
      try simp only [Act.put, List.setIfInBounds_toArray, List.set_cons_zero, List.set_cons_succ]
      refine wpAnyH_ready (rs := [5]) (by kernel_rfl) (by simp) ?_
      refine (AllReadyH.cons (o := ({ dst := some 58, op := Op.lookup 97 (Operand.tmp 56) (Operand.tmp 57) true, type := 104, pos := "net.go:107", after := #[{ on := 3, ground := Ground.data }, { on := 4, ground := Ground.data }], guard := none } : Oper)) rfl (fun K hK => ?_) AllReadyH.nil)
      obtain ⟨zf, zt, zs, zx, hlk⟩ := HLK.out _ hHeld.1
      go_simp
      refine hK.out _ _ ?_ (fun hHeld => ?_)
      · (try dsimp only); exact hHeld
      clear hK K
      try simp only [Act.put, List.setIfInBounds_toArray, List.set_cons_zero, List.set_cons_succ]
      refine wpAnyH_take (i := 6) (oi := ({ dst := some 52, op := Op.move (Operand.tmp 58), type := 104, pos := "net.go:107", after := #[{ on := 5, ground := Ground.data }], guard := none } : Oper)) (v := ?vg10) rfl (by kernel_rfl) (by kernel_rfl) (by kernel_rfl) (fun _ _ _ h => h) (Or.inl ⟨by rfl, ?hyg10⟩) (by assumption) ?restg10
      case hyg10 => intro w hSw; (try dsimp only at hSw); go_simp; all_goals (with_reducible rfl)
      try simp only [Act.put, List.setIfInBounds_toArray, List.set_cons_zero, List.set_cons_succ]
      refine wpAnyH_take (i := 7) (oi := ({ dst := some 59, op := Op.extract (Operand.tmp 52) 0, type := 83, pos := "net.go:107", after := #[{ on := 6, ground := Ground.data }], guard := none } : Oper)) (v := ?vg11) rfl (by kernel_rfl) (by kernel_rfl) (by kernel_rfl) (fun _ _ _ h => h) (Or.inl ⟨by rfl, ?hyg11⟩) (by assumption) ?restg11
      case hyg11 => intro w hSw; (try dsimp only at hSw); go_simp; all_goals (with_reducible rfl)
      try simp only [Act.put, List.setIfInBounds_toArray, List.set_cons_zero, List.set_cons_succ]
      refine wpAnyH_take (i := 8) (oi := ({ dst := some 60, op := Op.extract (Operand.tmp 52) 1, type := 4, pos := "net.go:107", after := #[{ on := 6, ground := Ground.data }, { on := 10, ground := Ground.gcOnly Departure.lateStores }], guard := none } : Oper)) (v := ?vg12) rfl (by kernel_rfl) (by kernel_rfl) (by kernel_rfl) (fun _ _ _ h => h) (Or.inl ⟨by rfl, ?hyg12⟩) (by assumption) ?restg12
      case hyg12 => intro w hSw; (try dsimp only at hSw); go_simp; all_goals (with_reducible rfl)
      try simp only [Act.put, List.setIfInBounds_toArray, List.set_cons_zero, List.set_cons_succ]
      refine wpAnyH_ready (rs := [10]) (by kernel_rfl) (by simp) ?_
      refine (AllReadyH.cons (o := ({ dst := none, op := Op.store 83 (Operand.tmp 8) (Operand.tmp 59), type := 0, pos := "net.go:107", after := #[{ on := 9, ground := Ground.data }, { on := 7, ground := Ground.data }, { on := 0, ground := Ground.phase }, { on := 1, ground := Ground.phase }, { on := 2, ground := Ground.phase }, { on := 3, ground := Ground.phase }, { on := 4, ground := Ground.phase }, { on := 5, ground := Ground.phase }, { on := 6, ground := Ground.phase }, { on := 7, ground := Ground.phase }, { on := 8, ground := Ground.textOnly Departure.lateStores }, { on := 9, ground := Ground.phase }], guard := none } : Oper)) rfl (fun K hK => ?_) AllReadyH.nil)
      go_simp
      refine hK.out _ _ ?_ (fun hHeld => ?_)
      · (try dsimp only); first | exact HKS.out _ (below_drewN' ((Below.refl _ _).alloc (Nat.le_refl _) _) 1) | exact HKS.out _ ((below_drewN' (Below.refl _ _) 1).alloc (Nat.le_refl _) _)
      clear hK K
      try simp only [Act.put, List.setIfInBounds_toArray, List.set_cons_zero, List.set_cons_succ]
      refine wpAnyH_take (i := 11) (oi := ({ dst := some 9, op := Op.assign (Operand.tmp 60), type := 4, pos := "net.go:107", after := #[{ on := 8, ground := Ground.data }, { on := 10, ground := Ground.chain }, { on := 0, ground := Ground.phase }, { on := 1, ground := Ground.phase }, { on := 2, ground := Ground.phase }, { on := 3, ground := Ground.phase }, { on := 4, ground := Ground.phase }, { on := 5, ground := Ground.phase }, { on := 6, ground := Ground.phase }, { on := 7, ground := Ground.phase }, { on := 8, ground := Ground.phase }, { on := 9, ground := Ground.phase }, { on := 10, ground := Ground.phase }], guard := none } : Oper)) (v := ?vg13) rfl (by kernel_rfl) (by kernel_rfl) (by kernel_rfl) (fun _ _ _ h => h) (Or.inl ⟨by rfl, ?hyg13⟩) (by assumption) ?restg13
      case hyg13 => intro w hSw; (try dsimp only at hSw); go_simp; all_goals (with_reducible rfl)
      try simp only [Act.put, List.setIfInBounds_toArray, List.set_cons_zero, List.set_cons_succ]
      refine wpAnyH_done (by kernel_rfl) ?_ _
      go_wp2_with fail
      go_meet
      exact ⟨_, rfl, rfl, hHeld.1⟩
  case rest =>
    obtain ⟨w5, rfl, rfl, hb5⟩ := hcut
    have HB5 := Lib.hid hb5
    obtain ⟨hmm1, hmm2⟩ := hmm
    cases ok with
    | true =>
      have HEE := Lib.hid (HEND0.out rfl w5 hb5)
      clear hb5
      go_wp2_with fail
      go_ret
      exact ⟨rfl, HEE.out⟩
    | false =>
      obtain ⟨W6, q1, q2, q3, q4, q5⟩ := HEND1.out rfl w5.drew (below_drewN' hb5 1)
      have HMU := Lib.hid q1; have HK6 := Lib.hid q2; have HEE := Lib.hid q5
      clear hb5 q1 q2 q5
      go_upto_region 11 with fail
      refine wp_region_held_drew (S := fun w' => w'.cell? ⟨b, 3, none⟩ = some (.map (some cb)) ∧ w'.cell? ⟨kb, 0, none⟩ = some (.int .i64 f) ∧ w'.cell? ⟨kb, 1, none⟩ = some (.int .i64 t) ∧ w'.cell? ⟨kb, 2, none⟩ = some (.int .i64 s) ∧ w'.cell? ⟨lb, 0, none⟩ = some (.int .i64 f) ∧ w'.cell? ⟨lb, 1, none⟩ = some (.int .i64 t) ∧ w'.cell? ⟨lb, 2, none⟩ = some (.int .i64 s) ∧ w'.cell? ⟨lb, 3, none⟩ = some (.string x)) (by kernel_rfl) ?_ (fun hHeld => ?_)
      · (try dsimp only); exact (HKS.out _ (below_drewN' HB5.out 1)).2
      refine wpAnyH_take (i := 0) (oi := ({ dst := some 63, op := Op.move (Operand.tmp 0), type := 62, pos := "net.go:108", after := #[], guard := none } : Oper)) (v := ?vh1) rfl (by kernel_rfl) (by kernel_rfl) (by kernel_rfl) (fun _ _ _ h => h) (Or.inl ⟨by rfl, ?hyh1⟩) (by assumption) ?resth1
      case hyh1 => intro w hSw; (try dsimp only at hSw); go_simp; all_goals (with_reducible rfl)
      try simp only [Act.put, List.setIfInBounds_toArray, List.set_cons_zero, List.set_cons_succ]
      refine wpAnyH_take (i := 1) (oi := ({ dst := some 64, op := Op.nilCheck (Operand.tmp 63), type := 0, pos := "net.go:108", after := #[{ on := 0, ground := Ground.data }], guard := none } : Oper)) (v := ?vh2) rfl (by kernel_rfl) (by kernel_rfl) (by kernel_rfl) (fun _ _ _ h => h) (Or.inl ⟨by rfl, ?hyh2⟩) (by assumption) ?resth2
      case hyh2 => intro w hSw; (try dsimp only at hSw); go_simp; all_goals (with_reducible rfl)
      try simp only [Act.put, List.setIfInBounds_toArray, List.set_cons_zero, List.set_cons_succ]
      refine wpAnyH_take (i := 2) (oi := ({ dst := some 65, op := Op.fieldAddr 99 (Operand.tmp 64) 3, type := 0, pos := "net.go:108", after := #[{ on := 1, ground := Ground.data }], guard := none } : Oper)) (v := ?vh3) rfl (by kernel_rfl) (by kernel_rfl) (by kernel_rfl) (fun _ _ _ h => h) (Or.inl ⟨by rfl, ?hyh3⟩) (by assumption) ?resth3
      case hyh3 => intro w hSw; (try dsimp only at hSw); go_simp; all_goals (with_reducible rfl)
      try simp only [Act.put, List.setIfInBounds_toArray, List.set_cons_zero, List.set_cons_succ]
      refine wpAnyH_take (i := 3) (oi := ({ dst := some 66, op := Op.load 97 (Operand.tmp 65), type := 97, pos := "net.go:108", after := #[{ on := 2, ground := Ground.data }], guard := none } : Oper)) (v := ?vh4) rfl (by kernel_rfl) (by kernel_rfl) (by kernel_rfl) (fun _ _ _ h => h) (Or.inl ⟨by rfl, ?hyh4⟩) (by assumption) ?resth4
      case hyh4 => intro w hSw; (try dsimp only at hSw); go_simp; all_goals (with_reducible rfl)
      try simp only [Act.put, List.setIfInBounds_toArray, List.set_cons_zero, List.set_cons_succ]
      refine wpAnyH_take (i := 4) (oi := ({ dst := some 67, op := Op.load 103 (Operand.tmp 7), type := 103, pos := "net.go:108", after := #[], guard := none } : Oper)) (v := ?vh5) rfl (by kernel_rfl) (by kernel_rfl) (by kernel_rfl) (fun _ _ _ h => h) (Or.inl ⟨by rfl, ?hyh5⟩) (by assumption) ?resth5
      case hyh5 => intro w hSw; (try dsimp only at hSw); go_simp; all_goals (with_reducible rfl)
      try simp only [Act.put, List.setIfInBounds_toArray, List.set_cons_zero, List.set_cons_succ]
      refine wpAnyH_take (i := 5) (oi := ({ dst := some 68, op := Op.load 83 (Operand.tmp 6), type := 83, pos := "net.go:108", after := #[], guard := none } : Oper)) (v := ?vh6) rfl (by kernel_rfl) (by kernel_rfl) (by kernel_rfl) (fun _ _ _ h => h) (Or.inl ⟨by rfl, ?hyh6⟩) (by assumption) ?resth6
      case hyh6 => intro w hSw; (try dsimp only at hSw); go_simp; all_goals (with_reducible rfl)
      try simp only [Act.put, List.setIfInBounds_toArray, List.set_cons_zero, List.set_cons_succ]
      refine wpAnyH_ready (rs := [6]) (by kernel_rfl) (by simp) ?_
      refine (AllReadyH.cons (o := ({ dst := none, op := Op.mapUpdate 97 (Operand.tmp 66) (Operand.tmp 67) (Operand.tmp 68), type := 0, pos := "net.go:108", after := #[{ on := 3, ground := Ground.data }, { on := 4, ground := Ground.data }, { on := 5, ground := Ground.data }, { on := 0, ground := Ground.phase }, { on := 1, ground := Ground.phase }, { on := 2, ground := Ground.phase }, { on := 3, ground := Ground.phase }, { on := 4, ground := Ground.phase }, { on := 5, ground := Ground.phase }], guard := none } : Oper)) rfl (fun K hK => ?_) AllReadyH.nil)
      have hmu := HMU.out
      go_simp
      refine hK.out _ _ ?_ (fun hHeld => ?_)
      · (try dsimp only); exact HK6.out
      clear hK K
      try simp only [Act.put, List.setIfInBounds_toArray, List.set_cons_zero, List.set_cons_succ]
      refine wpAnyH_done (by kernel_rfl) ?_ _
      go_wp2_with fail
      go_ret
      exact ⟨rfl, HEE.out⟩

end Go.Proofs.YtlopoddllfkkfaaDoor
