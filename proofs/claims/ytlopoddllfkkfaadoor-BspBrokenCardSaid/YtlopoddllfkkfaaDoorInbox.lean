/- net: Inbox. -/
import Derived.Test.YtlopoddllfkkfaaDoorDeliver
namespace Go.Proofs.YtlopoddllfkkfaaDoor
open Go.RowKit

/-- What came from a to c, by numbers. -/
def inRow (n : NetP) (c a : Int) (j : Nat) : List Let := (List.range j).filterMap fun (s : Nat) => n.came a c s
/-- What came to c from the first i. -/
def inboxL (n : NetP) (c : Int) (i : Nat) : List Let := (List.range i).flatMap fun (a : Nat) => inRow n c a (n.sent a c)
theorem inRow_succ (n : NetP) (c a : Int) (j : Nat) : inRow n c a (j + 1) = inRow n c a j ++ (n.came a c j).toList := by
  unfold inRow
  rw [List.range_succ, List.filterMap_append]
  cases h : n.came a c j <;> simp [h]
theorem inboxL_succ (n : NetP) (c : Int) (i : Nat) : inboxL n c (i + 1) = inboxL n c i ++ inRow n c i (n.sent i c) := by
  unfold inboxL
  rw [List.range_succ, List.flatMap_append]
  simp
theorem inRow_len (n : NetP) (c a : Int) (j : Nat) : (inRow n c a j).length ≤ j := by
  unfold inRow
  refine Nat.le_trans (List.length_filterMap_le _ _) ?_
  rw [List.length_range]
  exact Nat.le_refl _
theorem inboxL_len {n : NetP} {c : Int} {M : Nat} (h : ∀ a, n.sent a c ≤ M) : ∀ i, (inboxL n c i).length ≤ i * M
  | 0 => by simp [inboxL]
  | i + 1 => by
    have := inboxL_len h i
    have h2 := inRow_len n c i (n.sent i c)
    have h3 := h (i : Int)
    rw [inboxL_succ, List.length_append, Nat.succ_mul]
    omega
section
variable {P : Program}
theorem wpList_of_append {ops : Array Oper} {rest : List Oper} {o : Oper} {a : Act} {w : World} {Q : Exit → Act → World → Prop} (hgd : o.guard = none) (s x : Operand) (t : TypeId)
    (ho : o.op = .call { callee := .builtin .append, args := #[s, x], argTypes := #[t, t] }) (v u : Value) (hs : a.eval s = v) (hx : a.eval x = u) (v' : Value) (w' : World)
    (hr : (Builtin.append_ #[t, t] o.type #[v, u]).run P w = .ok v' w') (h : wpList P ops Q rest (a.put o.dst v') w') : wpList P ops Q (o :: rest) a w :=
  wpList_plain hgd fun _ hK => wp_of_append s x t ho v u hs hx v' w' hr (hK _ _ h)
end
/-- Behind the look at a route. -/
def C8 (s : Nat) (w1 : World) (p q : Value) (wx : World) : Prop := ∃ V, V = wx ∧ p = .int .i64 s ∧ q = .int .i64 0 ∧ Below w1.heap.size w1 V
/-- Behind the look at a letter. -/
def C11 (ok : Bool) (ws : World) (z : Let) (p q : Value) (wx : World) : Prop := ∃ V, V = wx ∧ p = .pointer (some ⟨ws.heap.size, 0, none⟩) ∧ q = .bool ok ∧ V = (ws.alloc (.cells #[.int .i64 z.f, .int .i64 z.t, .int .i64 z.s, .string z.x] 83)).drew

set_option maxRecDepth 100000 in
theorem inbox_no {w : World} {base N : Nat} {n : NetP} {b mb cb : Nat} {v : Value} {F G : Value → Option Value} (h : NetIn w base N n b mb cb v F G) (c : Int) (hno : hasB n.k c = false) :
    Calls Tryd.prog 40 #[.pointer (some ⟨b, 0, none⟩), .int .i64 c] w fun e w' => e = .returned (.slice none 0 0) ∧ w' = w := by
  have H1 := has_any h c
  rw [hno] at H1
  have H1 := Lib.hid H1
  clear h hno
  go_enter Tryd.func40, Tryd.ntmps40
  go_wp2_with fail
  refine H1.out.mono ?_; rintro e wz ⟨rfl, hw⟩; obtain rfl := hw.symm
  go_wp2_with fail
  go_ret
  exact ⟨rfl, rfl⟩
set_option maxRecDepth 100000 in
set_option maxHeartbeats 4000000 in
theorem inbox_ok {w : World} {base N : Nat} {n : NetP} {b mb cb : Nat} {v : Value} {F G : Value → Option Value} (h : NetIn w base N n b mb cb v F G) (c : Int) (hk : n.k ≤ 64) (hc : hasB n.k c = true) (hsn : ∀ a, n.sent a c ≤ 1000) :
    Calls Tryd.prog 40 #[.pointer (some ⟨b, 0, none⟩), .int .i64 c] w fun e w' => ∃ u, e = .returned u ∧ FlyAt w' w.heap.size u (inboxL n c n.k) ∧ Below w.heap.size w w' := by
  obtain ⟨i0, hi0, hz0, hz1, hz2⟩ := info_parts Tryd.infoNL
  have H1 := has_any h c
  rw [hc] at H1
  have H1 := Lib.hid H1
  have hin := hasB_in hk hc
  have HIN := Lib.hid hin
  have H := Lib.hid h
  have c0 : w.cell? ⟨b, 0, none⟩ = some (.int .i64 n.k) := h.whole.cell 0
  obtain ⟨k, hkn⟩ : ∃ k, n.k = k := ⟨_, rfl⟩
  rw [hkn] at c0 hk ⊢
  have HSN := Lib.hid hsn; have HK := Lib.hid hkn
  have HII := Lib.hid (And.intro hi0 (And.intro hz0 (And.intro hz1 hz2)))
  have hbl : b < w.heap.size := h.whole.lt
  have HBL := Lib.hid hbl
  clear h hc hsn hkn hin hi0 hz0 hz1 hz2 hbl
  go_enter Tryd.func40, Tryd.ntmps40
  go_wp2_with fail
  refine H1.out.mono ?_; rintro e wz ⟨rfl, hw⟩; obtain rfl := hw.symm
  go_wp2_with fail
  go_loopg [5, 19] k (fun gh rv yv wr => ∃ i, i ≤ k ∧ gh = k - i ∧ yv = .int .i64 (i : Nat) ∧ FlyAt wr w.heap.size rv (inboxL n c i) ∧ Below w.heap.size w wr)
  case atStart => exact ⟨0, Nat.zero_le _, rfl, rfl, FlyAt.nil _ _, Below.refl _ _⟩
  case round =>
    obtain ⟨i, hi, rfl, rfl, hfl, hB⟩ := hrel
    obtain ⟨A, cp, rfl, hcp, hfx⟩ := id hfl
    clear hcp hfx
    obtain ⟨ln, hln⟩ : ∃ ln, (inboxL n c i).length = ln := ⟨_, rfl⟩
    rw [hln] at hfl ⊢
    by_cases hlt : i < k
    · have hq : hasB n.k i = true := by
        unfold hasB
        rw [HK.out, Bool.and_eq_true, decide_eq_true_eq, decide_eq_true_eq]
        omega
      obtain ⟨kl, hkl⟩ := key_route (hasB_in (by rw [HK.out]; exact hk) hq).1 HIN.out.1
      have hi64 := (hasB_in (by rw [HK.out]; exact hk) hq).1
      obtain ⟨s, hs⟩ : ∃ s, n.sent i c = s := ⟨_, rfl⟩
      have hs1 : s ≤ 1000 := by rw [← hs]; exact HSN.out _
      have hL1 : ln ≤ i * 1000 := by rw [← hln]; exact inboxL_len HSN.out i
      have hnx : inboxL n c (i + 1) = inboxL n c i ++ inRow n c i s := by rw [inboxL_succ, hs]
      obtain ⟨w1, hw1⟩ : ∃ W, wr.alloc (.cells #[.int .i64 i, .int .i64 c] 95) = W := ⟨_, rfl⟩
      have hb1 : Below wr.heap.size wr w1 := by rw [← hw1]; exact (Below.refl _ _).alloc (Nat.le_refl _) _
      have hrb : Whole w1 wr.heap.size 95 #[.int .i64 i, .int .i64 c] := by rw [← hw1]; exact Whole.new _ _ _
      have hown : (Value.slice A ln cp).ownBlock ≠ some wr.heap.size := fun e => by have := (hfl.own e).2; omega
      obtain ⟨rb, hrbn⟩ : ∃ B, wr.heap.size = B := ⟨_, rfl⟩
      rw [hrbn] at hrb hown
      have hfl1 := hfl.below hb1 (Nat.le_refl _)
      have hB1 := hB.trans (hb1.mono hB.size)
      have hrw : w.heap.size ≤ rb := by rw [← hrbn]; exact hB.size
      have HKS : Hid (∀ W, Below w1.heap.size w1 W → Below w1.heap.size w1 W ∧ W.cell? ⟨b, 2, none⟩ = some (.map (some mb)) ∧ W.cell? ⟨rb, 0, none⟩ = some (.int .i64 i) ∧ W.cell? ⟨rb, 1, none⟩ = some (.int .i64 c)) := fun W hW => by
        have hh := (H.out.below hB1 (Nat.le_refl _)).below hW (Nat.le_refl _)
        have hr := hrb.below hW hrb.lt
        exact ⟨hW, hh.whole.cell 2, hr.cell 0, hr.cell 1⟩
      have HLK : Hid (∀ W, Below w1.heap.size w1 W → (Instr.lookup 96 (.map (some mb)) (.agg #[.int .i64 i, .int .i64 c]) false).run Tryd.prog W = .ok (.int .i64 s) W) := fun W hW => by
        have hh := (H.out.below hB1 (Nat.le_refl _)).below hW (Nat.le_refl _)
        have hr := hh.sent.look route_keyed Tryd.underlying96 zero_int hkl
        rw [hh.fs, hs] at hr
        exact hr
      have t3 : decide (i < k) = true := decide_eq_true hlt
      have t3' : decide ((i : Int) < (k : Int)) = true := decide_eq_true (by omega)
      have HW1 := Lib.hid hw1; have HRB := Lib.hid hrbn; have HFL1 := Lib.hid hfl1; have HB1 := Lib.hid hB1; have HR1 := Lib.hid hrb; have HOW := Lib.hid hown; have HRW := Lib.hid hrw; have HNX := Lib.hid hnx; have HL1 := Lib.hid hL1; have HLT := Lib.hid hlt; have HI64 := Lib.hid hi64; have HS := Lib.hid hs; have HLN := Lib.hid hln
      clear hln hq hkl hi64 hs hL1 hnx hw1 hb1 hrb hown hrbn hfl1 hB1 hrw hfl hB hlt
      go_upto_region 8 with fail
      rw [HRB.out, HW1.out]
      go_cut [30, 31] (fun p q wx => C8 s w1 p q wx)
      case first =>
        refine wp_region_held_drew (S := fun w' => Below w1.heap.size w1 w' ∧ w'.cell? ⟨b, 2, none⟩ = some (.map (some mb)) ∧ w'.cell? ⟨rb, 0, none⟩ = some (.int .i64 i) ∧ w'.cell? ⟨rb, 1, none⟩ = some (.int .i64 c)) (by kernel_rfl) ?_ (fun hHeld => ?_)
        · (try dsimp only); exact HKS.out _ (below_drewN' (Below.refl _ _) 1)
        refine wpAnyH_take (i := 0) (oi := ({ dst := some 25, op := Op.move (Operand.tmp 0), type := 62, pos := "net.go:122", after := #[], guard := none } : Oper)) (v := ?vg1) rfl (by kernel_rfl) (by kernel_rfl) (by kernel_rfl) (fun _ _ _ h => h) (Or.inl ⟨by rfl, ?hyg1⟩) (by assumption) ?restg1
        case hyg1 => intro w hSw; (try dsimp only at hSw); go_simp; all_goals (with_reducible rfl)
        try simp only [Act.put, List.setIfInBounds_toArray, List.set_cons_zero, List.set_cons_succ]
        refine wpAnyH_take (i := 1) (oi := ({ dst := some 26, op := Op.nilCheck (Operand.tmp 25), type := 0, pos := "net.go:122", after := #[{ on := 0, ground := Ground.data }], guard := none } : Oper)) (v := ?vg2) rfl (by kernel_rfl) (by kernel_rfl) (by kernel_rfl) (fun _ _ _ h => h) (Or.inl ⟨by rfl, ?hyg2⟩) (by assumption) ?restg2
        case hyg2 => intro w hSw; (try dsimp only at hSw); go_simp; all_goals (with_reducible rfl)
        try simp only [Act.put, List.setIfInBounds_toArray, List.set_cons_zero, List.set_cons_succ]
        refine wpAnyH_take (i := 2) (oi := ({ dst := some 27, op := Op.fieldAddr 99 (Operand.tmp 26) 2, type := 0, pos := "net.go:122", after := #[{ on := 1, ground := Ground.data }], guard := none } : Oper)) (v := ?vg3) rfl (by kernel_rfl) (by kernel_rfl) (by kernel_rfl) (fun _ _ _ h => h) (Or.inl ⟨by rfl, ?hyg3⟩) (by assumption) ?restg3
        case hyg3 => intro w hSw; (try dsimp only at hSw); go_simp; all_goals (with_reducible rfl)
        try simp only [Act.put, List.setIfInBounds_toArray, List.set_cons_zero, List.set_cons_succ]
        refine wpAnyH_take (i := 3) (oi := ({ dst := some 28, op := Op.load 96 (Operand.tmp 27), type := 96, pos := "net.go:122", after := #[{ on := 2, ground := Ground.data }], guard := none } : Oper)) (v := ?vg4) rfl (by kernel_rfl) (by kernel_rfl) (by kernel_rfl) (fun _ _ _ h => h) (Or.inl ⟨by rfl, ?hyg4⟩) (by assumption) ?restg4
        case hyg4 => intro w hSw; (try dsimp only at hSw); go_simp; all_goals (with_reducible rfl)
        try simp only [Act.put, List.setIfInBounds_toArray, List.set_cons_zero, List.set_cons_succ]
        refine wpAnyH_take (i := 4) (oi := ({ dst := some 29, op := Op.load 95 (Operand.tmp 7), type := 95, pos := "net.go:122", after := #[], guard := none } : Oper)) (v := ?vg5) rfl (by kernel_rfl) (by kernel_rfl) (by kernel_rfl) (fun _ _ _ h => h) (Or.inl ⟨by rfl, ?hyg5⟩) (by assumption) ?restg5
        case hyg5 => intro w hSw; (try dsimp only at hSw); go_simp; all_goals (with_reducible rfl)
        try simp only [Act.put, List.setIfInBounds_toArray, List.set_cons_zero, List.set_cons_succ]
        refine wpAnyH_take (i := 6) (oi := ({ dst := some 31, op := Op.move (Operand.const (Value.int IntKind.i64 0)), type := 3, pos := "net.go:122", after := #[], guard := none } : Oper)) (v := ?vg6) rfl (by kernel_rfl) (by kernel_rfl) (by kernel_rfl) (fun _ _ _ h => h) (Or.inl ⟨by rfl, ?hyg6⟩) (by assumption) ?restg6
        case hyg6 => intro w hSw; (try dsimp only at hSw); go_simp; all_goals (with_reducible rfl)
        try simp only [Act.put, List.setIfInBounds_toArray, List.set_cons_zero, List.set_cons_succ]
        refine wpAnyH_ready (rs := [5]) (by kernel_rfl) (by simp) ?_
        refine (AllReadyH.cons (o := ({ dst := some 30, op := Op.lookup 96 (Operand.tmp 28) (Operand.tmp 29) false, type := 3, pos := "net.go:122", after := #[{ on := 3, ground := Ground.data }, { on := 4, ground := Ground.data }], guard := none } : Oper)) rfl (fun K hK => ?_) AllReadyH.nil)
        have hlk := HLK.out _ hHeld.1
        go_simp
        refine hK.out _ _ ?_ (fun hHeld => ?_)
        · (try dsimp only); exact hHeld
        clear hK K
        try simp only [Act.put, List.setIfInBounds_toArray, List.set_cons_zero, List.set_cons_succ]
        refine wpAnyH_done (by kernel_rfl) ?_ _
        go_wp2_with fail
        go_meet
        exact ⟨_, rfl, rfl, rfl, hHeld.1⟩
      case rest =>
        obtain ⟨w2, rfl, rfl, rfl, hb2⟩ := hcut
        have hf2 := HFL1.out.below hb2 (Nat.le_refl _)
        have hB2 := HB1.out.trans (hb2.mono HB1.out.size)
        have hr2 := HR1.out.below hb2 HR1.out.lt
        have HF2 := Lib.hid hf2; have HB2 := Lib.hid hB2; have HR2 := Lib.hid hr2
        clear hb2 hf2 hB2 hr2
        go_wp2_with fail
        go_loopg [5, 31] s (fun gh rv yv ws => ∃ j, j ≤ s ∧ gh = s - j ∧ yv = .int .i64 (j : Nat) ∧ FlyAt ws w.heap.size rv (inboxL n c i ++ inRow n c i j) ∧ Below w.heap.size w ws ∧ Whole ws rb 95 #[.int .i64 i, .int .i64 c] ∧ rv.ownBlock ≠ some rb)
        case atStart => exact ⟨0, Nat.zero_le _, rfl, rfl, by rw [show inRow n c i 0 = [] from rfl, List.append_nil]; exact HF2.out, HB2.out, HR2.out, HOW.out⟩
        case round =>
          obtain ⟨j, hj, rfl, rfl, hfl, hB, hrb, hown⟩ := hrel
          obtain ⟨A3, c3, rfl, hcp, hfx⟩ := id hfl
          clear hcp hfx
          obtain ⟨l3, hl3⟩ : ∃ ln, (inboxL n c i ++ inRow n c i j).length = ln := ⟨_, rfl⟩
          rw [hl3] at hfl hown ⊢
          by_cases hlt : j < s
          · have hj64 : In64 (j : Int) := by unfold In64; omega
            obtain ⟨kl, hkl⟩ := key_name HI64.out HIN.out.1 hj64
            obtain ⟨⟨zf, zt, zs, zx⟩, hz⟩ : ∃ z, (n.came i c j).getD letZ = z := ⟨_, rfl⟩
            obtain ⟨ok, hok⟩ : ∃ ok, (n.came i c j).isSome = ok := ⟨_, rfl⟩
            have HKT : Hid (∀ W, Below wr.heap.size wr W → Below wr.heap.size wr W ∧ W.cell? ⟨b, 3, none⟩ = some (.map (some cb)) ∧ W.cell? ⟨rb, 0, none⟩ = some (.int .i64 i) ∧ W.cell? ⟨rb, 1, none⟩ = some (.int .i64 c)) := fun W hW => by
              have hh := (H.out.below hB (Nat.le_refl _)).below hW (Nat.le_refl _)
              have hr := hrb.below hW hrb.lt
              exact ⟨hW, hh.whole.cell 3, hr.cell 0, hr.cell 1⟩
            have HLT2 : Hid (∀ W, Below wr.heap.size wr W → (Instr.lookup 97 (.map (some cb)) (.agg #[.int .i64 i, .int .i64 c, .int .i64 j]) true).run Tryd.prog W = .ok (.tuple #[.agg #[.int .i64 zf, .int .i64 zt, .int .i64 zs, .string zx], .bool ok]) W) := fun W hW => by
              have hh := (H.out.below hB (Nat.le_refl _)).below hW (Nat.le_refl _)
              have hr := hh.came.look_ok name_keyed Tryd.underlying97 zero_let hkl
              rw [hh.gs] at hr
              have e1 : ((n.came i c j).map letV).getD (letV letZ) = letV ((n.came i c j).getD letZ) := by cases n.came i c j <;> rfl
              rw [e1, Option.isSome_map, hz, hok] at hr
              exact hr
            have hl3b : l3 ≤ ln + j := by
              have := inRow_len n c i j
              rw [← hl3, List.length_append, HLN.out]
              omega
            have hrow : inRow n c i (j + 1) = inRow n c i j ++ (if ok = true then [⟨zf, zt, zs, zx⟩] else []) := by
              rw [inRow_succ]
              congr 1
              cases hca : n.came i c j with
              | none =>
                rw [hca] at hok
                rw [← hok]
                rfl
              | some u =>
                rw [hca] at hok hz
                rw [← hok, ← hz]
                rfl
            have hrw := HRW.out
            have hrbl := hrb.lt
            have HF := Lib.hid hfl; have HB := Lib.hid hB; have HR := Lib.hid hrb; have HO := Lib.hid hown; have HL3 := Lib.hid hl3; have HL3B := Lib.hid hl3b; have HROW := Lib.hid hrow; have HJ := Lib.hid hlt; have HRBL := Lib.hid hrbl
            have t3 : decide (j < s) = true := decide_eq_true hlt
            have t3' : decide ((j : Int) < (s : Int)) = true := decide_eq_true (by omega)
            have j1 : (j : Int) ≤ 1000 := by omega
            clear hj64 hkl hz hok hl3b hrow hfl hB hrb hown hl3 hrw hrbl
            go_upto_region 11 with fail
            go_cut [9, 10] (fun p q wx => C11 ok wr ⟨zf, zt, zs, zx⟩ p q wx)
            case first =>
              refine wp_region_held_drew (S := fun w' => Below wr.heap.size wr w' ∧ w'.cell? ⟨b, 3, none⟩ = some (.map (some cb)) ∧ w'.cell? ⟨rb, 0, none⟩ = some (.int .i64 i) ∧ w'.cell? ⟨rb, 1, none⟩ = some (.int .i64 c)) (by kernel_rfl) ?_ (fun hHeld => ?_)
              · (try dsimp only); exact HKT.out _ (below_drewN' (Below.refl _ _) 1)
              refine wpAnyH_take (i := 0) (oi := ({ dst := some 35, op := Op.move (Operand.tmp 0), type := 62, pos := "net.go:123", after := #[], guard := none } : Oper)) (v := ?vh1) rfl (by kernel_rfl) (by kernel_rfl) (by kernel_rfl) (fun _ _ _ h => h) (Or.inl ⟨by rfl, ?hyh1⟩) (by assumption) ?resth1
              case hyh1 => intro w hSw; (try dsimp only at hSw); go_simp; all_goals (with_reducible rfl)
              try simp only [Act.put, List.setIfInBounds_toArray, List.set_cons_zero, List.set_cons_succ]
              refine wpAnyH_take (i := 1) (oi := ({ dst := some 36, op := Op.nilCheck (Operand.tmp 35), type := 0, pos := "net.go:123", after := #[{ on := 0, ground := Ground.data }], guard := none } : Oper)) (v := ?vh2) rfl (by kernel_rfl) (by kernel_rfl) (by kernel_rfl) (fun _ _ _ h => h) (Or.inl ⟨by rfl, ?hyh2⟩) (by assumption) ?resth2
              case hyh2 => intro w hSw; (try dsimp only at hSw); go_simp; all_goals (with_reducible rfl)
              try simp only [Act.put, List.setIfInBounds_toArray, List.set_cons_zero, List.set_cons_succ]
              refine wpAnyH_take (i := 2) (oi := ({ dst := some 37, op := Op.fieldAddr 99 (Operand.tmp 36) 3, type := 0, pos := "net.go:123", after := #[{ on := 1, ground := Ground.data }], guard := none } : Oper)) (v := ?vh3) rfl (by kernel_rfl) (by kernel_rfl) (by kernel_rfl) (fun _ _ _ h => h) (Or.inl ⟨by rfl, ?hyh3⟩) (by assumption) ?resth3
              case hyh3 => intro w hSw; (try dsimp only at hSw); go_simp; all_goals (with_reducible rfl)
              try simp only [Act.put, List.setIfInBounds_toArray, List.set_cons_zero, List.set_cons_succ]
              refine wpAnyH_take (i := 3) (oi := ({ dst := some 38, op := Op.load 97 (Operand.tmp 37), type := 97, pos := "net.go:123", after := #[{ on := 2, ground := Ground.data }], guard := none } : Oper)) (v := ?vh4) rfl (by kernel_rfl) (by kernel_rfl) (by kernel_rfl) (fun _ _ _ h => h) (Or.inl ⟨by rfl, ?hyh4⟩) (by assumption) ?resth4
              case hyh4 => intro w hSw; (try dsimp only at hSw); go_simp; all_goals (with_reducible rfl)
              try simp only [Act.put, List.setIfInBounds_toArray, List.set_cons_zero, List.set_cons_succ]
              refine wpAnyH_take (i := 4) (oi := ({ dst := some 39, op := Op.load 95 (Operand.tmp 7), type := 95, pos := "net.go:123", after := #[], guard := none } : Oper)) (v := ?vh5) rfl (by kernel_rfl) (by kernel_rfl) (by kernel_rfl) (fun _ _ _ h => h) (Or.inl ⟨by rfl, ?hyh5⟩) (by assumption) ?resth5
              case hyh5 => intro w hSw; (try dsimp only at hSw); go_simp; all_goals (with_reducible rfl)
              try simp only [Act.put, List.setIfInBounds_toArray, List.set_cons_zero, List.set_cons_succ]
              refine wpAnyH_take (i := 5) (oi := ({ dst := some 40, op := Op.move (Operand.tmp 8), type := 3, pos := "net.go:123", after := #[], guard := none } : Oper)) (v := ?vh6) rfl (by kernel_rfl) (by kernel_rfl) (by kernel_rfl) (fun _ _ _ h => h) (Or.inl ⟨by rfl, ?hyh6⟩) (by assumption) ?resth6
              case hyh6 => intro w hSw; (try dsimp only at hSw); go_simp; all_goals (with_reducible rfl)
              try simp only [Act.put, List.setIfInBounds_toArray, List.set_cons_zero, List.set_cons_succ]
              refine wpAnyH_take (i := 6) (oi := ({ dst := some 41, op := Op.build 103 #[(0, Operand.tmp 39), (1, Operand.tmp 40)], type := 103, pos := "net.go:123", after := #[{ on := 4, ground := Ground.data }, { on := 5, ground := Ground.data }], guard := none } : Oper)) (v := ?vh7) rfl (by kernel_rfl) (by kernel_rfl) (by kernel_rfl) (fun _ _ _ h => h) (Or.inl ⟨by rfl, ?hyh7⟩) (by assumption) ?resth7
              case hyh7 => intro w hSw; (try dsimp only at hSw); go_simp; all_goals (with_reducible rfl)
              try simp only [Act.put, List.setIfInBounds_toArray, List.set_cons_zero, List.set_cons_succ]
              refine wpAnyH_ready (rs := [7, 11]) (by kernel_rfl) (by simp) ?_
              refine (AllReadyH.cons (o := ({ dst := some 42, op := Op.lookup 97 (Operand.tmp 38) (Operand.tmp 41) true, type := 104, pos := "net.go:123", after := #[{ on := 3, ground := Ground.data }, { on := 6, ground := Ground.data }], guard := none } : Oper)) rfl (fun K hK => ?_) (AllReadyH.cons (o := ({ dst := some 9, op := Op.alloc 83, type := 0, pos := "net.go:123", after := #[], guard := none } : Oper)) rfl (fun K hK => ?_) AllReadyH.nil))
              · have hlk := HLT2.out _ hHeld.1
                go_simp
                refine hK.out _ _ ?_ (fun hHeld => ?_)
                · (try dsimp only); exact hHeld
                clear hK K
                try simp only [Act.put, List.setIfInBounds_toArray, List.set_cons_zero, List.set_cons_succ]
                refine wpAnyH_take (i := 8) (oi := ({ dst := some 34, op := Op.move (Operand.tmp 42), type := 104, pos := "net.go:123", after := #[{ on := 7, ground := Ground.data }], guard := none } : Oper)) (v := ?vh8) rfl (by kernel_rfl) (by kernel_rfl) (by kernel_rfl) (fun _ _ _ h => h) (Or.inl ⟨by rfl, ?hyh8⟩) (by assumption) ?resth8
                case hyh8 => intro w hSw; (try dsimp only at hSw); go_simp; all_goals (with_reducible rfl)
                try simp only [Act.put, List.setIfInBounds_toArray, List.set_cons_zero, List.set_cons_succ]
                refine wpAnyH_take (i := 9) (oi := ({ dst := some 43, op := Op.extract (Operand.tmp 34) 0, type := 83, pos := "net.go:123", after := #[{ on := 8, ground := Ground.data }], guard := none } : Oper)) (v := ?vh9) rfl (by kernel_rfl) (by kernel_rfl) (by kernel_rfl) (fun _ _ _ h => h) (Or.inl ⟨by rfl, ?hyh9⟩) (by assumption) ?resth9
                case hyh9 => intro w hSw; (try dsimp only at hSw); go_simp; all_goals (with_reducible rfl)
                try simp only [Act.put, List.setIfInBounds_toArray, List.set_cons_zero, List.set_cons_succ]
                refine wpAnyH_take (i := 10) (oi := ({ dst := some 44, op := Op.extract (Operand.tmp 34) 1, type := 4, pos := "net.go:123", after := #[{ on := 8, ground := Ground.data }, { on := 12, ground := Ground.gcOnly Departure.lateStores }], guard := none } : Oper)) (v := ?vh10) rfl (by kernel_rfl) (by kernel_rfl) (by kernel_rfl) (fun _ _ _ h => h) (Or.inl ⟨by rfl, ?hyh10⟩) (by assumption) ?resth10
                case hyh10 => intro w hSw; (try dsimp only at hSw); go_simp; all_goals (with_reducible rfl)
                try simp only [Act.put, List.setIfInBounds_toArray, List.set_cons_zero, List.set_cons_succ]
                refine wpAnyH_ready (rs := [11]) (by kernel_rfl) (by simp) ?_
                refine (AllReadyH.cons (o := ({ dst := some 9, op := Op.alloc 83, type := 0, pos := "net.go:123", after := #[], guard := none } : Oper)) rfl (fun K hK => ?_) AllReadyH.nil)
                go_simp
                refine hK.out _ _ ?_ (fun hHeld => ?_)
                · (try dsimp only); exact HKT.out _ (hHeld.1.alloc hHeld.1.size _)
                clear hK K
                try simp only [Act.put, List.setIfInBounds_toArray, List.set_cons_zero, List.set_cons_succ]
                refine wpAnyH_ready (rs := [12]) (by kernel_rfl) (by simp) ?_
                refine (AllReadyH.cons (o := ({ dst := none, op := Op.store 83 (Operand.tmp 9) (Operand.tmp 43), type := 0, pos := "net.go:123", after := #[{ on := 11, ground := Ground.data }, { on := 9, ground := Ground.data }, { on := 0, ground := Ground.phase }, { on := 1, ground := Ground.phase }, { on := 2, ground := Ground.phase }, { on := 3, ground := Ground.phase }, { on := 4, ground := Ground.phase }, { on := 5, ground := Ground.phase }, { on := 6, ground := Ground.phase }, { on := 7, ground := Ground.phase }, { on := 8, ground := Ground.phase }, { on := 9, ground := Ground.phase }, { on := 10, ground := Ground.textOnly Departure.lateStores }, { on := 11, ground := Ground.phase }], guard := none } : Oper)) rfl (fun K hK => ?_) AllReadyH.nil)
                go_simp
                refine hK.out _ _ ?_ (fun hHeld => ?_)
                · (try dsimp only); first | exact HKT.out _ (below_drewN' ((Below.refl _ _).alloc (Nat.le_refl _) _) 1) | exact HKT.out _ ((below_drewN' (Below.refl _ _) 1).alloc (Nat.le_refl _) _)
                clear hK K
                try simp only [Act.put, List.setIfInBounds_toArray, List.set_cons_zero, List.set_cons_succ]
                refine wpAnyH_take (i := 13) (oi := ({ dst := some 10, op := Op.assign (Operand.tmp 44), type := 4, pos := "net.go:123", after := #[{ on := 10, ground := Ground.data }, { on := 12, ground := Ground.chain }, { on := 0, ground := Ground.phase }, { on := 1, ground := Ground.phase }, { on := 2, ground := Ground.phase }, { on := 3, ground := Ground.phase }, { on := 4, ground := Ground.phase }, { on := 5, ground := Ground.phase }, { on := 6, ground := Ground.phase }, { on := 7, ground := Ground.phase }, { on := 8, ground := Ground.phase }, { on := 9, ground := Ground.phase }, { on := 10, ground := Ground.phase }, { on := 11, ground := Ground.phase }, { on := 12, ground := Ground.phase }], guard := none } : Oper)) (v := ?vh11) rfl (by kernel_rfl) (by kernel_rfl) (by kernel_rfl) (fun _ _ _ h => h) (Or.inl ⟨by rfl, ?hyh11⟩) (by assumption) ?resth11
                case hyh11 => intro w hSw; (try dsimp only at hSw); go_simp; all_goals (with_reducible rfl)
                try simp only [Act.put, List.setIfInBounds_toArray, List.set_cons_zero, List.set_cons_succ]
                refine wpAnyH_done (by kernel_rfl) ?_ _
                go_wp2_with fail
                go_meet
                exact ⟨_, rfl, rfl, rfl, rfl⟩
              · go_simp
                refine hK.out _ _ ?_ (fun hHeld => ?_)
                · (try dsimp only); exact HKT.out _ (hHeld.1.alloc hHeld.1.size _)
                clear hK K
                try simp only [Act.put, List.setIfInBounds_toArray, List.set_cons_zero, List.set_cons_succ]
                refine wpAnyH_ready (rs := [7]) (by kernel_rfl) (by simp) ?_
                refine (AllReadyH.cons (o := ({ dst := some 42, op := Op.lookup 97 (Operand.tmp 38) (Operand.tmp 41) true, type := 104, pos := "net.go:123", after := #[{ on := 3, ground := Ground.data }, { on := 6, ground := Ground.data }], guard := none } : Oper)) rfl (fun K hK => ?_) AllReadyH.nil)
                have hlk := HLT2.out _ hHeld.1
                go_simp
                refine hK.out _ _ ?_ (fun hHeld => ?_)
                · (try dsimp only); exact hHeld
                clear hK K
                try simp only [Act.put, List.setIfInBounds_toArray, List.set_cons_zero, List.set_cons_succ]
                refine wpAnyH_take (i := 8) (oi := ({ dst := some 34, op := Op.move (Operand.tmp 42), type := 104, pos := "net.go:123", after := #[{ on := 7, ground := Ground.data }], guard := none } : Oper)) (v := ?vh12) rfl (by kernel_rfl) (by kernel_rfl) (by kernel_rfl) (fun _ _ _ h => h) (Or.inl ⟨by rfl, ?hyh12⟩) (by assumption) ?resth12
                case hyh12 => intro w hSw; (try dsimp only at hSw); go_simp; all_goals (with_reducible rfl)
                try simp only [Act.put, List.setIfInBounds_toArray, List.set_cons_zero, List.set_cons_succ]
                refine wpAnyH_take (i := 9) (oi := ({ dst := some 43, op := Op.extract (Operand.tmp 34) 0, type := 83, pos := "net.go:123", after := #[{ on := 8, ground := Ground.data }], guard := none } : Oper)) (v := ?vh13) rfl (by kernel_rfl) (by kernel_rfl) (by kernel_rfl) (fun _ _ _ h => h) (Or.inl ⟨by rfl, ?hyh13⟩) (by assumption) ?resth13
                case hyh13 => intro w hSw; (try dsimp only at hSw); go_simp; all_goals (with_reducible rfl)
                try simp only [Act.put, List.setIfInBounds_toArray, List.set_cons_zero, List.set_cons_succ]
                refine wpAnyH_take (i := 10) (oi := ({ dst := some 44, op := Op.extract (Operand.tmp 34) 1, type := 4, pos := "net.go:123", after := #[{ on := 8, ground := Ground.data }, { on := 12, ground := Ground.gcOnly Departure.lateStores }], guard := none } : Oper)) (v := ?vh14) rfl (by kernel_rfl) (by kernel_rfl) (by kernel_rfl) (fun _ _ _ h => h) (Or.inl ⟨by rfl, ?hyh14⟩) (by assumption) ?resth14
                case hyh14 => intro w hSw; (try dsimp only at hSw); go_simp; all_goals (with_reducible rfl)
                try simp only [Act.put, List.setIfInBounds_toArray, List.set_cons_zero, List.set_cons_succ]
                refine wpAnyH_ready (rs := [12]) (by kernel_rfl) (by simp) ?_
                refine (AllReadyH.cons (o := ({ dst := none, op := Op.store 83 (Operand.tmp 9) (Operand.tmp 43), type := 0, pos := "net.go:123", after := #[{ on := 11, ground := Ground.data }, { on := 9, ground := Ground.data }, { on := 0, ground := Ground.phase }, { on := 1, ground := Ground.phase }, { on := 2, ground := Ground.phase }, { on := 3, ground := Ground.phase }, { on := 4, ground := Ground.phase }, { on := 5, ground := Ground.phase }, { on := 6, ground := Ground.phase }, { on := 7, ground := Ground.phase }, { on := 8, ground := Ground.phase }, { on := 9, ground := Ground.phase }, { on := 10, ground := Ground.textOnly Departure.lateStores }, { on := 11, ground := Ground.phase }], guard := none } : Oper)) rfl (fun K hK => ?_) AllReadyH.nil)
                go_simp
                refine hK.out _ _ ?_ (fun hHeld => ?_)
                · (try dsimp only); first | exact HKT.out _ (below_drewN' ((Below.refl _ _).alloc (Nat.le_refl _) _) 1) | exact HKT.out _ ((below_drewN' (Below.refl _ _) 1).alloc (Nat.le_refl _) _)
                clear hK K
                try simp only [Act.put, List.setIfInBounds_toArray, List.set_cons_zero, List.set_cons_succ]
                refine wpAnyH_take (i := 13) (oi := ({ dst := some 10, op := Op.assign (Operand.tmp 44), type := 4, pos := "net.go:123", after := #[{ on := 10, ground := Ground.data }, { on := 12, ground := Ground.chain }, { on := 0, ground := Ground.phase }, { on := 1, ground := Ground.phase }, { on := 2, ground := Ground.phase }, { on := 3, ground := Ground.phase }, { on := 4, ground := Ground.phase }, { on := 5, ground := Ground.phase }, { on := 6, ground := Ground.phase }, { on := 7, ground := Ground.phase }, { on := 8, ground := Ground.phase }, { on := 9, ground := Ground.phase }, { on := 10, ground := Ground.phase }, { on := 11, ground := Ground.phase }, { on := 12, ground := Ground.phase }], guard := none } : Oper)) (v := ?vh15) rfl (by kernel_rfl) (by kernel_rfl) (by kernel_rfl) (fun _ _ _ h => h) (Or.inl ⟨by rfl, ?hyh15⟩) (by assumption) ?resth15
                case hyh15 => intro w hSw; (try dsimp only at hSw); go_simp; all_goals (with_reducible rfl)
                try simp only [Act.put, List.setIfInBounds_toArray, List.set_cons_zero, List.set_cons_succ]
                refine wpAnyH_done (by kernel_rfl) ?_ _
                go_wp2_with fail
                go_meet
                exact ⟨_, rfl, rfl, rfl, rfl⟩
            case rest =>
              obtain ⟨w5, rfl, rfl, rfl, hw5⟩ := hcut
              have hb5 : Below wr.heap.size wr w5 := by rw [hw5]; exact below_drewN' ((Below.refl _ _).alloc (Nat.le_refl _) _) 1
              have hz5 : Whole w5 wr.heap.size 83 #[.int .i64 zf, .int .i64 zt, .int .i64 zs, .string zx] := by rw [hw5]; exact (Whole.new _ _ _).drewN 1
              have hf5 := HF.out.below hb5 (Nat.le_refl _)
              have hB5 := HB.out.trans (hb5.mono HB.out.size)
              have hr5 := HR.out.below hb5 HR.out.lt
              clear hw5
              cases ok with
              | false =>
                have HF5 := Lib.hid hf5; have HB5 := Lib.hid hB5; have HR5 := Lib.hid hr5
                clear hb5 hz5 hf5 hB5 hr5
                go_wp2_with fail
                go_roundg (s - (j + 1))
                case rel => exact ⟨j + 1, HJ.out, rfl, by go_num, by rw [HROW.out]; simpa using HF5.out, HB5.out, HR5.out, HO.out⟩
                case measure => have := HJ.out; omega
              | true =>
                obtain ⟨hi0, hz0, hz1, hz2⟩ := HII.out
                have hb6 : Below w5.heap.size w5 (w5.alloc (.cells #[.int .i64 zf, .int .i64 zt, .int .i64 zs, .string zx] 83)) := (Below.refl _ _).alloc (Nat.le_refl _) _
                have hf6 := hf5.below hb6 (Nat.le_refl _)
                have hr6 := hr5.below hb6 hr5.lt
                have hB6 := hB5.trans (hb6.mono hB5.size)
                have hl0 : ∀ q, q < 1 * 4 → (w5.alloc (.cells #[.int .i64 zf, .int .i64 zt, .int .i64 zs, .string zx] 83)).cell? ⟨w5.heap.size, 0 + q, none⟩ = (letsC [⟨zf, zt, zs, zx⟩])[q]? := fun q hq => by
                  have hW := Whole.new w5 83 #[.int .i64 zf, .int .i64 zt, .int .i64 zs, .string zx]
                  rw [Nat.zero_add]
                  refine (hW.cell q).trans ?_
                  rw [letsC_one]
                  simp [letC]
                obtain ⟨v3, w7, happ, hf7, hg7, hloc7, _⟩ := hf6.app (P := Tryd.prog) (T := [⟨zf, zt, zs, zx⟩]) (m := 1) 78 78 83 i0 (letV letZ) Tryd.underlying78 hi0 hz0 rfl hz1 hz2 rfl hl0 1 (by have h1 := HL3B.out; have h2 := HL1.out; have h3 := HJ.out; rw [HL3.out]; omega) hB6.size
                have hr7 := hr6.grown hg7 (fun e => HO.out e.symm)
                have hB7 := hB6.grown hg7 hB6.size (fun q hq => (hf6.own hq).1)
                have hrb6 := hr6.lt
                have ho7 : v3.ownBlock ≠ some rb := by
                  rcases hloc7 with e | ⟨g, e, hg⟩
                  · rw [e]; exact HO.out
                  · rw [e]
                    intro e
                    injection e with e
                    omega
                have hrow := HROW.out
                rw [if_pos rfl] at hrow
                have hf8 : FlyAt w7 w.heap.size v3 (inboxL n c i ++ inRow n c i (j + 1)) := by
                  rw [hrow, ← List.append_assoc]
                  exact hf7
                obtain ⟨A4, c4, hv4, hcp, hfx⟩ := id hf8
                clear hcp hfx
                obtain ⟨l4, hl4⟩ : ∃ l, (inboxL n c i ++ inRow n c i (j + 1)).length = l := ⟨_, rfl⟩
                rw [hl4] at hv4
                subst hv4
                have y0 : w5.cell? ⟨wr.heap.size, 0, none⟩ = some (.int .i64 zf) := hz5.cell 0
                have y1 : w5.cell? ⟨wr.heap.size, 1, none⟩ = some (.int .i64 zt) := hz5.cell 1
                have y2 : w5.cell? ⟨wr.heap.size, 2, none⟩ = some (.int .i64 zs) := hz5.cell 2
                have y3 : w5.cell? ⟨wr.heap.size, 3, none⟩ = some (.string zx) := hz5.cell 3
                have HF8 := Lib.hid hf8; have HB7 := Lib.hid hB7; have HR7 := Lib.hid hr7; have HO7 := Lib.hid ho7; have HAPP := Lib.hid happ
                clear hb5 hz5 hf5 hB5 hr5 hi0 hz0 hz1 hz2 hb6 hf6 hr6 hB6 hl0 happ hf7 hg7 hloc7 hr7 hB7 hrb6 ho7 hrow hf8 hl4
                go_wp2_with (at_builtin; refine wpList_of_append rfl _ _ 78 rfl _ _ rfl rfl _ _ HAPP.out ?_)
                go_roundg (s - (j + 1))
                case rel => exact ⟨j + 1, HJ.out, rfl, by go_num, HF8.out, HB7.out, HR7.out, HO7.out⟩
                case measure => have := HJ.out; omega
          · obtain rfl : j = s := by omega
            clear hl3
            have t3 : decide (j < j) = false := decide_eq_false (by omega)
            have HF3 := Lib.hid hfl; have HB3 := Lib.hid hB
            clear hfl hB hrb hown
            go_wp2_with fail
            go_roundg (k - (i + 1))
            case rel => exact ⟨i + 1, HLT.out, rfl, by go_num, by rw [HNX.out]; exact HF3.out, HB3.out⟩
            case measure => have := HLT.out; omega
    · obtain rfl : i = k := by omega
      clear hln
      have t3 : decide (i < i) = false := decide_eq_false (by omega)
      have HF3 := Lib.hid hfl; have HB3 := Lib.hid hB
      clear hfl hB
      go_wp2_with fail
      go_ret
      exact ⟨_, rfl, HF3.out, HB3.out⟩
end Go.Proofs.YtlopoddllfkkfaaDoor
