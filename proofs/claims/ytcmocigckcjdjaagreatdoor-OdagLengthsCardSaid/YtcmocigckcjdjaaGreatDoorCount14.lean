/- odag: Count: its contract. -/
import Derived.Test.YtcmocigckcjdjaaGreatDoorReach14
import Derived.Test.YtcmocigckcjdjaaGreatDoorTotN14
import Derived.Deep.DeepCutAuto
import Derived.Deep.RegionHeld3
namespace Go.Proofs.YtcmocigckcjdjaaGreatDoor
open Go.RowKit

theorem infoL64 : (Tryz.prog.info? 2).map (fun i => (i.zero, i.size, i.bytes)) = some (some (.int .i64 0), 1, 8) := by kernel_rfl
theorem runL64 (n : Nat) (hn : n ≤ 1000000) (V : World) : (Instr.makeSlice 63 (.int .i64 (n : Nat)) (.int .i64 (n : Nat))).run Tryz.prog V = .ok (.slice (some ⟨V.heap.size, 0, none⟩) n n) (V.alloc (.cells (madeCells #[.int .i64 0] n) 2)) := by
  obtain ⟨j1, hi1, ky0, ky1, ky2⟩ := info_parts infoL64
  have h := run_make (P := Tryz.prog) V 63 2 j1 (.int .i64 0) Tryz.underlying63 hi1 ky0 .i64 .i64 (n : Int) (n : Int) (by omega) (by omega) (by rw [ky2]; omega) (by omega)
  rw [h, ky1, Int.toNat_natCast, Nat.mul_one]
  rfl
/-- How many paths go on from each number of a row. -/
def cntL (n : Nat) (C : List (List Int)) (i : Nat) : List Int := (rowP C i).map fun a => ((cntP C (n - 1 - i) i a : Nat) : Int)
/-- Numbers in a block of their own, the first t of them laid. -/
def NumsM (wo : World) (g : Nat) (L : List Int) (t : Nat) (wr : World) : Prop :=
  (∃ cs : Array Value, Whole wr g 2 cs ∧ cs.size = L.length ∧ ∀ s, s < t → cs[s]? = some (.int .i64 (L.getD s 0))) ∧ Below wo.heap.size wo wr ∧ wo.heap.size ≤ g
theorem NumsM.below {wo wr w' : World} {g t : Nat} {L : List Int} (h : NumsM wo g L t wr) (hb : Below wr.heap.size wr w') : NumsM wo g L t w' := by
  obtain ⟨⟨cs, h1, h2, h3⟩, h4, h5⟩ := h
  exact ⟨⟨cs, h1.below hb h1.lt, h2, h3⟩, h4.trans (hb.mono h4.size), h5⟩
theorem NumsM.put {wo wr : World} {g t : Nat} {L : List Int} {x : Int} (h : NumsM wo g L t wr) (ht : t < L.length) (hx : L.getD t 0 = x) : NumsM wo g L (t + 1) (wr.setCell ⟨g, t, none⟩ (.int .i64 x)) := by
  obtain ⟨⟨cs, h1, h2, h3⟩, h4, h5⟩ := h
  refine ⟨⟨_, h1.put t _, by simp [h2], fun s hs => ?_⟩, h4.setCell h5 _, h5⟩
  rw [Array.getElem?_setIfInBounds]
  by_cases hts : t = s
  · subst hts
    rw [if_pos rfl, if_pos (by omega), hx]
  · rw [if_neg hts]; exact h3 s (by omega)
theorem NumsM.cell {wo wr : World} {g t s : Nat} {L : List Int} (h : NumsM wo g L t wr) (hs : s < L.length) : (∃ z, wr.cell? ⟨g, s, none⟩ = some z) ∧ wr.frozen? ⟨g, s, none⟩ = false := by
  obtain ⟨⟨cs, h1, h2, _⟩, _⟩ := h
  exact ⟨⟨_, by rw [h1.cell s]; exact Array.getElem?_eq_getElem (by omega)⟩, h1.free s⟩
theorem NumsM.seq {wo wr : World} {g m : Nat} {L : List Int} (h : NumsM wo g L L.length wr) (hm : L.length = m) : SeqV wr (.slice (some ⟨g, 0, none⟩) m m) L := by
  obtain ⟨⟨cs, h1, h2, h3⟩, _⟩ := h
  rcases Nat.eq_zero_or_pos L.length with h0 | h0
  · exact Or.inl ⟨h0, _, _, by rw [← hm, h0]⟩
  · refine Or.inr ⟨h0, g, 0, m, by rw [hm], fun i hi => ?_⟩
    rw [Nat.zero_add, h1.cell i]
    exact h3 i hi
theorem nums_made (w : World) (L : List Int) (m : Nat) (hm : L.length = m) : NumsM w w.heap.size L 0 (w.alloc (.cells (madeCells #[.int .i64 0] m) 2)) :=
  ⟨⟨_, Whole.new _ _ _, by rw [size_madeCells, hm], fun s hs => absurd hs (Nat.not_lt_zero _)⟩, (Below.refl _ _).alloc (Nat.le_refl _) _, Nat.le_refl _⟩

theorem own_seqL64 {w : World} {base n : Nat} {v : Value} {L : List Int} (h : w.ownsRow base 2 1 v n (intCells L)) : SeqV w v L := by
  have hn : L.length = n := by have := h.1; simp [intCells] at this; omega
  subst hn
  have h0 := h
  unfold SeqV
  rcases h.2 with ⟨rfl, h1⟩ | ⟨g, cap, cur, rfl, _, hh, hcap, _⟩
  · exact Or.inl ⟨h1, _, _, rfl⟩
  · rcases Nat.eq_zero_or_pos L.length with h3 | h3
    · exact Or.inl ⟨h3, _, _, by rw [h3]⟩
    · refine Or.inr ⟨h3, g, 0, cap, rfl, fun i hi => ?_⟩
      rw [Nat.zero_add, h0.cellAt i (by omega)]
      simp [intCells, List.getD, hi]
theorem nums_drew {wo wr : World} {g t : Nat} {L : List Int} (h : NumsM wo g L t wr) (k : Nat) : NumsM wo g L t (wr.drewN k) := ⟨h.1, below_drewN' h.2.1 k, h.2.2⟩
def CntStart (w1 : World) (L : List Int) (m : Nat) (x : Value) (wx : World) : Prop := ∃ g, x = .slice (some ⟨g, 0, none⟩) m m ∧ NumsM w1 g L 0 wx
theorem cntL_len (n : Nat) (C : List (List Int)) (i : Nat) : (cntL n C i).length = (rowP C i).length := by simp [cntL]
theorem cntL_at (n : Nat) (C : List (List Int)) {i t : Nat} (h : t < (rowP C i).length) : (cntL n C i).getD t 0 = ((cntP C (n - 1 - i) i ((rowP C i).getD t 0) : Nat) : Int) := by
  simp [cntL, List.getD, h]
set_option maxRecDepth 100000 in
set_option maxHeartbeats 8000000 in
theorem count_any {w : World} {v : Value} {n : Nat} {C : List (List Int)} (h : OdagC w v n C) (hn : 1 ≤ n) (hn8 : n ≤ 8) (hC : C.length ≤ 1000)
    (hbd : ∀ r i a, r + i + 1 = n → a ∈ rowP C i → cntP C r i a ≤ 9223372036854775807) (htot : ((rowP C 0).map (cntP C (n - 1) 0)).sum ≤ 9223372036854775807) :
    Calls Tryz.prog 12 #[v] w fun e w' => e = .returned (.tuple #[.int .i64 (((rowP C 0).map (cntP C (n - 1) 0)).sum : Nat), .nilIface]) ∧ Below w.heap.size w w' := by
  obtain ⟨i0, hi0, hz0, hz1, hz2⟩ := info_parts infoL64
  have HO := Lib.hid h
  have HLEN := Lib.hid (fun W (hW : Below w.heap.size w W) => len_any (h.below hW (Nat.le_refl _)))
  have HRE := Lib.hid (reached_any h hn hn8 hC)
  have HBD := Lib.hid hbd; have HTOT := Lib.hid htot
  obtain ⟨ob, vr, vk, rfl, hw, hr, hk⟩ := h
  obtain ⟨l, rfl⟩ : ∃ l, n = l + 1 := ⟨n - 1, by omega⟩
  have c0 : w.cell? ⟨ob, 0, none⟩ = some vr := hw.cell 0
  have c1 : w.cell? ⟨ob, 1, none⟩ = some vk := hw.cell 1
  obtain ⟨Ar, cr, rfl⟩ := hr.form
  obtain ⟨Ak, ck, rfl⟩ := hk.form
  have hrl : (rowsP (l + 1) C).length = l + 1 := by simp [rowsP]
  have hkl : (allLinksP (l + 1) C).length = l := by simp [allLinksP]
  obtain ⟨br, orr, ul, rfl, hcl, hul⟩ := hr.pos (i := l) (by rw [hrl]; omega)
  rw [show (rowsP (l + 1) C)[l]'(by rw [hrl]; omega) = rowP C l by simp [rowsP]] at hul
  obtain ⟨hus, Al, cl, rfl, _⟩ := hul
  rw [hrl] at c0 hr
  rw [hkl] at c1 hk
  have hml := row_len C l
  obtain ⟨ml, hmm⟩ : ∃ x, (rowP C l).length = x := ⟨_, rfl⟩
  rw [hmm] at hcl hus hml
  have HR := Lib.hid hr; have HK := Lib.hid hk; have HC0 := Lib.hid c0; have HC1 := Lib.hid c1; have HCL := Lib.hid hcl; have HMM := Lib.hid hmm
  have i1 : (l : Int) ≤ 7 := by omega
  have i3 : (0 : Int) ≤ l := by omega
  have hwr : IntKind.i64.wrap (l : Int) = l := by rw [IntKind.wrap_i64]; omega
  have q0 : (l : Int) < (l : Int) + 1 := by omega
  have t0 : ((l : Int) + 1 == 0) = false := by simp; omega
  have t0' : (l + 1 == 0) = false := by simp
  have hmk := fun V => runL64 ml (by omega) V
  have hL0 : (cntL (l + 1) C l).length = ml := by rw [cntL_len, HMM.out]
  have HL0 := Lib.hid hL0
  clear hw hr hk hrl hkl hus hmm hbd htot hcl hL0
  go_enter Tryz.func12, Tryz.ntmps12
  go_wp2_with fail
  refine (HLEN.out _ (Below.refl _ _)).mono ?_; rintro e w1 ⟨rfl, hw1⟩
  obtain rfl := hw1.symm
  go_wp2_with fail
  refine HRE.out.mono ?_; rintro e w1 ⟨vq, rfl, hq, hb1⟩
  have HQ := Lib.hid hq; have HB1 := Lib.hid hb1
  obtain ⟨Aq, cq, rfl⟩ := hq.form
  have hql : (rowsP (l + 1) C).length = l + 1 := by simp [rowsP]
  rw [hql] at hq HQ ⊢
  have HLN := Lib.hid (fun W (hW : Below w1.heap.size w1 W) => HLEN.out W (hb1.trans (hW.mono hb1.size)))
  have HKS := Lib.hid (fun W (hW : Below w1.heap.size w1 W) => And.intro (cell_below' HC0.out (hb1.trans (hW.mono hb1.size))) (cell_below' HCL.out (hb1.trans (hW.mono hb1.size))))
  clear hb1 c0 c1 hq hql
  go_upto_region 4 with fail
  go_cut [5] (fun x wx => CntStart w1 (cntL (l + 1) C l) ml x wx)
  case first =>
    refine wp_region_held_drew (S := fun W => W.cell? ⟨ob, 0, none⟩ = some (.slice (some ⟨br, orr, none⟩) (l + 1) cr) ∧ W.cell? ⟨br, orr + l, none⟩ = some (.slice Al ml cl)) (by kernel_rfl) ?_ (fun hHeld => ?_)
    · (try dsimp only); exact HKS.out _ (below_drewN' (Below.refl w1.heap.size w1) 1)
    refine wpAnyH_take (i := 0) (oi := ({ dst := some 25, op := Op.move (Operand.tmp 0), type := 24, pos := "odag.go:170", after := #[], guard := none } : Oper)) (v := ?vg1) rfl (by kernel_rfl) (by kernel_rfl) (by kernel_rfl) (fun _ _ _ h => h) (Or.inl ⟨by rfl, ?hyg1⟩) (by assumption) ?restg1
    case hyg1 => intro w hSw; (try dsimp only at hSw); go_simp; all_goals (with_reducible rfl)
    try simp only [Act.put, List.setIfInBounds_toArray, List.set_cons_zero, List.set_cons_succ]
    refine wpAnyH_take (i := 1) (oi := ({ dst := some 26, op := Op.nilCheck (Operand.tmp 25), type := 0, pos := "odag.go:170", after := #[{ on := 0, ground := Ground.data }], guard := none } : Oper)) (v := ?vg2) rfl (by kernel_rfl) (by kernel_rfl) (by kernel_rfl) (fun _ _ _ h => h) (Or.inl ⟨by rfl, ?hyg2⟩) (by assumption) ?restg2
    case hyg2 => intro w hSw; (try dsimp only at hSw); go_simp; all_goals (with_reducible rfl)
    try simp only [Act.put, List.setIfInBounds_toArray, List.set_cons_zero, List.set_cons_succ]
    refine wpAnyH_take (i := 2) (oi := ({ dst := some 27, op := Op.fieldAddr 57 (Operand.tmp 26) 0, type := 0, pos := "odag.go:170", after := #[{ on := 1, ground := Ground.data }], guard := none } : Oper)) (v := ?vg3) rfl (by kernel_rfl) (by kernel_rfl) (by kernel_rfl) (fun _ _ _ h => h) (Or.inl ⟨by rfl, ?hyg3⟩) (by assumption) ?restg3
    case hyg3 => intro w hSw; (try dsimp only at hSw); go_simp; all_goals (with_reducible rfl)
    try simp only [Act.put, List.setIfInBounds_toArray, List.set_cons_zero, List.set_cons_succ]
    refine wpAnyH_take (i := 3) (oi := ({ dst := some 28, op := Op.load 22 (Operand.tmp 27), type := 22, pos := "odag.go:170", after := #[{ on := 2, ground := Ground.data }], guard := none } : Oper)) (v := ?vg4) rfl (by kernel_rfl) (by kernel_rfl) (by kernel_rfl) (fun _ _ _ h => h) (Or.inl ⟨by rfl, ?hyg4⟩) (by assumption) ?restg4
    case hyg4 => intro w hSw; (try dsimp only at hSw); go_simp; all_goals (with_reducible rfl)
    try simp only [Act.put, List.setIfInBounds_toArray, List.set_cons_zero, List.set_cons_succ]
    refine wpAnyH_take (i := 4) (oi := ({ dst := some 29, op := Op.move (Operand.tmp 0), type := 24, pos := "odag.go:170", after := #[], guard := none } : Oper)) (v := ?vg5) rfl (by kernel_rfl) (by kernel_rfl) (by kernel_rfl) (fun _ _ _ h => h) (Or.inl ⟨by rfl, ?hyg5⟩) (by assumption) ?restg5
    case hyg5 => intro w hSw; (try dsimp only at hSw); go_simp; all_goals (with_reducible rfl)
    try simp only [Act.put, List.setIfInBounds_toArray, List.set_cons_zero, List.set_cons_succ]
    refine wpAnyH_ready (rs := [5]) (by kernel_rfl) (by simp) ?_
    refine (AllReadyH.cons (o := ({ dst := some 30, op := Op.call { callee := Callee.value (Operand.func 19), args := #[Operand.tmp 29], argTypes := #[24] }, type := 3, pos := "odag.go:170", after := #[{ on := 4, ground := Ground.data }], guard := none } : Oper)) rfl (fun K hK => ?_) AllReadyH.nil)
    go_simp
    refine (HLN.out _ (below_drewN' (Below.refl w1.heap.size w1) 1)).mono ?_; rintro e' wL ⟨rfl, rfl⟩
    refine hK.out _ _ ?_ (fun hHeld => ?_)
    · (try dsimp only); exact HKS.out _ (below_drewN' (Below.refl w1.heap.size w1) 1)
    clear hK K
    try simp only [Act.put, List.setIfInBounds_toArray, List.set_cons_zero, List.set_cons_succ]
    refine wpAnyH_take (i := 6) (oi := ({ dst := some 31, op := Op.binOp BinOp.sub 3 (Operand.tmp 30) (Operand.const (Value.int IntKind.i64 1)) 3, type := 3, pos := "odag.go:170", after := #[{ on := 5, ground := Ground.data }], guard := none } : Oper)) (v := ?vg6) rfl (by kernel_rfl) (by kernel_rfl) (by kernel_rfl) (fun _ _ _ h => h) (Or.inl ⟨by rfl, ?hyg6⟩) (by assumption) ?restg6
    case hyg6 => intro w hSw; (try dsimp only at hSw); go_simp; all_goals (with_reducible rfl)
    try simp only [Act.put, List.setIfInBounds_toArray, List.set_cons_zero, List.set_cons_succ]
    refine wpAnyH_take (i := 7) (oi := ({ dst := some 32, op := Op.indexAddr 22 (Operand.tmp 28) (Operand.tmp 31), type := 0, pos := "odag.go:170", after := #[{ on := 3, ground := Ground.data }, { on := 6, ground := Ground.data }], guard := none } : Oper)) (v := ?vg7) rfl (by kernel_rfl) (by kernel_rfl) (by kernel_rfl) (fun _ _ _ h => h) (Or.inl ⟨by rfl, ?hyg7⟩) (by assumption) ?restg7
    case hyg7 => intro w hSw; (try dsimp only at hSw); go_simp; all_goals (with_reducible rfl)
    try simp only [Act.put, List.setIfInBounds_toArray, List.set_cons_zero, List.set_cons_succ]
    refine wpAnyH_take (i := 8) (oi := ({ dst := some 33, op := Op.load 44 (Operand.tmp 32), type := 44, pos := "odag.go:170", after := #[{ on := 7, ground := Ground.data }], guard := none } : Oper)) (v := ?vg8) rfl (by kernel_rfl) (by kernel_rfl) (by kernel_rfl) (fun _ _ _ h => h) (Or.inl ⟨by rfl, ?hyg8⟩) (by assumption) ?restg8
    case hyg8 => intro w hSw; (try dsimp only at hSw); go_simp; all_goals (with_reducible rfl)
    try simp only [Act.put, List.setIfInBounds_toArray, List.set_cons_zero, List.set_cons_succ]
    refine wpAnyH_take (i := 9) (oi := ({ dst := some 34, op := Op.call { callee := Callee.builtin Builtin.len, args := #[Operand.tmp 33], argTypes := #[44] }, type := 3, pos := "odag.go:170", after := #[{ on := 8, ground := Ground.data }], guard := none } : Oper)) (v := ?vg9) rfl (by kernel_rfl) (by kernel_rfl) (by kernel_rfl) (fun _ _ _ h => h) (Or.inl ⟨by rfl, ?hyg9⟩) (by assumption) ?restg9
    case hyg9 => intro w hSw; (try dsimp only at hSw); go_simp; all_goals (with_reducible rfl)
    try simp only [Act.put, List.setIfInBounds_toArray, List.set_cons_zero, List.set_cons_succ]
    refine wpAnyH_ready (rs := [10]) (by kernel_rfl) (by simp) ?_
    refine (AllReadyH.cons (o := ({ dst := some 35, op := Op.makeSlice 63 (Operand.tmp 34) (Operand.tmp 34), type := 63, pos := "odag.go:170", after := #[{ on := 9, ground := Ground.data }, { on := 9, ground := Ground.data }], guard := none } : Oper)) rfl (fun K hK => ?_) AllReadyH.nil)
    go_simp
    refine hK.out _ _ ?_ (fun hHeld => ?_)
    · (try dsimp only); exact HKS.out _ ((below_drewN' (Below.refl w1.heap.size w1) 1).alloc (below_drewN' (Below.refl w1.heap.size w1) 1).size _)
    clear hK K
    try simp only [Act.put, List.setIfInBounds_toArray, List.set_cons_zero, List.set_cons_succ]
    refine wpAnyH_take (i := 11) (oi := ({ dst := some 5, op := Op.assign (Operand.tmp 35), type := 63, pos := "odag.go:170", after := #[{ on := 10, ground := Ground.data }, { on := 5, ground := Ground.chain }, { on := 0, ground := Ground.phase }, { on := 1, ground := Ground.phase }, { on := 2, ground := Ground.phase }, { on := 3, ground := Ground.phase }, { on := 4, ground := Ground.phase }, { on := 5, ground := Ground.phase }, { on := 6, ground := Ground.phase }, { on := 7, ground := Ground.phase }, { on := 8, ground := Ground.phase }, { on := 9, ground := Ground.phase }, { on := 10, ground := Ground.phase }], guard := none } : Oper)) (v := ?vg10) rfl (by kernel_rfl) (by kernel_rfl) (by kernel_rfl) (fun _ _ _ h => h) (Or.inl ⟨by rfl, ?hyg10⟩) (by assumption) ?restg10
    case hyg10 => intro w hSw; (try dsimp only at hSw); go_simp; all_goals (with_reducible rfl)
    try simp only [Act.put, List.setIfInBounds_toArray, List.set_cons_zero, List.set_cons_succ]
    refine wpAnyH_done (by kernel_rfl) ?_ _
    go_wp2_with fail
    go_meet
    exact ⟨_, rfl, nums_drew (nums_made _ _ _ HL0.out) 1⟩
  case rest =>
    obtain ⟨g0, rfl, hN0⟩ := hcut
    have HN0 := Lib.hid hN0
    clear hN0 hmk hwr q0
    go_wp2_with fail
    go_loopg [38] ml (fun gh y wr => ∃ t, t ≤ ml ∧ gh = ml - t ∧ y = .int .i64 (t : Nat) ∧ NumsM w1 g0 (cntL (l + 1) C l) t wr)
    case atStart => exact ⟨0, Nat.zero_le _, rfl, rfl, HN0.out⟩
    case round =>
      obtain ⟨t, ht, rfl, rfl, hN⟩ := hrel
      have HN := Lib.hid hN
      by_cases hlt : t < ml
      · obtain ⟨⟨z, hz⟩, hf⟩ := hN.cell (s := t) (by rw [HL0.out]; exact hlt)
        have hv1 : (cntL (l + 1) C l).getD t 0 = 1 := by
          rw [cntL_at _ _ (by rw [HMM.out]; exact hlt), show l + 1 - 1 - l = 0 by omega]; rfl
        have HP := Lib.hid (hN.put (by rw [HL0.out]; exact hlt) hv1)
        have t1 : decide (t < ml) = true := decide_eq_true hlt
        have j1 : (t : Int) < ml := by omega
        have j2 : (0 : Int) ≤ t := by omega
        have HLT := Lib.hid hlt
        clear hN hlt hv1
        go_wp2_with fail
        go_roundg (ml - (t + 1))
        case rel => exact ⟨t + 1, HLT.out, rfl, by go_num, HP.out⟩
        case measure => have := HLT.out; omega
      · obtain rfl : t = ml := by omega
        have t1 : decide (t < t) = false := by simp
        have HB2 := Lib.hid hN.2.1
        have hsq : SeqV wr (.slice (some ⟨g0, 0, none⟩) t t) (cntL (l + 1) C l) := NumsM.seq (by rw [HL0.out]; exact hN) HL0.out
        have HSQ := Lib.hid hsq
        have HLW := Lib.hid (HLN.out _ hN.2.1)
        clear hN hlt hsq
        go_wp2_with fail
        refine HLW.out.mono ?_; rintro e w2 ⟨rfl, hw2⟩
        obtain rfl := hw2.symm
        go_wp2_with fail
        go_loopg [5, 7] l (fun gh x y wr => ∃ k, k ≤ l ∧ k = gh ∧ y = .int .i64 ((k : Int) - 1) ∧ SeqV wr x (cntL (l + 1) C k) ∧ Below w1.heap.size w1 wr)
        case atStart => exact ⟨l, Nat.le_refl _, rfl, by go_num, HSQ.out, HB2.out⟩
        case round =>
          obtain ⟨k, hk, rfl, rfl, hx, hb⟩ := hrel
          have HX := Lib.hid hx; have HB := Lib.hid hb
          obtain ⟨Ab, cb, rfl⟩ := IntsV.form hx
          by_cases hk0 : k = 0
          · subst hk0
            have t2 : decide ((0 : Int) ≤ ((0 : Nat) : Int) - 1) = false := by decide
            have hsum : ((rowP C 0).map (cntP C (l + 1 - 1) 0)).sum ≤ 9223372036854775807 := HTOT.out
            have TS := total_seq (cntP C (l + 1 - 1) 0) (L := rowP C 0) HX.out (by have := row_len C 0; omega) (fun a ha => HBD.out _ 0 a (by omega) ha) hsum
            have HTS := Lib.hid TS
            have HBW := Lib.hid (HB1.out.trans (hb.mono HB1.out.size))
            clear hx hb TS hsum
            go_wp2_with fail
            refine HTS.out.mono ?_; rintro e w3 ⟨rfl, hw3⟩
            obtain rfl := hw3.symm
            go_wp2_with fail
            refine (in_nil _ _).mono ?_; rintro e w4 ⟨rfl, rfl⟩
            go_wp2_with fail
            go_ret2
            exact ⟨rfl, HBW.out⟩
          · obtain ⟨k, rfl⟩ : ∃ k', k = k' + 1 := ⟨k - 1, by omega⟩
            rw [show ((k + 1 : Nat) : Int) - 1 = (k : Int) by omega]
            have t2 : decide ((0 : Int) ≤ (k : Int)) = true := decide_eq_true (by omega)
            have k1 : (0 : Int) ≤ k := by omega
            have k2 : (k : Int) + 1 ≤ l := by omega
            have hB0 := HB1.out.trans (hb.mono HB1.out.size)
            have hrl : (rowsP (l + 1) C).length = l + 1 := by simp [rowsP]
            have hkl : (allLinksP (l + 1) C).length = l := by simp [allLinksP]
            -- row k
            have hR := HR.out
            obtain ⟨b1, o1, u1, e1, hc1, hu1⟩ := hR.pos (i := k) (by rw [hrl]; omega)
            injection e1 with e1
            injection e1 with e1 e1'
            subst e1 e1'
            rw [show (rowsP (l + 1) C)[k]'(by rw [hrl]; omega) = rowP C k by simp [rowsP]] at hu1
            obtain ⟨hs1, A1, q1, rfl, _⟩ := hu1
            -- row k + 1
            obtain ⟨b2, o2, u2, e2, hc2, hu2⟩ := hR.pos (i := k + 1) (by rw [hrl]; omega)
            injection e2 with e2
            injection e2 with e2 e2'
            subst e2 e2'
            rw [show (rowsP (l + 1) C)[k + 1]'(by rw [hrl]; omega) = rowP C (k + 1) by simp [rowsP]] at hu2
            obtain ⟨hs2, A2, q2, rfl, _⟩ := hu2
            -- links of row k
            obtain ⟨bk, okk, uk, rfl, hck, huk⟩ := HK.out.pos (i := k) (by rw [hkl]; omega)
            rw [show (allLinksP (l + 1) C)[k]'(by rw [hkl]; omega) = linksP C k by simp [allLinksP]] at huk
            have hlk : (linksP C k).length = (rowP C k).length := by simp [linksP]
            obtain ⟨At, qt, rfl⟩ := huk.form
            -- reached row k
            obtain ⟨bq, oq, uq, rfl, hcq, huq⟩ := HQ.out.pos (i := k) (by rw [hrl]; omega)
            rw [show (rowsP (l + 1) C)[k]'(by rw [hrl]; omega) = rowP C k by simp [rowsP]] at huq
            obtain ⟨hsq, A3, q3, rfl, _⟩ := huq
            have hm1 := row_len C k
            have hm2 := row_len C (k + 1)
            obtain ⟨m, hm⟩ : ∃ x, (rowP C k).length = x := ⟨_, rfl⟩
            obtain ⟨m2, hm2'⟩ : ∃ x, (rowP C (k + 1)).length = x := ⟨_, rfl⟩
            have hxl : (cntL (l + 1) C (k + 1)).length = m2 := by rw [cntL_len, hm2']
            have hcl : (cntL (l + 1) C k).length = m := by rw [cntL_len, hm]
            rw [hlk, hm] at hck huk
            rw [hm] at hc1 hs1 hcq hsq hm1
            rw [hm2'] at hc2 hs2 hm2
            rw [hxl] at HX hx ⊢
            have d0 := cell_below' HC0.out hB0
            have d1 := cell_below' hc1 hB0
            have hmk := fun V => runL64 m (by omega) V
            obtain ⟨wa, hwa⟩ : ∃ W, wr.alloc (.cells (madeCells #[.int .i64 0] m) 2) = W := ⟨_, rfl⟩
            have hNa : NumsM wr wr.heap.size (cntL (l + 1) C k) 0 wa := by rw [← hwa]; exact nums_made _ _ _ hcl
            have hba : Below wr.heap.size wr wa := by rw [← hwa]; exact (Below.refl _ _).alloc (Nat.le_refl _) _
            have d2 := cell_below' d0 hba
            have d3 := cell_below' d1 hba
            obtain ⟨gB, hgB⟩ : ∃ x, wr.heap.size = x := ⟨_, rfl⟩
            have HWA := Lib.hid hwa; have HNA := Lib.hid hNa; have HGB := Lib.hid hgB
            -- what stays in all later worlds
            have KEEP := Lib.hid (fun W (hW : Below wr.heap.size wr W) =>
              have h0 := hB0.trans (hW.mono hB0.size)
              And.intro (cell_below' HC0.out h0) (And.intro (cell_below' HC1.out h0) (And.intro (cell_below' hc1 h0) (And.intro (cell_below' hc2 h0) (And.intro (cell_below' hck h0) (cell_below' hcq (hb.trans (hW.mono hb.size))))))))
            have HS1 := Lib.hid (fun W (hW : Below wr.heap.size wr W) => hs1.below (hB0.trans (hW.mono hB0.size)) (Nat.le_refl _))
            have HS2 := Lib.hid (fun W (hW : Below wr.heap.size wr W) => hs2.below (hB0.trans (hW.mono hB0.size)) (Nat.le_refl _))
            have HSQ2 := Lib.hid (fun W (hW : Below wr.heap.size wr W) => hsq.below (hb.trans (hW.mono hb.size)) (Nat.le_refl _))
            have HUK := Lib.hid (fun W (hW : Below wr.heap.size wr W) => huk.below (hB0.trans (hW.mono hB0.size)) (Nat.le_refl _))
            have HXB := Lib.hid (fun W (hW : Below wr.heap.size wr W) => hx.below hW (Nat.le_refl _))
            have HM := Lib.hid hm; have HM2 := Lib.hid hm2'; have HCLN := Lib.hid hcl; have HLK := Lib.hid hlk; have HXLL := Lib.hid hxl
            have HKL := Lib.hid hk
            clear hx hb hrl hkl hR hc1 hs1 hc2 hs2 hck huk hlk hcq hsq hm hm2' hxl hcl hwa hNa hgB hba hB0
            go_upto_region 14 with fail
            rw [HWA.out]
            clear d0 d1 hmk
            go_wp2_with fail
            obtain ⟨wi, hwi⟩ : ∃ x, x = wr := ⟨_, rfl⟩
            subst hwi
            obtain ⟨f, hf⟩ : ∃ f, cntP C (l + 1 - 1 - (k + 1)) (k + 1) = f := ⟨_, rfl⟩
            have HF := Lib.hid hf
            clear hf
            go_loopg [69] m (fun gh y wt => ∃ t, t ≤ m ∧ gh = m - t ∧ y = .int .i64 (t : Nat) ∧ NumsM wi wi.heap.size (cntL (l + 1) C k) t wt)
            case atStart => exact ⟨0, Nat.zero_le _, rfl, rfl, by have := HNA.out; exact this⟩
            case round =>
              obtain ⟨s, hs, rfl, rfl, hN⟩ := hrel
              obtain ⟨ws, hws⟩ : ∃ x, x = wr := ⟨_, rfl⟩
              subst hws
              have HN := Lib.hid hN
              have hbt := hN.2.1
              by_cases hsm : s < m
              · obtain ⟨e0, e1, e2, e3, e4, e5⟩ := KEEP.out ws hbt
                obtain ⟨ba, oa, rfl, hca⟩ := (HS1.out ws hbt).pos (i := s) (by rw [HM.out]; exact hsm)
                have haR : (rowP C k).getD s 0 ∈ rowP C k := by
                  have : s < (rowP C k).length := by rw [HM.out]; exact hsm
                  simp [List.getD, this]
                have hlk : s < (linksP C k).length := by rw [HLK.out, HM.out]; exact hsm
                obtain ⟨bt, ot, ut, rfl, hct, hut⟩ := (HUK.out ws hbt).pos hlk
                have hval := cntL_at (l + 1) C (i := k) (t := s) (by rw [HM.out]; exact hsm)
                rw [show (linksP C k)[s] = linkP C k ((rowP C k).getD s 0) by simp [linksP, List.getD, show s < (rowP C k).length by rw [HM.out]; exact hsm]] at hut
                obtain ⟨a, ha⟩ : ∃ a, (rowP C k).getD s 0 = a := ⟨_, rfl⟩
                rw [ha] at hca haR hut hval
                obtain ⟨hts, A6, q6, rfl, _⟩ := hut
                have hcon : (rowP C k).contains a = true := by simpa using haR
                have HAS := has_any (HSQ2.out ws hbt) (row_rising C k) (by rw [HM.out]; omega) a
                rw [hcon] at HAS
                have hpl := link_len C k a
                have hTm : ∀ b ∈ linkP C k a, b ∈ rowP C (k + 1) := fun b hb => link_row hb
                have hsumT : ((linkP C k a).map f).sum = cntP C (l + 1 - 1 - k) k a := by
                  rw [← HF.out, show l + 1 - 1 - k = (l + 1 - 1 - (k + 1)) + 1 by omega]; rfl
                have hsumB : cntP C (l + 1 - 1 - k) k a ≤ 9223372036854775807 := HBD.out _ k a (by omega) haR
                have hfB : ∀ b ∈ linkP C k a, f b ≤ 9223372036854775807 := fun b hb => by rw [← HF.out]; exact HBD.out _ (k + 1) b (by omega) (hTm b hb)
                obtain ⟨T, hT⟩ : ∃ T, linkP C k a = T := ⟨_, rfl⟩
                rw [hT] at hts hct hpl hTm hsumT hfB
                obtain ⟨p, hp⟩ : ∃ x, T.length = x := ⟨_, rfl⟩
                rw [hp] at hts hct hpl
                rw [← hsumT] at hval hsumB
                have HHAS := Lib.hid HAS; have HTM := Lib.hid hTm; have HSUM := Lib.hid hsumB; have HFB := Lib.hid hfB; have HP := Lib.hid hp; have HVAL := Lib.hid hval
                have HTS := Lib.hid hts; have HCT := Lib.hid hct; have HSM := Lib.hid hsm; have HBT := Lib.hid hbt
                have t5 : decide (s < m) = true := decide_eq_true hsm
                have s1 : (s : Int) < m := by omega
                have s2 : (0 : Int) ≤ s := by omega
                have s3 : (k : Int) < l := by omega
                clear hN hbt hsm e0 e1 e2 e3 e4 haR hlk ha hct hval hts hcon HAS hTm hsumT hsumB hfB hT hp
                go_wp2_with fail
                refine HHAS.out.mono ?_; rintro e w5 ⟨rfl, q5, hw5⟩
                have hb5 : Below ws.heap.size ws w5 := by rw [hw5]; exact below_drewN' (Below.refl _ _) q5
                have hb5i := HBT.out.trans (hb5.mono HBT.out.size)
                obtain ⟨e0, e1, e2, e3, e4, _⟩ := KEEP.out w5 hb5i
                have e6 := cell_below' HCT.out hb5
                have HB5 := Lib.hid hb5; have HB5I := Lib.hid hb5i
                clear hw5 hb5 hb5i e5 hca
                go_wp2_with fail
                go_loopg [11, 92] p (fun gh x y wu => ∃ j, j ≤ p ∧ gh = p - j ∧ y = .int .i64 (j : Nat) ∧ wu.ownsRow w5.heap.size 2 1 x j (intCells ((T.map fun b => ((f b : Nat) : Int)).take j)) ∧ Below w5.heap.size w5 wu)
                case atStart => exact ⟨0, Nat.zero_le _, rfl, rfl, World.ownsRow_nil _ _ _ _, Below.refl _ _⟩
                case round =>
                  obtain ⟨j, hj, rfl, rfl, hown, hbu⟩ := hrel
                  have HOWN := Lib.hid hown; have HBU := Lib.hid hbu
                  obtain ⟨Ao, co, rfl⟩ := own_form hown
                  have hbui := HB5I.out.trans (hbu.mono HB5I.out.size)
                  by_cases hjp : j < p
                  · obtain ⟨e0, e1, e2, e3, e4, _⟩ := KEEP.out wr hbui
                    obtain ⟨b6, o6, rfl, hc6⟩ := HTS.out.pos (i := j) (by rw [HP.out]; exact hjp)
                    have hjT : j < T.length := by rw [HP.out]; exact hjp
                    have hbT : T.getD j 0 ∈ T := by simp [List.getD, hjT]
                    have htk : (T.map fun b => ((f b : Nat) : Int)).take (j + 1) = (T.map fun b => ((f b : Nat) : Int)).take j ++ [((f (T.getD j 0) : Nat) : Int)] := by
                      rw [List.take_succ_eq_append_getElem (by simpa using hjT)]
                      simp [List.getD, hjT]
                    obtain ⟨b, hb⟩ : ∃ b, T.getD j 0 = b := ⟨_, rfl⟩
                    rw [hb] at hc6 hbT htk
                    have hc6' := cell_below' (cell_below' hc6 HB5.out) hbu
                    have hbR := HTM.out b hbT
                    obtain ⟨hr1, hr2⟩ := rankL_at (row_rising C (k + 1)) hbR
                    have BS := bs_any (HS2.out wr hbui) (row_rising C (k + 1)) (by rw [HM2.out]; omega) b
                    have hcv := cntL_at (l + 1) C (i := k + 1) hr1
                    rw [hr2, HF.out] at hcv
                    obtain ⟨r, hr⟩ : ∃ r, rankL (rowP C (k + 1)) b = r := ⟨_, rfl⟩
                    rw [hr] at BS hr1 hcv
                    rw [HM2.out] at hr1
                    obtain ⟨bb, ob', rfl, hcb⟩ := (HXB.out wr hbui).pos (i := r) (by rw [HXLL.out]; exact hr1)
                    rw [hcv] at hcb
                    obtain ⟨con, hcon⟩ : ∃ c, (rowP C (k + 1)).contains b = c := ⟨_, rfl⟩
                    rw [hcon] at BS
                    have HBS := Lib.hid BS; have HCB := Lib.hid hcb; have HTK := Lib.hid htk; have HJP := Lib.hid hjp
                    obtain ⟨fv, hfv⟩ : ∃ z, ((f b : Nat) : Int) = z := ⟨_, rfl⟩
                    rw [hfv] at HCB HTK
                    have t6 : decide (j < p) = true := decide_eq_true hjp
                    have u1 : (j : Int) < p := by omega
                    have u2' : (0 : Int) ≤ j := by omega
                    have u3' : (r : Int) < m2 := by omega
                    have u4' : (0 : Int) ≤ r := by omega
                    have hs5 := hbu.size
                    clear hown hbu hjT hbT htk hb hc6 hbR hr2 BS hcv hr hcb hcon hfv hjp
                    go_wp2_with fail
                    refine HBS.out.mono ?_; rintro e w6 ⟨rfl, q6', hw6⟩
                    have hb6 : Below wr.heap.size wr w6 := by rw [hw6]; exact below_drewN' (Below.refl _ _) q6'
                    have hc7 := cell_below' HCB.out hb6
                    have HO6 := Lib.hid (own_below HOWN.out hb6 (Nat.le_refl _))
                    have HB6 := Lib.hid (HBU.out.trans (hb6.mono hs5))
                    have hs6 : w5.heap.size ≤ w6.heap.size := Nat.le_trans hs5 hb6.size
                    clear hw6 hb6 hc6'
                    go_wp2_with (at_builtin; refine wpList_app1g _ rfl _ _ 63 rfl w5.heap.size 2 i0 (.int .i64 0) 8 Tryz.underlying63 hi0 hz0 hz1 hz2 rfl _ j _ rfl HO6.out _ rfl rfl (by omega) (by omega) hs6 ?_)
                    intro A7 c7 w7 hown7 hgrow7
                    have HB7 := Lib.hid (hgrow7.below HO6.out HB6.out (Nat.le_refl _) hs6)
                    have HO7 : Hid (w7.ownsRow w5.heap.size 2 1 (.slice A7 (j + 1) c7) (j + 1) (intCells ((T.map fun b => ((f b : Nat) : Int)).take (j + 1)))) := Lib.hid (by
                      rw [HTK.out, intCells_app]; exact hown7)
                    clear hown7 hgrow7 hc7
                    go_wp2_with fail
                    go_roundg (p - (j + 1))
                    case rel => exact ⟨j + 1, HJP.out, rfl, by go_num, HO7.out, HB7.out⟩
                    case measure => have := HJP.out; omega
                  · obtain rfl : j = p := by omega
                    have t6 : decide (j < j) = false := by simp
                    have hsv : SeqV wr (.slice Ao j co) (T.map fun b => ((f b : Nat) : Int)) := by
                      have h1 := own_seqL64 hown
                      rwa [List.take_of_length_le (by rw [List.length_map, HP.out]; exact Nat.le_refl _)] at h1
                    have HTO := Lib.hid (total_seq f hsv (by rw [HP.out]; omega) HFB.out HSUM.out)
                    have hNN := HN.out.below (HB5.out.trans (hbu.mono HB5.out.size))
                    obtain ⟨⟨z, hz⟩, hfz⟩ := hNN.cell (s := s) (by rw [HCLN.out]; exact HSM.out)
                    have HPUT := Lib.hid (hNN.put (by rw [HCLN.out]; exact HSM.out) HVAL.out)
                    clear hown hbu hbui hjp hsv hNN
                    go_wp2_with fail
                    refine HTO.out.mono ?_; rintro e w8 ⟨rfl, hw8⟩
                    obtain rfl := hw8.symm
                    go_wp2_with fail
                    go_roundg (m - (s + 1))
                    case rel => exact ⟨s + 1, HSM.out, rfl, by go_num, HPUT.out⟩
                    case measure => have := HSM.out; omega
              · obtain rfl : s = m := by omega
                have t4 : decide (s < s) = false := by simp
                have hsq : SeqV ws (.slice (some ⟨wi.heap.size, 0, none⟩) s s) (cntL (l + 1) C k) := NumsM.seq (by rw [HCLN.out]; exact hN) HCLN.out
                have HFS := Lib.hid hsq
                have HBF := Lib.hid (HB.out.trans (hbt.mono HB.out.size))
                have HKL2 := HKL.out
                clear hN hbt hsm hsq
                go_wp2_with fail
                go_roundg k
                case rel => exact ⟨k, by omega, rfl, by go_num, HFS.out, HBF.out⟩
                case measure => omega
end Go.Proofs.YtcmocigckcjdjaaGreatDoor
