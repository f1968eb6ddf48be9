/- A machine whose job tells an error; a mail to nobody. Written by gen_brk.py. -/
import Derived.Test.YtlopoddllfkkfaaDoorBspF
import Derived.Test.YtlopoddllfkkfaaDoorFault2
namespace Go.Proofs.YtlopoddllfkkfaaDoor
open Go.RowKit

def brkJob (bad : Nat) : Value := .iface 50 (.agg #[.int .i64 (bad : Int)])
def workG (p : MP) (a : Nat) (z x : ByteArray) (M : List Int) : MP :=
  { p with nx := p.nx.set a z, wk := p.wk.set a true, nt := sendsP p.nt (a : Int) x M }
/-- A step of a word around a fault. -/
def StepIs (word : ByteArray) (c a : Int) (w : World) (u : Value) : Prop :=
  ∃ (sb fb : Nat) (nm : ByteArray), u = .iface 88 (.pointer (some ⟨sb, 0, none⟩)) ∧ Whole w sb 90 #[.string word, .iface 69 (.pointer (some ⟨fb, 0, none⟩))] ∧ Whole w fb 72 #[.int .i64 c, .int .i64 a, .string nm]
theorem StepIs.below {word : ByteArray} {c a : Int} {w w' : World} {u : Value} (h : StepIs word c a w u) (hb : Below w.heap.size w w') : StepIs word c a w' u := by
  obtain ⟨sb, fb, nm, rfl, h1, h2⟩ := h
  exact ⟨sb, fb, nm, rfl, h1.below hb h1.lt, h2.below hb h2.lt⟩
theorem StepIs.err {word : ByteArray} {c a : Int} {w : World} {u : Value} (h : StepIs word c a w u) : ∃ (V : Nat → Value) (B : Nat → Nat) (b : Nat) (nm : ByteArray), u = V 0 ∧ ErrAt w 1 V B (fun _ => word) b c a nm := by
  obtain ⟨sb, fb, nm, rfl, h1, h2⟩ := h
  refine ⟨fun i => if i = 0 then .iface 88 (.pointer (some ⟨sb, 0, none⟩)) else .iface 69 (.pointer (some ⟨fb, 0, none⟩)), fun _ => sb, fb, nm, rfl, ⟨?_, ?_, ?_⟩, rfl, h2⟩
  · intro i hi
    obtain rfl : i = 0 := by omega
    rfl
  · intro i hi
    exact h1.cell 0
  · intro i hi
    obtain rfl : i = 0 := by omega
    exact h1.cell 1
theorem step_in {c a : Int} {w : World} {u : Value} (word : ByteArray) (h : FaultAt c a w u) : Calls Tryd.prog 28 #[.string word, u] w fun e w' => ∃ b, e = .returned (.iface 88 (.pointer (some ⟨b, 0, none⟩))) ∧ StepIs word c a w' (.iface 88 (.pointer (some ⟨b, 0, none⟩))) ∧ Below w.heap.size w w' := by
  obtain ⟨fb, nm, rfl, hf⟩ := h
  refine (in_any word _ _ w).mono ?_
  rintro e w' ⟨rfl, rfl⟩
  have hb : Below w.heap.size w (w.alloc (.cells #[.string word, .iface 69 (.pointer (some ⟨fb, 0, none⟩))] 90)) := (Below.refl _ _).alloc (Nat.le_refl _) _
  exact ⟨_, rfl, ⟨_, fb, nm, rfl, Whole.new w _ _, hf.below hb hf.lt⟩, hb⟩
/-- The same, of new blocks. -/
def StepN (base : Nat) (word : ByteArray) (c a : Int) (w : World) (u : Value) : Prop :=
  ∃ (sb fb : Nat) (nm : ByteArray), base ≤ sb ∧ base ≤ fb ∧ u = .iface 88 (.pointer (some ⟨sb, 0, none⟩)) ∧ Whole w sb 90 #[.string word, .iface 69 (.pointer (some ⟨fb, 0, none⟩))] ∧ Whole w fb 72 #[.int .i64 c, .int .i64 a, .string nm]
theorem StepN.is {base : Nat} {word : ByteArray} {c a : Int} {w : World} {u : Value} (h : StepN base word c a w u) : StepIs word c a w u := by
  obtain ⟨sb, fb, nm, _, _, h1, h2, h3⟩ := h
  exact ⟨sb, fb, nm, h1, h2, h3⟩
theorem StepN.stay {base : Nat} {word : ByteArray} {c a : Int} {w w' : World} {u : Value} (h : StepN base word c a w u) (hk : ∀ g, base ≤ g → g < w.heap.size → w'.heap[g]? = w.heap[g]?) : StepN base word c a w' u := by
  obtain ⟨sb, fb, nm, b1, b2, rfl, h1, h2⟩ := h
  exact ⟨sb, fb, nm, b1, b2, rfl, h1.stay (hk sb b1 h1.lt), h2.stay (hk fb b2 h2.lt)⟩
theorem StepN.below {base : Nat} {word : ByteArray} {c a : Int} {w w' : World} {u : Value} (h : StepN base word c a w u) (hb : Below w.heap.size w w') : StepN base word c a w' u := h.stay (fun g _ hg => hb.block g hg)
def FaultN (base : Nat) (c a : Int) (w : World) (fb : Nat) : Prop := base ≤ fb ∧ ∃ nm : ByteArray, Whole w fb 72 #[.int .i64 c, .int .i64 a, .string nm]
theorem stepn_in {base : Nat} {c a : Int} {w : World} {fb : Nat} (word : ByteArray) (h : FaultN base c a w fb) (hbase : base ≤ w.heap.size) : Calls Tryd.prog 28 #[.string word, .iface 69 (.pointer (some ⟨fb, 0, none⟩))] w fun e w' => ∃ b, e = .returned (.iface 88 (.pointer (some ⟨b, 0, none⟩))) ∧ StepN base word c a w' (.iface 88 (.pointer (some ⟨b, 0, none⟩))) ∧ Below w.heap.size w w' := by
  obtain ⟨h1, nm, hf⟩ := h
  refine (in_any word _ _ w).mono ?_
  rintro e w' ⟨rfl, rfl⟩
  have hb : Below w.heap.size w (w.alloc (.cells #[.string word, .iface 69 (.pointer (some ⟨fb, 0, none⟩))] 90)) := (Below.refl _ _).alloc (Nat.le_refl _) _
  exact ⟨_, rfl, ⟨_, fb, nm, hbase, h1, rfl, Whole.new w _ _, hf.below hb hf.lt⟩, hb⟩
/-- The job's work. -/
theorem brk_no (bad k : Nat) (r : Int) (s : ByteArray) (v : Value) (w : World) (hk : k = bad) :
    Calls Tryd.prog 77 #[.agg #[.int .i64 (bad : Int)], .int .i64 (k : Int), .int .i64 r, .string s, v] w fun e w' => ∃ fb, e = .returned (.tuple #[.string ⟨#[]⟩, .slice none 0 0, .iface 69 (.pointer (some ⟨fb, 0, none⟩))]) ∧ FaultN w.heap.size 7 k w' fb ∧ Below w.heap.size w w' := by
  subst hk
  have hb1 : Below w.heap.size w (w.alloc (.cells #[.int .i64 (k : Int)] 50)) := (Below.refl _ _).alloc (Nat.le_refl _) _
  have hw1 := Whole.new w 50 #[.int .i64 (k : Int)]
  obtain ⟨w1, hw⟩ : ∃ W, w.alloc (.cells #[.int .i64 (k : Int)] 50) = W := ⟨_, rfl⟩
  rw [hw] at hb1 hw1
  have c0 : w1.cell? ⟨w.heap.size, 0, none⟩ = some (.int .i64 (k : Int)) := hw1.cell 0
  have HF := Lib.hid (new_any 7 k ⟨#[98, 114, 111, 107, 101, 110]⟩ w1)
  have HB := Lib.hid hb1; have HW := Lib.hid hw
  have HBB : Hid (Below w.heap.size w (w1.alloc (.cells #[.int .i64 7, .int .i64 (k : Int), .string ⟨#[98, 114, 111, 107, 101, 110]⟩] 72))) := Lib.hid (hb1.alloc hb1.size _)
  clear hb1 hw1 hw
  go_enter Tryd.func77, Tryd.ntmps77
  go_upto_region 1 with fail
  rw [HW.out]
  go_wp2_with fail
  refine HF.out.mono ?_; rintro e w2 ⟨rfl, rfl⟩
  go_wp2_with fail
  go_ret3
  exact ⟨_, rfl, ⟨HB.out.size, _, Whole.new w1 _ _⟩, HBB.out⟩
theorem brk_yes (bad k : Nat) (r : Int) (s : ByteArray) (hs : s.size ≤ 1000) (v : Value) (w : World) (hk : k ≠ bad) :
    Calls Tryd.prog 77 #[.agg #[.int .i64 (bad : Int)], .int .i64 (k : Int), .int .i64 r, .string s, v] w fun e w' => ∃ vm, e = .returned (.tuple #[.string (s ++ ⟨#[33]⟩), vm, .nilIface]) ∧ w'.ownsRow w.heap.size 77 2 vm 1 (mailC ⟨#[109]⟩ [0]) ∧ Below w.heap.size w w' := by
  have hb1 : Below w.heap.size w (w.alloc (.cells #[.int .i64 (bad : Int)] 50)) := (Below.refl _ _).alloc (Nat.le_refl _) _
  have hw1 := Whole.new w 50 #[.int .i64 (bad : Int)]
  obtain ⟨w1, hw⟩ : ∃ W, w.alloc (.cells #[.int .i64 (bad : Int)] 50) = W := ⟨_, rfl⟩
  rw [hw] at hb1 hw1
  have hs1 : w1.heap.size = w.heap.size + 1 := by rw [← hw, World.size_alloc]
  have c0 : w1.cell? ⟨w.heap.size, 0, none⟩ = some (.int .i64 (bad : Int)) := hw1.cell 0
  have HB := Lib.hid (hb1.alloc hb1.size (.cells #[.int .i64 0, .string ⟨#[109]⟩] 77)); have HW := Lib.hid hw
  have HO := Lib.hid (Whole.new w1 77 #[.int .i64 0, .string ⟨#[109]⟩])
  have t1 : decide (k = bad) = false := decide_eq_false hk
  have t1' : ((k : Int) == (bad : Int)) = false := by simp; omega
  have t2 : (k == bad) = false := by simp; exact hk
  have n1 : ¬ 9223372036854775807 < s.size + (⟨#[33]⟩ : ByteArray).size := by show ¬ _ < s.size + 1; omega
  have n2 : ¬ 9223372036854775807 < s.size + 1 := by omega
  have HS1 := Lib.hid hs1
  clear hb1 hw1 hw hk hs hs1
  go_enter Tryd.func77, Tryd.ntmps77
  go_upto_region 1 with fail
  rw [HW.out]
  go_wp2_with fail
  go_ret3
  refine ⟨_, rfl, ⟨rfl, Or.inr ⟨_, 1, _, rfl, ?_, HO.out, by decide, by decide, ?_⟩⟩, HB.out⟩
  · have := HS1.out; omega
  · first | decide | rfl | simp [mailC]
set_option maxRecDepth 100000 in
set_option maxHeartbeats 4000000 in
theorem mwork_brk {w : World} {base N Mx : Nat} {p : MP} {bad : Nat} {m : Nat} {R : Nat → Prop} (M : List Int) (z x : ByteArray) (h : MachB w base N p (brkJob bad) m R) (g : Good p.nt Mx) (a : Nat) (ha : a < p.k) (hw0 : p.wk.getD a false = false)
    (hM : Mx + M.length ≤ 1000) (hN : N + M.length ≤ 1000) (hbase : base ≤ w.heap.size) (hTo : ∀ t ∈ M, 0 ≤ t ∧ t < p.k) (hl : (p.bx.getD a []).length ≤ 10000)
    (JH : ∀ (v : Value) (W : World), Calls Tryd.prog 77 #[.agg #[.int .i64 (bad : Int)], .int .i64 (a : Int), .int .i64 p.rd, .string (p.st.getD a ⟨#[]⟩), v] W fun e w' => ∃ vm, e = .returned (.tuple #[.string z, vm, .nilIface]) ∧ w'.ownsRow W.heap.size 77 2 vm M.length (mailC x M) ∧ Below W.heap.size W w') :
    Calls Tryd.prog 12 #[.pointer (some ⟨m, 0, none⟩), .int .i64 (a : Int)] w fun e w' => e = .returned .nilIface ∧ OpTo base (N + M.length) (workG p a z x M) (brkJob bad) m R w w' := by
  obtain ⟨nb, wb, ib, b, sv, us, Rn, h, rfl⟩ := h
  have C := Lib.hid (mcheck_any h (a : Int))
  rw [show inW p.k (a : Int) = 0 from if_pos (by omega)] at C
  have HH := Lib.hid h
  clear h
  go_enter Tryd.func12, Tryd.ntmps12
  go_wp2_with fail
  refine C.out.mono ?_; rintro e w1 ⟨hb, ⟨_, rfl⟩ | ⟨h0, _⟩⟩
  case inr => exact absurd rfl h0
  have h1 := HH.out.below hb (Nat.le_refl _)
  have H1 := Lib.hid h1; have HB1 := Lib.hid hb
  have hbs1 := hb.size
  obtain ⟨sb, so, sc, rfl, c0, c1, c2, c3, c4, c5, c6⟩ := h1.cells
  obtain ⟨k, hk⟩ : ∃ k, p.k = k := ⟨_, rfl⟩
  rw [hk] at ha c2 c3 c4 c5 hTo
  have d5 : w1.cell? ⟨wb, a, none⟩ = some (.bool false) := by rw [h1.work.cell a, List.getElem?_toArray, boolC_at (show a < p.wk.length by rw [h1.l5, hk]; exact ha), hw0]
  have d2 : w1.cell? ⟨sb, so + a, none⟩ = some (.string (p.st.getD a ⟨#[]⟩)) := by
    have hst := h1.st
    rw [hk] at hst
    obtain ⟨b', off', e, _, hc⟩ := txt_pos hst (show a < p.st.length by rw [h1.l1, hk]; exact ha)
    injection e with e
    injection e with e1 e2 e3
    subst e1 e2
    exact hc
  obtain ⟨u, hu⟩ : ∃ u, us[a]? = some u := ⟨_, List.getElem?_eq_getElem (by rw [h1.l3, hk]; exact ha)⟩
  have d3 : w1.cell? ⟨ib, a, none⟩ = some u := by rw [h1.rows.cell a]; simpa using hu
  have hux : ValsV w1 u (txtC (p.bx.getD a [])) := h1.bx a u _ hu (by simp [List.getD, show a < p.bx.length by rw [h1.l2, hk]; exact ha])
  obtain ⟨s, hss⟩ : ∃ s, p.st.getD a ⟨#[]⟩ = s := ⟨_, rfl⟩
  obtain ⟨X, hXX⟩ : ∃ X, p.bx.getD a [] = X := ⟨_, rfl⟩
  rw [hss] at d2 JH
  rw [hXX] at hux hl
  obtain ⟨Au, cu, rfl⟩ := txt_form hux
  have CL : Hid (∀ W, Below w1.heap.size w1 W → Calls Tryd.prog 29 #[.slice Au X.length cu] W fun e w' => ∃ A' c', e = .returned (.slice A' X.length c') ∧ ValsV w' (.slice A' X.length c') (txtC X) ∧ Below w1.heap.size w1 w') := Lib.hid (fun W hb => (clone_txt X _ W (hux.below hb (Nat.le_refl _)) (by omega)).mono fun e w' ⟨v, h1, h2, h3⟩ => by
    obtain ⟨A', c', rfl⟩ := own_form h2
    exact ⟨A', c', h1, own_vals h2, hb.trans (h3.mono hb.size)⟩)
  have JW : Hid (∀ v W, Below w1.heap.size w1 W → ValsV W v (txtC X) → Calls Tryd.prog 77 #[.agg #[.int .i64 (bad : Int)], .int .i64 (a : Int), .int .i64 p.rd, .string s, v] W fun e w' => ∃ A' c', e = .returned (.tuple #[.string z, .slice A' M.length c', .nilIface]) ∧ w'.ownsRow w1.heap.size 77 2 (.slice A' M.length c') M.length (mailC x M) ∧ Below w1.heap.size w1 w') := Lib.hid (fun v W h _ => (JH v W).mono fun e w' ⟨vm, h1, h2, h3⟩ => by
    obtain ⟨A', c', rfl⟩ := own_form h2
    exact ⟨A', c', h1, own_base h2 h.size, h.trans (h3.mono h.size)⟩)
  obtain ⟨xl, hxl⟩ : ∃ n, X.length = n := ⟨_, rfl⟩
  obtain ⟨ml, hml⟩ : ∃ n, M.length = n := ⟨_, rfl⟩
  rw [hxl] at CL d3
  rw [hml] at JW
  have hml6 : ml ≤ 1000 := by omega
  have HNM : Hid (Mx + ml ≤ 1000 ∧ N + ml ≤ 1000) := Lib.hid ⟨by omega, by omega⟩
  have t1 : decide (a < k) = true := decide_eq_true ha
  have i1 : (a : Int) < k := by omega
  have e0 : m < w1.heap.size := World.block_lt_of_cell? _ _ c0
  have e2 : sb < w1.heap.size := World.block_lt_of_cell? _ _ d2
  have e3 : ib < w1.heap.size := World.block_lt_of_cell? _ _ d3
  have KS := Lib.hid (fun W (h : Below w1.heap.size w1 W) => (show Below w1.heap.size w1 W ∧ W.cell? ⟨m, 0, none⟩ = some (brkJob bad) ∧ W.cell? ⟨m, 1, none⟩ = some (.int .i64 p.rd) ∧ W.cell? ⟨m, 2, none⟩ = some (.slice (some ⟨sb, so, none⟩) k sc) ∧ W.cell? ⟨m, 3, none⟩ = some (.slice (some ⟨ib, 0, none⟩) k k) ∧ W.cell? ⟨sb, so + a, none⟩ = some (.string s) ∧ W.cell? ⟨ib, a, none⟩ = some (.slice Au xl cu) from ⟨h, (h.cell (p := ⟨m, 0, none⟩) e0).trans c0, (h.cell (p := ⟨m, 1, none⟩) e0).trans c1, (h.cell (p := ⟨m, 2, none⟩) e0).trans c2, (h.cell (p := ⟨m, 3, none⟩) e0).trans c3, (h.cell (p := ⟨sb, so + a, none⟩) e2).trans d2, (h.cell (p := ⟨ib, a, none⟩) e3).trans d3⟩))
  have HU := Lib.hid hu
  have HXL := Lib.hid hxl; have HML := Lib.hid hml; have HK := Lib.hid hk
  have HTo := Lib.hid hTo; have HG := Lib.hid g; have HAK := Lib.hid ha; have HBASE := Lib.hid hbase
  clear h1 hb hux hu hl JH hss hXX hxl hml hM hN hTo g hk c4 c6 hbs1 hbase hw0
  unfold brkJob at KS c0
  go_wp2_with fail
  go_region_held3 (fun W => Below w1.heap.size w1 W ∧ W.cell? ⟨m, 0, none⟩ = some (.iface 50 (.agg #[.int .i64 (bad : Int)])) ∧ W.cell? ⟨m, 1, none⟩ = some (.int .i64 p.rd) ∧ W.cell? ⟨m, 2, none⟩ = some (.slice (some ⟨sb, so, none⟩) k sc) ∧ W.cell? ⟨m, 3, none⟩ = some (.slice (some ⟨ib, 0, none⟩) k k) ∧ W.cell? ⟨sb, so + a, none⟩ = some (.string s) ∧ W.cell? ⟨ib, a, none⟩ = some (.slice Au xl cu))
    (exact KS.out _ (by first | assumption | exact Below.refl _ _ | exact below_drewN' (Below.refl _ _) _ | exact below_drewN' (by assumption) _))
    (first
      | (go_at_call 77; refine (JW.out _ _ hBC HVC.out).mono ?_; rintro e' wJ ⟨Am, cm, rfl, hvm, hBJ⟩)
      | (go_at_call 29; refine (CL.out _ (by first | assumption | exact Below.refl _ _ | exact below_drewN' (Below.refl _ _) _)).mono ?_; rintro e' wC ⟨Ac, cc, rfl, hvc, hBC⟩; have HVC := Lib.hid hvc; clear hvc))
  all_goals
    have hJ := HH.out.below (HB1.out.trans (hBJ.mono (by have := HB1.out.size; omega))) (Nat.le_refl _)
    obtain ⟨hmv, hmo⟩ := own_mails hvm
    have HM := Lib.hid (fun W (h : Below wJ.heap.size wJ W) => hmv.stay (fun g hg => h.block g (hmo g hg).2))
    have HMO := Lib.hid hmo
    have HJ := Lib.hid hJ; have HBJ := Lib.hid hBJ
    have HWJ := Lib.hid (fun W (h : Below wJ.heap.size wJ W) => hJ.below h (Nat.le_refl _))
    clear hvm hmv hmo hJ hBJ hBC c0 c1 c2 c3 c5 d5 d2 d3 e0 e2 e3
    go_wp2_with fail
    go_loopg [66] ml (fun g y wr => ∃ i, i ≤ ml ∧ g = ml - i ∧ y = .int .i64 (i : Nat) ∧ Below wJ.heap.size wJ wr)
    case atStart => exact ⟨0, Nat.zero_le _, rfl, rfl, Below.refl _ _⟩
    case round =>
      obtain ⟨i, hi, rfl, rfl, hB⟩ := hrel
      have HB := Lib.hid hB
      by_cases hlt : i < ml
      · obtain ⟨g2, rfl, q0, q1⟩ := (HM.out wr hB).pos (show i < M.length by rw [HML.out]; exact hlt)
        obtain ⟨t, ht⟩ : ∃ t, M.getD i 0 = t := ⟨_, rfl⟩
        rw [ht] at q0
        have htk : 0 ≤ t ∧ t < (k : Int) := HTo.out t (by rw [← ht]; simp only [List.getD, List.getElem?_eq_getElem (show i < M.length by rw [HML.out]; exact hlt), Option.getD_some]; exact List.getElem_mem _)
        have hbq : Below wJ.heap.size wJ (wr.alloc (.cells #[.int .i64 t, .string x] 77)) := hB.alloc hB.size _
        have C2 := Lib.hid (mcheck_any (HWJ.out _ hbq) t)
        rw [show inW p.k t = 0 from if_pos (by rw [HK.out]; exact htk)] at C2
        have HBQ := Lib.hid hbq
        have t7 : decide (i < ml) = true := decide_eq_true hlt
        have t7' : decide ((i : Int) < ml) = true := decide_eq_true (by omega)
        have i3 : (i : Int) < ml := by omega
        have HLT := Lib.hid hlt
        clear ht htk hbq hB
        go_wp2_with fail
        refine C2.out.mono ?_; rintro e wq ⟨hb, ⟨_, rfl⟩ | ⟨h0, _⟩⟩
        case inr => exact absurd rfl h0
        have HQ := Lib.hid (HBQ.out.trans (hb.mono HBQ.out.size))
        clear hb
        go_wp2_with fail
        go_roundg (ml - (i + 1))
        case rel => exact ⟨i + 1, HLT.out, rfl, rfl, HQ.out⟩
        case measure => have := HLT.out; omega
      · have t7 : decide (i < ml) = false := decide_eq_false hlt
        have t7' : decide ((i : Int) < ml) = false := decide_eq_false (by omega)
        obtain rfl : ml = i := by omega
        obtain ⟨w5, hw5⟩ : ∃ W, W = wr := ⟨_, rfl⟩
        subst hw5
        have h5 := HWJ.out w5 hB
        have HM5 := Lib.hid (HM.out w5 hB)
        have H5 := Lib.hid h5
        have hrk : p.nt.k = k := by rw [h5.nk, HK.out]
        have hHa : hasB k (a : Int) = true := by unfold hasB; have := HAK.out; simp; omega
        have HHA := Lib.hid hHa; have HRK := Lib.hid hrk
        have HMS : Hid (∀ W, Fr w5.heap.size Rn w5 W → MailsV W (.slice Am ml cm) x M) := Lib.hid (fun W hf => HM5.out.stay (fun g hg => hf.block g (by have := (HMO.out g hg).2; have := hB.size; omega) (fun hr => by have := (H1.out.net.foot hr).2; have := (HMO.out g hg).1; omega)))
        have HWJ5 := Lib.hid hB
        clear hlt hi hB h5 hrk hHa
        go_wp2_with fail
        go_loopg [80] ml (fun g y wr => ∃ i, i ≤ ml ∧ g = ml - i ∧ y = .int .i64 (i : Nat) ∧ SentTo base (N + i) p (brkJob bad) m nb wb ib b (.slice (some ⟨sb, so, none⟩) p.k sc) us Rn (sendsP p.nt (a : Int) x (M.take i)) w5 wr)
        case atStart => exact ⟨0, Nat.zero_le _, rfl, rfl, ⟨Rn, H5.out, Fr.refl _ _ _, fun g hg => Or.inl hg⟩⟩
        case round =>
          obtain ⟨i, hi, rfl, rfl, Rn', hMI, hFr, hsub⟩ := hrel
          have HMI := Lib.hid hMI; have HFR := Lib.hid hFr; have HSUB := Lib.hid hsub
          have hsz := hFr.size
          by_cases hlt : i < ml
          · obtain ⟨g2, rfl, q0, q1⟩ := (HMS.out wr hFr).pos (show i < M.length by rw [HML.out]; exact hlt)
            obtain ⟨t, ht⟩ : ∃ t, M.getD i 0 = t := ⟨_, rfl⟩
            rw [ht] at q0
            have htm : t ∈ M := by rw [← ht]; simp only [List.getD, List.getElem?_eq_getElem (show i < M.length by rw [HML.out]; exact hlt), Option.getD_some]; exact List.getElem_mem _
            have htk := HTo.out t htm
            have hsn : sendsP p.nt (a : Int) x (M.take (i + 1)) = sendP (sendsP p.nt (a : Int) x (M.take i)) (a : Int) t x := by rw [take_snocT (d := 0) (by rw [HML.out]; exact hlt), sendsP_snoc, ht]
            obtain ⟨n1, hn1⟩ : ∃ n, sendsP p.nt (a : Int) x (M.take i) = n := ⟨_, rfl⟩
            have hn1k : n1.k = k := by rw [← hn1, sendsP_k]; exact HRK.out
            have hgd : Good n1 (Mx + i) := by
              rw [← hn1]
              have h9 := HG.out.sends (a : Int) x (by rw [HRK.out]; exact HHA.out) (M.take i) (by have := HNM.out.1; rw [List.length_take]; omega) (fun q hq => by have := HTo.out q (List.mem_of_mem_take hq); rw [HRK.out]; unfold hasB; simp; omega)
              exact h9.mono (by rw [List.length_take]; omega)
            rw [hn1] at hMI hsn
            have HSN := Lib.hid hsn
            have hHt : hasB n1.k t = true := by rw [hn1k]; unfold hasB; simp; omega
            obtain ⟨wq, hwq⟩ : ∃ W, wr.alloc (.cells #[.int .i64 t, .string x] 77) = W := ⟨_, rfl⟩
            obtain ⟨eb, heb⟩ : ∃ g, wr.heap.size = g := ⟨_, rfl⟩
            have hbq : Below wr.heap.size wr (wr.alloc (.cells #[.int .i64 t, .string x] 77)) := (Below.refl _ _).alloc (Nat.le_refl _) _
            have hwn := Whole.new wr 77 #[.int .i64 t, .string x]
            rw [hwq] at hbq hwn
            have hq := hMI.below hbq (Nat.le_refl _)
            have hwb : ¬ Rn' eb := fun hr => by have := (hMI.net.foot hr).2; omega
            rw [heb] at hwn
            have hwm : ¬ Rn' m := fun hr => (hMI.rn m hr).1 rfl
            have KS2 := Lib.hid (fun W (hf : Fr wq.heap.size Rn' wq W) => (show Fr wq.heap.size Rn' wq W ∧ W.cell? ⟨m, 6, none⟩ = some (.pointer (some ⟨b, 0, none⟩)) ∧ W.cell? ⟨eb, 0, none⟩ = some (.int .i64 t) ∧ W.cell? ⟨eb, 1, none⟩ = some (.string x) from ⟨hf, (hq.whole.stay (hf.block m hq.whole.lt hwm)).cell 6, (hwn.stay (hf.block eb hwn.lt hwb)).cell 0, (hwn.stay (hf.block eb hwn.lt hwb)).cell 1⟩))
            have hbs0 : base ≤ wq.heap.size := Nat.le_trans hq.bm (Nat.le_of_lt hq.whole.lt)
            have SB : Hid (∀ W, Below wq.heap.size wq W → Calls Tryd.prog 33 #[.pointer (some ⟨b, 0, none⟩), .int .i64 (a : Int), .int .i64 t, .string x] W fun e w' => e = .returned .nilIface ∧ SentB base (N + i + 1) (sendP n1 (a : Int) t x) b Rn' wq w' ∧ Fr wq.heap.size Rn' wq w') := Lib.hid (fun W hb => by
              have hN1 := HNM.out
              have k := send_b (hq.net.below hb) hgd (by omega) (by omega) (Nat.le_trans hbs0 hb.size) (a : Int) t x
              rw [stepP_send (by rw [hn1k]; exact HHA.out) hHt] at k
              refine k.mono ?_
              rintro e w' ⟨u, rfl, ⟨_, rfl⟩ | ⟨h0, _⟩, R2, hn2, hf2, hs2, _⟩
              case inr => exact absurd rfl h0
              have hf3 : Fr wq.heap.size Rn' wq w' := (Fr.of_below hb (Nat.le_refl _)).trans (hf2.less hb.size)
              exact ⟨rfl, ⟨R2, hn2, hf3, fun g hg => by rcases hs2 g hg with e | e; exact Or.inl e; exact Or.inr (Nat.le_trans hb.size e)⟩, hf3⟩)
            have HQ := Lib.hid hq; have HWQ := Lib.hid hwq; have HEB := Lib.hid heb; have HBQ := Lib.hid hbq; have HN1K := Lib.hid hn1k
            have t7 : decide (i < ml) = true := decide_eq_true hlt
            have t7' : decide ((i : Int) < ml) = true := decide_eq_true (by omega)
            have i3 : (i : Int) < ml := by omega
            have HLT := Lib.hid hlt
            clear ht htm htk hn1 hn1k hgd hMI hHt hbq hwn hq hwb hwm hbs0 hwq heb hFr hsub hsn hi
            go_upto_region 19 with fail
            rw [HWQ.out, HEB.out]
            go_wp2_with fail
            go_region_held3 (fun W => Fr wq.heap.size Rn' wq W ∧ W.cell? ⟨m, 6, none⟩ = some (.pointer (some ⟨b, 0, none⟩)) ∧ W.cell? ⟨eb, 0, none⟩ = some (.int .i64 t) ∧ W.cell? ⟨eb, 1, none⟩ = some (.string x))
              (exact KS2.out _ (by first | assumption | exact Fr.refl _ _ _ | exact Fr.of_below (below_drewN' (Below.refl _ _) _) (Nat.le_refl _)))
              (first
                | (go_at_call 33; refine (SB.out _ (by first | assumption | exact Below.refl _ _ | exact below_drewN' (Below.refl _ _) _)).mono ?_; rintro e' wU ⟨rfl, hSB, hFU⟩; have HSB := Lib.hid hSB; clear hSB))
            all_goals
              have HFU := Lib.hid hFU
              clear hFU
              go_wp2_with fail
              go_roundg (ml - (i + 1))
              case rel =>
                obtain ⟨R2, hn2, hf2, hs2⟩ := HSB.out
                refine ⟨i + 1, HLT.out, rfl, rfl, R2, ?_, ?_, fun g hg => ?_⟩
                · rw [HSN.out]
                  exact HQ.out.setNet hn2 hf2 hs2 (by rw [show (sendP n1 (a : Int) t x).k = n1.k from rfl, HN1K.out]; exact HK.out.symm)
                · have hsz := HFR.out.size
                  have hbq := HBQ.out
                  exact (HFR.out.trans (Fr.of_below hbq hsz)).more hf2 (by have := hbq.size; omega) (fun g hg => HSUB.out g hg)
                · rcases hs2 g hg with e | e
                  · exact HSUB.out g e
                  · have := HFR.out.size; have := HBQ.out.size; exact Or.inr (by omega)
              case measure => have := HLT.out; omega
          · have t7 : decide (i < ml) = false := decide_eq_false hlt
            have t7' : decide ((i : Int) < ml) = false := decide_eq_false (by omega)
            obtain rfl : ml = i := by omega
            have hfull : sendsP p.nt (a : Int) x (M.take ml) = sendsP p.nt (a : Int) x M := by rw [List.take_of_length_le (by rw [HML.out]; exact Nat.le_refl _)]
            rw [hfull] at hMI
            have HMI := Lib.hid hMI
            obtain ⟨w6, hw6⟩ : ∃ W, W = wr := ⟨_, rfl⟩
            subst hw6
            have c4 : w6.cell? ⟨m, 4, none⟩ = some (.slice (some ⟨nb, 0, none⟩) k k) := by rw [hMI.whole.cell 4, ← HK.out]; rfl
            have c5 : w6.cell? ⟨m, 5, none⟩ = some (.slice (some ⟨wb, 0, none⟩) k k) := by rw [hMI.whole.cell 5, ← HK.out]; rfl
            have d4 : ∃ v, w6.cell? ⟨nb, a, none⟩ = some v := by rw [hMI.next.cell a]; exact ⟨_, Array.getElem?_eq_getElem (by simp [txtC_len]; rw [hMI.l4, HK.out]; exact HAK.out)⟩
            have d5 : ∃ v, w6.cell? ⟨wb, a, none⟩ = some v := by rw [hMI.work.cell a]; exact ⟨_, Array.getElem?_eq_getElem (by simp [boolC_len]; rw [hMI.l5, HK.out]; exact HAK.out)⟩
            obtain ⟨v4, d4⟩ := d4
            obtain ⟨v5, d5⟩ := d5
            have f4 : w6.frozen? ⟨nb, a, none⟩ = false := hMI.next.free a
            have f5 : w6.frozen? ⟨wb, a, none⟩ = false := hMI.work.free a
            have n4 : ¬ nb = wb := hMI.n4
            have n4' : ¬ wb = nb := fun e => hMI.n4 e.symm
            have n0 : ¬ m = nb := hMI.n1
            have n0' : ¬ m = wb := hMI.n2
            have HFIN : Hid (OpTo base (N + M.length) (workG p a z x M) (brkJob bad) m (MFoot m nb wb ib (.slice (some ⟨sb, so, none⟩) p.k sc) us Rn) w (((w6.setCell ⟨nb, a, none⟩ (.string (z))).setCell ⟨wb, a, none⟩ (.bool true)).drew)) := Lib.hid (by
              have e : workG p a z x M = { p with nx := p.nx.set a (z), wk := p.wk.set a true, nt := sendsP p.nt (a : Int) x M } := by rfl
              have h1 := ((HMI.out.setNext a (z)).setWork a true).below (below_drewN' (Below.refl _ _) 1) (Nat.le_refl _)
              have hw5 : Below w.heap.size w w5 := HB1.out.trans ((HBJ.out.trans (HWJ5.out.mono HBJ.out.size)).mono HB1.out.size)
              have hfr := HFR.out
              have hsz := hfr.size
              have hsz5 := hw5.size
              have hm4 := HH.out.next.lt
              have hm5 := HH.out.work.lt
              have g1 : Fr w.heap.size (MFoot m nb wb ib (.slice (some ⟨sb, so, none⟩) p.k sc) us Rn) w ((w6.setCell ⟨nb, a, none⟩ (.string (z))).setCell ⟨wb, a, none⟩ (.bool true)).drew := by
                refine (Fr.of_below hw5 (Nat.le_refl _)).trans ?_
                refine ((hfr.less hsz5).mono (fun g _ hg => Or.inr (Or.inr (Or.inr (Or.inr (Or.inl hg)))))).trans ?_
                refine (Fr.of_grown (grown_cell w6 nb a (.string (z))) (by omega) (fun g hg _ => Or.inr (Or.inl (Option.some.inj hg).symm))).trans ?_
                refine (Fr.of_grown (grown_cell (w6.setCell ⟨nb, a, none⟩ (.string (z))) wb a (.bool true)) (by rw [size_put]; omega) (fun g hg _ => Or.inr (Or.inr (Or.inl (Option.some.inj hg).symm)))).trans ?_
                exact Fr.of_below (B := w.heap.size) (below_drewN' (Below.refl _ _) 1) (Nat.le_refl _)
              refine ⟨MFoot m nb wb ib (.slice (some ⟨sb, so, none⟩) p.k sc) us Rn', ⟨nb, wb, ib, b, .slice (some ⟨sb, so, none⟩) p.k sc, us, Rn', ?_, rfl⟩, g1, fun g hg => ?_, g1.below HBASE.out (fun g hg => (HH.out.foot hg).1)⟩
              · rw [e, HML.out]
                exact h1
              · rcases hg with hg | hg | hg | hg | hg | hg
                · exact Or.inl (Or.inl hg)
                · exact Or.inl (Or.inr (Or.inl hg))
                · exact Or.inl (Or.inr (Or.inr (Or.inl hg)))
                · exact Or.inl (Or.inr (Or.inr (Or.inr (Or.inl hg))))
                · rcases HSUB.out g hg with h2 | h2
                  · exact Or.inl (Or.inr (Or.inr (Or.inr (Or.inr (Or.inl h2)))))
                  · exact Or.inr (by omega)
                · exact Or.inl (Or.inr (Or.inr (Or.inr (Or.inr (Or.inr hg))))))
            clear hlt hi hMI hFr hsub hfull
            go_wp2_with fail
            go_region
            all_goals go_wp2_with fail
            all_goals go_ret
            all_goals exact ⟨rfl, HFIN.out⟩
set_option maxRecDepth 100000 in
set_option maxHeartbeats 4000000 in
theorem mwork_err {w : World} {base N : Nat} {p : MP} {bad a : Nat} {m : Nat} {R : Nat → Prop} (haa : bad = a) (h : MachB w base N p (brkJob bad) m R) (ha : a < p.k) (hw0 : p.wk.getD a false = false) (hl : (p.bx.getD a []).length ≤ 10000) :
    Calls Tryd.prog 12 #[.pointer (some ⟨m, 0, none⟩), .int .i64 (a : Int)] w fun e w' => (∃ b, e = .returned (.iface 88 (.pointer (some ⟨b, 0, none⟩))) ∧ StepN w.heap.size ⟨#[119, 111, 114, 107]⟩ 7 a w' (.iface 88 (.pointer (some ⟨b, 0, none⟩)))) ∧ Below w.heap.size w w' := by
  have HAA := Lib.hid haa
  obtain ⟨nb, wb, ib, b, sv, us, Rn, h, rfl⟩ := h
  have C := Lib.hid (mcheck_any h (a : Int))
  rw [show inW p.k (a : Int) = 0 from if_pos (by omega)] at C
  have HH := Lib.hid h
  clear h
  go_enter Tryd.func12, Tryd.ntmps12
  go_wp2_with fail
  refine C.out.mono ?_; rintro e w1 ⟨hb, ⟨_, rfl⟩ | ⟨h0, _⟩⟩
  case inr => exact absurd rfl h0
  have h1 := HH.out.below hb (Nat.le_refl _)
  have H1 := Lib.hid h1; have HB1 := Lib.hid hb
  have hbs1 := hb.size
  obtain ⟨sb, so, sc, rfl, c0, c1, c2, c3, c4, c5, c6⟩ := h1.cells
  obtain ⟨k, hk⟩ : ∃ k, p.k = k := ⟨_, rfl⟩
  rw [hk] at ha c2 c3 c4 c5
  have d5 : w1.cell? ⟨wb, a, none⟩ = some (.bool false) := by rw [h1.work.cell a, List.getElem?_toArray, boolC_at (show a < p.wk.length by rw [h1.l5, hk]; exact ha), hw0]
  have d2 : w1.cell? ⟨sb, so + a, none⟩ = some (.string (p.st.getD a ⟨#[]⟩)) := by
    have hst := h1.st
    rw [hk] at hst
    obtain ⟨b', off', e, _, hc⟩ := txt_pos hst (show a < p.st.length by rw [h1.l1, hk]; exact ha)
    injection e with e
    injection e with e1 e2 e3
    subst e1 e2
    exact hc
  obtain ⟨u, hu⟩ : ∃ u, us[a]? = some u := ⟨_, List.getElem?_eq_getElem (by rw [h1.l3, hk]; exact ha)⟩
  have d3 : w1.cell? ⟨ib, a, none⟩ = some u := by rw [h1.rows.cell a]; simpa using hu
  have hux : ValsV w1 u (txtC (p.bx.getD a [])) := h1.bx a u _ hu (by simp [List.getD, show a < p.bx.length by rw [h1.l2, hk]; exact ha])
  obtain ⟨s, hss⟩ : ∃ s, p.st.getD a ⟨#[]⟩ = s := ⟨_, rfl⟩
  obtain ⟨X, hXX⟩ : ∃ X, p.bx.getD a [] = X := ⟨_, rfl⟩
  rw [hss] at d2
  rw [hXX] at hux hl
  obtain ⟨Au, cu, rfl⟩ := txt_form hux
  have CL : Hid (∀ W, Below w1.heap.size w1 W → Calls Tryd.prog 29 #[.slice Au X.length cu] W fun e w' => ∃ A' c', e = .returned (.slice A' X.length c') ∧ ValsV w' (.slice A' X.length c') (txtC X) ∧ Below w1.heap.size w1 w') := Lib.hid (fun W hb => (clone_txt X _ W (hux.below hb (Nat.le_refl _)) (by omega)).mono fun e w' ⟨v, h1, h2, h3⟩ => by
    obtain ⟨A', c', rfl⟩ := own_form h2
    exact ⟨A', c', h1, own_vals h2, hb.trans (h3.mono hb.size)⟩)
  have JW : Hid (∀ v W, Below w1.heap.size w1 W → Calls Tryd.prog 77 #[.agg #[.int .i64 (bad : Int)], .int .i64 (a : Int), .int .i64 p.rd, .string s, v] W fun e w' => ∃ fb, e = .returned (.tuple #[.string ⟨#[]⟩, .slice none 0 0, .iface 69 (.pointer (some ⟨fb, 0, none⟩))]) ∧ FaultN w1.heap.size 7 a w' fb ∧ Below w1.heap.size w1 w') := Lib.hid (fun v W h => (brk_no bad a p.rd s v W HAA.out.symm).mono fun e w' ⟨fb, h1, h2, h3⟩ => ⟨fb, h1, ⟨Nat.le_trans h.size h2.1, h2.2⟩, h.trans (h3.mono h.size)⟩)
  obtain ⟨xl, hxl⟩ : ∃ n, X.length = n := ⟨_, rfl⟩
  rw [hxl] at CL d3
  have t1 : decide (a < k) = true := decide_eq_true ha
  have i1 : (a : Int) < k := by omega
  have e0 : m < w1.heap.size := World.block_lt_of_cell? _ _ c0
  have e2 : sb < w1.heap.size := World.block_lt_of_cell? _ _ d2
  have e3 : ib < w1.heap.size := World.block_lt_of_cell? _ _ d3
  have KS := Lib.hid (fun W (h : Below w1.heap.size w1 W) => (show Below w1.heap.size w1 W ∧ W.cell? ⟨m, 0, none⟩ = some (brkJob bad) ∧ W.cell? ⟨m, 1, none⟩ = some (.int .i64 p.rd) ∧ W.cell? ⟨m, 2, none⟩ = some (.slice (some ⟨sb, so, none⟩) k sc) ∧ W.cell? ⟨m, 3, none⟩ = some (.slice (some ⟨ib, 0, none⟩) k k) ∧ W.cell? ⟨sb, so + a, none⟩ = some (.string s) ∧ W.cell? ⟨ib, a, none⟩ = some (.slice Au xl cu) from ⟨h, (h.cell (p := ⟨m, 0, none⟩) e0).trans c0, (h.cell (p := ⟨m, 1, none⟩) e0).trans c1, (h.cell (p := ⟨m, 2, none⟩) e0).trans c2, (h.cell (p := ⟨m, 3, none⟩) e0).trans c3, (h.cell (p := ⟨sb, so + a, none⟩) e2).trans d2, (h.cell (p := ⟨ib, a, none⟩) e3).trans d3⟩))
  have HU := Lib.hid hu
  have HXL := Lib.hid hxl; have HK := Lib.hid hk
  have HAK := Lib.hid ha
  clear h1 hb hux hu hl hss hXX hxl hk c4 c6 hbs1 hw0 haa
  unfold brkJob at KS c0
  go_wp2_with fail
  go_region_held3 (fun W => Below w1.heap.size w1 W ∧ W.cell? ⟨m, 0, none⟩ = some (.iface 50 (.agg #[.int .i64 (bad : Int)])) ∧ W.cell? ⟨m, 1, none⟩ = some (.int .i64 p.rd) ∧ W.cell? ⟨m, 2, none⟩ = some (.slice (some ⟨sb, so, none⟩) k sc) ∧ W.cell? ⟨m, 3, none⟩ = some (.slice (some ⟨ib, 0, none⟩) k k) ∧ W.cell? ⟨sb, so + a, none⟩ = some (.string s) ∧ W.cell? ⟨ib, a, none⟩ = some (.slice Au xl cu))
    (exact KS.out _ (by first | assumption | exact Below.refl _ _ | exact below_drewN' (Below.refl _ _) _ | exact below_drewN' (by assumption) _))
    (first
      | (go_at_call 77; refine (JW.out _ _ hBC).mono ?_; rintro e' wJ ⟨fb, rfl, hfj, hBJ⟩)
      | (go_at_call 29; refine (CL.out _ (by first | assumption | exact Below.refl _ _ | exact below_drewN' (Below.refl _ _) _)).mono ?_; rintro e' wC ⟨Ac, cc, rfl, hvc, hBC⟩; clear hvc))
  all_goals
    have HFJ := Lib.hid hfj; have HBJ := Lib.hid hBJ
    have SI := Lib.hid (stepn_in (base := w.heap.size) ⟨#[119, 111, 114, 107]⟩ ⟨Nat.le_trans HB1.out.size hfj.1, hfj.2⟩ (Nat.le_trans HB1.out.size hBJ.size))
    clear hfj hBJ hBC c0 c1 c2 c3 c5 d5 d2 d3 e0 e2 e3
    go_wp2_with fail
    refine SI.out.mono ?_; rintro e w9 ⟨b9, rfl, hs9, hb9⟩
    have HS9 := Lib.hid hs9; have HB9 := Lib.hid (HB1.out.trans ((HBJ.out.trans (hb9.mono HBJ.out.size)).mono HB1.out.size))
    clear hs9 hb9
    go_wp2_with fail
    go_ret
    exact ⟨⟨_, rfl, HS9.out⟩, HB9.out⟩
end Go.Proofs.YtlopoddllfkkfaaDoor
