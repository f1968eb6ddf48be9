/- A worker works. -/
import Derived.Test.YtlopoddllfkkfaaDoorBsp6
import Derived.Deep.RegionHeld3
namespace Go.Proofs.YtlopoddllfkkfaaDoor
open Go.RowKit

/-- Letters sent by one. -/
def sendsP (n : NetP) (a : Int) (x : ByteArray) (M : List Int) : NetP := M.foldl (fun n t => sendP n a t x) n
theorem sendsP_snoc (n : NetP) (a : Int) (x : ByteArray) (M : List Int) (t : Int) : sendsP n a x (M ++ [t]) = sendP (sendsP n a x M) a t x := by
  unfold sendsP
  rw [List.foldl_append]
  rfl
theorem sendsP_k (a : Int) (x : ByteArray) : ∀ (M : List Int) (n : NetP), (sendsP n a x M).k = n.k
  | [], _ => rfl
  | t :: r, n => by
    show (sendsP (sendP n a t x) a x r).k = n.k
    rw [sendsP_k a x r]
    rfl
theorem send_b {w : World} {base N M : Nat} {n : NetP} {b : Nat} {R : Nat → Prop} (h : NetB w base N n b R) (g : Good n M) (hM : M ≤ 1000) (hN : N ≤ 1000) (hbase : base ≤ w.heap.size) (a c : Int) (x : ByteArray) :
    Calls Tryd.prog 33 #[.pointer (some ⟨b, 0, none⟩), .int .i64 a, .int .i64 c, .string x] w (StepB base (N + 1) (stepP n 0 a c x).1 (stepP n 0 a c x).2 b R w) := by
  obtain ⟨mb, cb, v, F, G, h, rfl⟩ := h
  exact (send_step h g hM hN a c x).mono fun e w' hs => stepB_of h hbase hs
/-- Mails of one text, read. -/
def MailsV (w : World) (v : Value) (s : ByteArray) (M : List Int) : Prop :=
  (M = [] ∧ ∃ (ao : Option Addr) (cap : Nat), v = .slice ao 0 cap) ∨ (0 < M.length ∧ ∃ g cap : Nat, v = .slice (some ⟨g, 0, none⟩) M.length cap ∧ ∀ i, i < M.length → w.cell? ⟨g, i * 2, none⟩ = some (.int .i64 (M.getD i 0)) ∧ w.cell? ⟨g, i * 2 + 1, none⟩ = some (.string s))
theorem own_mails {w : World} {base n e : Nat} {v : Value} {s : ByteArray} {M : List Int} (h : w.ownsRow base e 2 v n (mailC s M)) : MailsV w v s M ∧ ∀ g, v.ownBlock = some g → base ≤ g ∧ g < w.heap.size := by
  have hn : M.length = n := by have := h.1; rw [mailC_len] at this; omega
  subst hn
  have h0 := h
  rcases h.2 with ⟨rfl, h1⟩ | ⟨g, cap, cur, rfl, hg, hh, hcap, _⟩
  · exact ⟨Or.inl ⟨List.eq_nil_of_length_eq_zero h1, _, _, rfl⟩, fun g hg => by cases hg⟩
  · refine ⟨?_, fun g' hg' => ?_⟩
    · rcases Nat.eq_zero_or_pos M.length with h3 | h3
      · exact Or.inl ⟨List.eq_nil_of_length_eq_zero h3, _, _, by rw [h3]⟩
      · refine Or.inr ⟨h3, g, cap, rfl, fun i hi => ?_⟩
        rw [h0.cellAt _ (by omega), h0.cellAt _ (by omega)]
        exact mailC_at s M i hi
    · obtain rfl : g = g' := Option.some.inj hg'
      refine ⟨hg, ?_⟩
      rcases Nat.lt_or_ge g w.heap.size with h4 | h4
      · exact h4
      · rw [Array.getElem?_eq_none h4] at hh; cases hh
theorem MailsV.stay {w w' : World} {v : Value} {s : ByteArray} {M : List Int} (h : MailsV w v s M) (hb : ∀ g, v.ownBlock = some g → w'.heap[g]? = w.heap[g]?) : MailsV w' v s M := by
  rcases h with h | ⟨h0, g, cap, rfl, hc⟩
  · exact Or.inl h
  · refine Or.inr ⟨h0, g, cap, rfl, fun i hi => ?_⟩
    have hg := hb g rfl
    rw [World.cell?_of_block (a := ⟨g, i * 2, none⟩) hg, World.cell?_of_block (a := ⟨g, i * 2 + 1, none⟩) hg]
    exact hc i hi
theorem MailsV.pos {w : World} {A : Option Addr} {n c i : Nat} {s : ByteArray} {M : List Int} (h : MailsV w (.slice A n c) s M) (hi : i < M.length) : ∃ g, A = some ⟨g, 0, none⟩ ∧ w.cell? ⟨g, i * 2, none⟩ = some (.int .i64 (M.getD i 0)) ∧ w.cell? ⟨g, i * 2 + 1, none⟩ = some (.string s) := by
  rcases h with ⟨h0, _⟩ | ⟨_, g, cap, e, hc⟩
  · rw [h0] at hi; simp at hi
  · injection e with e1 _ _
    exact ⟨g, e1, hc i hi⟩
section
variable {w : World} {base N : Nat} {p : MP} {job : Value} {m nb wb ib b : Nat} {sv : Value} {us : List Value} {Rn : Nat → Prop}
theorem MachIn.setNext (h : MachIn w base N p job m nb wb ib b sv us Rn) (a : Nat) (x : ByteArray) : MachIn (w.setCell ⟨nb, a, none⟩ (.string x)) base N { p with nx := p.nx.set a x } job m nb wb ib b sv us Rn := by
  have hb : ∀ g, g < w.heap.size → g ≠ nb → (w.setCell ⟨nb, a, none⟩ (.string x)).heap[g]? = w.heap[g]? := fun g h1 h2 => heap_setCell_ne w nb a _ h1 h2
  exact { h with
    ss := fun g hg => by rw [size_put]; exact h.ss g hg
    whole := h.whole.stay (hb m h.whole.lt h.n1)
    next := by rw [← txt_set]; exact h.next.put a _
    work := h.work.stay (hb wb h.work.lt (fun e => h.n4 e.symm))
    rows := h.rows.stay (hb ib h.rows.lt (fun e => h.n5 e.symm))
    net := h.net.stay (R' := fun g => g = nb) (Fr.of_grown (grown_cell w nb a _) (Nat.le_refl _) (fun g hg _ => (Option.some.inj hg).symm)) (fun g hg e => (h.rn g hg).2.1 e)
    st := h.st.stay (fun g hg => hb g (h.ss g (Or.inl hg)).2.1 (h.ss g (Or.inl hg)).2.2.2.1)
    bx := fun i u X hu hX => (h.bx i u X hu hX).stay (fun g hg => hb g (h.ss g (Or.inr ⟨i, u, hu, hg⟩)).2.1 (h.ss g (Or.inr ⟨i, u, hu, hg⟩)).2.2.2.1)
    l4 := by rw [List.length_set]; exact h.l4 }
theorem MachIn.setWork (h : MachIn w base N p job m nb wb ib b sv us Rn) (a : Nat) (x : Bool) : MachIn (w.setCell ⟨wb, a, none⟩ (.bool x)) base N { p with wk := p.wk.set a x } job m nb wb ib b sv us Rn := by
  have hb : ∀ g, g < w.heap.size → g ≠ wb → (w.setCell ⟨wb, a, none⟩ (.bool x)).heap[g]? = w.heap[g]? := fun g h1 h2 => heap_setCell_ne w wb a _ h1 h2
  exact { h with
    ss := fun g hg => by rw [size_put]; exact h.ss g hg
    whole := h.whole.stay (hb m h.whole.lt h.n2)
    next := h.next.stay (hb nb h.next.lt h.n4)
    work := by rw [← bool_set]; exact h.work.put a _
    rows := h.rows.stay (hb ib h.rows.lt (fun e => h.n6 e.symm))
    net := h.net.stay (R' := fun g => g = wb) (Fr.of_grown (grown_cell w wb a _) (Nat.le_refl _) (fun g hg _ => (Option.some.inj hg).symm)) (fun g hg e => (h.rn g hg).2.2.1 e)
    st := h.st.stay (fun g hg => hb g (h.ss g (Or.inl hg)).2.1 (h.ss g (Or.inl hg)).2.2.2.2.1)
    bx := fun i u X hu hX => (h.bx i u X hu hX).stay (fun g hg => hb g (h.ss g (Or.inr ⟨i, u, hu, hg⟩)).2.1 (h.ss g (Or.inr ⟨i, u, hu, hg⟩)).2.2.2.2.1)
    l5 := by rw [List.length_set]; exact h.l5 }
end
/-- What letters sent leave of a machine. -/
def SentTo (base N : Nat) (p : MP) (job : Value) (m nb wb ib b : Nat) (sv : Value) (us : List Value) (Rn : Nat → Prop) (n : NetP) (w3 wr : World) : Prop :=
  ∃ Rn', MachIn wr base N { p with nt := n } job m nb wb ib b sv us Rn' ∧ Fr w3.heap.size Rn w3 wr ∧ ∀ g, Rn' g → Rn g ∨ w3.heap.size ≤ g
def SentB (base N : Nat) (n : NetP) (b : Nat) (R : Nat → Prop) (w w' : World) : Prop := ∃ R', NetB w' base N n b R' ∧ Fr w.heap.size R w w' ∧ ∀ g, R' g → R g ∨ w.heap.size ≤ g
theorem Fr.more {n k : Nat} {R R' : Nat → Prop} {w w1 w2 : World} (h : Fr n R w w1) (h2 : Fr k R' w1 w2) (hk : n ≤ k) (hR : ∀ g, R' g → R g ∨ n ≤ g) : Fr n R w w2 :=
  ⟨h2.os.trans h.os, h2.tape.trans h.tape, h2.output.trans h.output, Nat.le_trans h.size h2.size, fun g hg hr => by
    rw [h2.block g (by omega) (fun h' => by rcases hR g h' with e | e; exact hr e; omega), h.block g hg hr]⟩
theorem stepP_send {n : NetP} {a c : Int} {x : ByteArray} (ha : hasB n.k a = true) (hc : hasB n.k c = true) : stepP n 0 a c x = (sendP n a c x, 0) := by
  unfold stepP
  simp [ha, hc]
theorem Good.sends {n : NetP} {M : Nat} (h : Good n M) (a : Int) (x : ByteArray) (ha : hasB n.k a = true) : ∀ L : List Int, M + L.length ≤ 1000 → (∀ t ∈ L, hasB n.k t = true) → Good (sendsP n a x L) (M + L.length) := by
  intro L
  induction L generalizing n M with
  | nil => intro _ _; exact h
  | cons t r ih =>
    intro hl ht
    rw [List.length_cons] at hl ⊢
    have h1 := h.send (by omega) x ha (ht t (List.mem_cons_self ..))
    have h2 := ih h1 ha (by omega) (fun q hq => ht q (List.mem_cons_of_mem _ hq))
    rw [show M + (r.length + 1) = M + 1 + r.length by omega]
    exact h2
def workP (p : MP) (a : Nat) (M : List Int) : MP :=
  { p with nx := p.nx.set a (nextB a (p.st.getD a ⟨#[]⟩) (p.bx.getD a [])), wk := p.wk.set a true, nt := sendsP p.nt (a : Int) (p.st.getD a ⟨#[]⟩) M }
def wordJob (vt : Value) : Value := .iface 35 (.agg #[vt])
set_option maxRecDepth 100000 in
set_option maxHeartbeats 4000000 in
theorem mwork_good {w : World} {base N Mx : Nat} {p : MP} {vt : Value} {m : Nat} {R : Nat → Prop} (TL : List (List Int)) (h : MachB w base N p (wordJob vt) m R) (hT : ∀ W, Below base w W → ListsV W vt TL) (g : Good p.nt Mx) (a : Nat) (ha : a < p.k) (hw0 : p.wk.getD a false = false)
    (hM : Mx + (TL.getD a []).length ≤ 1000) (hN : N + (TL.getD a []).length ≤ 1000) (hbase : base ≤ w.heap.size) (hTo : ∀ t ∈ TL.getD a [], 0 ≤ t ∧ t < p.k) (hs : (p.st.getD a ⟨#[]⟩).size ≤ 1000) (hX : ∀ x ∈ p.bx.getD a [], x.size ≤ 60) (hl : (p.bx.getD a []).length ≤ 10000) :
    Calls Tryd.prog 12 #[.pointer (some ⟨m, 0, none⟩), .int .i64 (a : Int)] w fun e w' => e = .returned .nilIface ∧ OpTo base (N + (TL.getD a []).length) (workP p a (TL.getD a [])) (wordJob vt) m R w w' := by
  obtain ⟨nb, wb, ib, b, sv, us, Rn, h, rfl⟩ := h
  have C := Lib.hid (mcheck_any h (a : Int))
  rw [show inW p.k (a : Int) = 0 from if_pos (by omega)] at C
  have HH := Lib.hid h; have HT := Lib.hid hT
  obtain ⟨M, hMM⟩ : ∃ M, TL.getD a [] = M := ⟨_, rfl⟩
  rw [hMM] at hM hN hTo ⊢
  have HMM := Lib.hid hMM
  clear h hT hMM
  go_enter Tryd.func12, Tryd.ntmps12
  go_wp2_with fail
  refine C.out.mono ?_; rintro e w1 ⟨hb, ⟨_, rfl⟩ | ⟨h0, _⟩⟩
  case inr => exact absurd rfl h0
  have h1 := HH.out.below hb (Nat.le_refl _)
  have H1 := Lib.hid h1; have HB1 := Lib.hid hb
  have hbs1 := hb.size
  obtain ⟨sb, so, sc, rfl, c0, c1, c2, c3, c4, c5, c6⟩ := h1.cells
  obtain ⟨k, hk⟩ : ∃ k, p.k = k := ⟨_, rfl⟩
  rw [hk] at ha c2 c3 c4 c5 hTo
  have d5 : w1.cell? ⟨wb, a, none⟩ = some (.bool false) := by rw [h1.work.cell a, List.getElem?_toArray, boolC_at (show a < p.wk.length by rw [h1.l5, hk]; exact ha), hw0]
  have d2 : w1.cell? ⟨sb, so + a, none⟩ = some (.string (p.st.getD a ⟨#[]⟩)) := by
    have hst := h1.st
    rw [hk] at hst
    obtain ⟨b', off', e, _, hc⟩ := txt_pos hst (show a < p.st.length by rw [h1.l1, hk]; exact ha)
    injection e with e
    injection e with e1 e2 e3
    subst e1 e2
    exact hc
  obtain ⟨u, hu⟩ : ∃ u, us[a]? = some u := ⟨_, List.getElem?_eq_getElem (by rw [h1.l3, hk]; exact ha)⟩
  have d3 : w1.cell? ⟨ib, a, none⟩ = some u := by rw [h1.rows.cell a]; simpa using hu
  have hux : ValsV w1 u (txtC (p.bx.getD a [])) := h1.bx a u _ hu (by simp [List.getD, show a < p.bx.length by rw [h1.l2, hk]; exact ha])
  obtain ⟨s, hss⟩ : ∃ s, p.st.getD a ⟨#[]⟩ = s := ⟨_, rfl⟩
  obtain ⟨X, hXX⟩ : ∃ X, p.bx.getD a [] = X := ⟨_, rfl⟩
  rw [hss] at d2 hs
  rw [hXX] at hux hX hl
  obtain ⟨Au, cu, rfl⟩ := txt_form hux
  have CL : Hid (∀ W, Below w1.heap.size w1 W → Calls Tryd.prog 29 #[.slice Au X.length cu] W fun e w' => ∃ A' c', e = .returned (.slice A' X.length c') ∧ ValsV w' (.slice A' X.length c') (txtC X) ∧ Below w1.heap.size w1 w') := Lib.hid (fun W hb => (clone_txt X _ W (hux.below hb (Nat.le_refl _)) (by omega)).mono fun e w' ⟨v, h1, h2, h3⟩ => by
    obtain ⟨A', c', rfl⟩ := own_form h2
    exact ⟨A', c', h1, own_vals h2, hb.trans (h3.mono hb.size)⟩)
  have JW : Hid (∀ v W, Below w1.heap.size w1 W → ValsV W v (txtC X) → Calls Tryd.prog 76 #[.agg #[vt], .int .i64 (a : Int), .int .i64 p.rd, .string s, v] W fun e w' => ∃ A' c', e = .returned (.tuple #[.string (nextB a s X), .slice A' M.length c', .nilIface]) ∧ w'.ownsRow w1.heap.size 77 2 (.slice A' M.length c') M.length (mailC s M) ∧ Below w1.heap.size w1 w') := Lib.hid (fun v W h hv => (jobWork_any TL vt a p.rd s hs X hX hl v W hv (HT.out W ((HB1.out.mono hbase).trans (h.mono (by omega)))) (by rw [HMM.out]; omega)).mono fun e w' ⟨vm, h1, h2, h3⟩ => by
    rw [HMM.out] at h2
    obtain ⟨A', c', rfl⟩ := own_form h2
    exact ⟨A', c', h1, own_base h2 h.size, h.trans (h3.mono h.size)⟩)
  obtain ⟨xl, hxl⟩ : ∃ n, X.length = n := ⟨_, rfl⟩
  obtain ⟨ml, hml⟩ : ∃ n, M.length = n := ⟨_, rfl⟩
  rw [hxl] at CL d3
  rw [hml] at JW
  have hml6 : ml ≤ 1000 := by omega
  have HNM : Hid (Mx + ml ≤ 1000 ∧ N + ml ≤ 1000) := Lib.hid ⟨by omega, by omega⟩
  have t1 : decide (a < k) = true := decide_eq_true ha
  have i1 : (a : Int) < k := by omega
  have e0 : m < w1.heap.size := World.block_lt_of_cell? _ _ c0
  have e2 : sb < w1.heap.size := World.block_lt_of_cell? _ _ d2
  have e3 : ib < w1.heap.size := World.block_lt_of_cell? _ _ d3
  have KS := Lib.hid (fun W (h : Below w1.heap.size w1 W) => (show Below w1.heap.size w1 W ∧ W.cell? ⟨m, 0, none⟩ = some (wordJob vt) ∧ W.cell? ⟨m, 1, none⟩ = some (.int .i64 p.rd) ∧ W.cell? ⟨m, 2, none⟩ = some (.slice (some ⟨sb, so, none⟩) k sc) ∧ W.cell? ⟨m, 3, none⟩ = some (.slice (some ⟨ib, 0, none⟩) k k) ∧ W.cell? ⟨sb, so + a, none⟩ = some (.string s) ∧ W.cell? ⟨ib, a, none⟩ = some (.slice Au xl cu) from ⟨h, (h.cell (p := ⟨m, 0, none⟩) e0).trans c0, (h.cell (p := ⟨m, 1, none⟩) e0).trans c1, (h.cell (p := ⟨m, 2, none⟩) e0).trans c2, (h.cell (p := ⟨m, 3, none⟩) e0).trans c3, (h.cell (p := ⟨sb, so + a, none⟩) e2).trans d2, (h.cell (p := ⟨ib, a, none⟩) e3).trans d3⟩))
  have HU := Lib.hid hu
  have HSS := Lib.hid hss; have HXX := Lib.hid hXX; have HXL := Lib.hid hxl; have HML := Lib.hid hml; have HK := Lib.hid hk
  have HTo := Lib.hid hTo; have HG := Lib.hid g; have HAK := Lib.hid ha; have HBASE := Lib.hid hbase
  clear h1 hb hux hu hs hX hl hss hXX hxl hml hM hN hTo g hk c4 c6 hbs1 hbase hw0
  unfold wordJob at KS c0
  go_wp2_with fail
  go_region_held3 (fun W => Below w1.heap.size w1 W ∧ W.cell? ⟨m, 0, none⟩ = some (.iface 35 (.agg #[vt])) ∧ W.cell? ⟨m, 1, none⟩ = some (.int .i64 p.rd) ∧ W.cell? ⟨m, 2, none⟩ = some (.slice (some ⟨sb, so, none⟩) k sc) ∧ W.cell? ⟨m, 3, none⟩ = some (.slice (some ⟨ib, 0, none⟩) k k) ∧ W.cell? ⟨sb, so + a, none⟩ = some (.string s) ∧ W.cell? ⟨ib, a, none⟩ = some (.slice Au xl cu))
    (exact KS.out _ (by first | assumption | exact Below.refl _ _ | exact below_drewN' (Below.refl _ _) _ | exact below_drewN' (by assumption) _))
    (first
      | (go_at_call 76; refine (JW.out _ _ hBC HVC.out).mono ?_; rintro e' wJ ⟨Am, cm, rfl, hvm, hBJ⟩)
      | (go_at_call 29; refine (CL.out _ (by first | assumption | exact Below.refl _ _ | exact below_drewN' (Below.refl _ _) _)).mono ?_; rintro e' wC ⟨Ac, cc, rfl, hvc, hBC⟩; have HVC := Lib.hid hvc; clear hvc))
  all_goals
    have hJ := HH.out.below (HB1.out.trans (hBJ.mono (by have := HB1.out.size; omega))) (Nat.le_refl _)
    obtain ⟨hmv, hmo⟩ := own_mails hvm
    have HM := Lib.hid (fun W (h : Below wJ.heap.size wJ W) => hmv.stay (fun g hg => h.block g (hmo g hg).2))
    have HMO := Lib.hid hmo
    have HJ := Lib.hid hJ; have HBJ := Lib.hid hBJ
    have HWJ := Lib.hid (fun W (h : Below wJ.heap.size wJ W) => hJ.below h (Nat.le_refl _))
    clear hvm hmv hmo hJ hBJ hBC c0 c1 c2 c3 c5 d5 d2 d3 e0 e2 e3
    go_wp2_with fail
    go_loopg [66] ml (fun g y wr => ∃ i, i ≤ ml ∧ g = ml - i ∧ y = .int .i64 (i : Nat) ∧ Below wJ.heap.size wJ wr)
    case atStart => exact ⟨0, Nat.zero_le _, rfl, rfl, Below.refl _ _⟩
    case round =>
      obtain ⟨i, hi, rfl, rfl, hB⟩ := hrel
      have HB := Lib.hid hB
      by_cases hlt : i < ml
      · obtain ⟨g2, rfl, q0, q1⟩ := (HM.out wr hB).pos (show i < M.length by rw [HML.out]; exact hlt)
        obtain ⟨t, ht⟩ : ∃ t, M.getD i 0 = t := ⟨_, rfl⟩
        rw [ht] at q0
        have htk : 0 ≤ t ∧ t < (k : Int) := HTo.out t (by rw [← ht]; simp only [List.getD, List.getElem?_eq_getElem (show i < M.length by rw [HML.out]; exact hlt), Option.getD_some]; exact List.getElem_mem _)
        have hbq : Below wJ.heap.size wJ (wr.alloc (.cells #[.int .i64 t, .string s] 77)) := hB.alloc hB.size _
        have C2 := Lib.hid (mcheck_any (HWJ.out _ hbq) t)
        rw [show inW p.k t = 0 from if_pos (by rw [HK.out]; exact htk)] at C2
        have HBQ := Lib.hid hbq
        have t7 : decide (i < ml) = true := decide_eq_true hlt
        have t7' : decide ((i : Int) < ml) = true := decide_eq_true (by omega)
        have i3 : (i : Int) < ml := by omega
        have HLT := Lib.hid hlt
        clear ht htk hbq hB
        go_wp2_with fail
        refine C2.out.mono ?_; rintro e wq ⟨hb, ⟨_, rfl⟩ | ⟨h0, _⟩⟩
        case inr => exact absurd rfl h0
        have HQ := Lib.hid (HBQ.out.trans (hb.mono HBQ.out.size))
        clear hb
        go_wp2_with fail
        go_roundg (ml - (i + 1))
        case rel => exact ⟨i + 1, HLT.out, rfl, rfl, HQ.out⟩
        case measure => have := HLT.out; omega
      · have t7 : decide (i < ml) = false := decide_eq_false hlt
        have t7' : decide ((i : Int) < ml) = false := decide_eq_false (by omega)
        obtain rfl : ml = i := by omega
        obtain ⟨w5, hw5⟩ : ∃ W, W = wr := ⟨_, rfl⟩
        subst hw5
        have h5 := HWJ.out w5 hB
        have HM5 := Lib.hid (HM.out w5 hB)
        have H5 := Lib.hid h5
        have hrk : p.nt.k = k := by rw [h5.nk, HK.out]
        have hHa : hasB k (a : Int) = true := by unfold hasB; have := HAK.out; simp; omega
        have HHA := Lib.hid hHa; have HRK := Lib.hid hrk
        have HMS : Hid (∀ W, Fr w5.heap.size Rn w5 W → MailsV W (.slice Am ml cm) s M) := Lib.hid (fun W hf => HM5.out.stay (fun g hg => hf.block g (by have := (HMO.out g hg).2; have := hB.size; omega) (fun hr => by have := (H1.out.net.foot hr).2; have := (HMO.out g hg).1; omega)))
        have HWJ5 := Lib.hid hB
        clear hlt hi hB h5 hrk hHa
        go_wp2_with fail
        go_loopg [80] ml (fun g y wr => ∃ i, i ≤ ml ∧ g = ml - i ∧ y = .int .i64 (i : Nat) ∧ SentTo base (N + i) p (wordJob vt) m nb wb ib b (.slice (some ⟨sb, so, none⟩) p.k sc) us Rn (sendsP p.nt (a : Int) s (M.take i)) w5 wr)
        case atStart => exact ⟨0, Nat.zero_le _, rfl, rfl, ⟨Rn, H5.out, Fr.refl _ _ _, fun g hg => Or.inl hg⟩⟩
        case round =>
          obtain ⟨i, hi, rfl, rfl, Rn', hMI, hFr, hsub⟩ := hrel
          have HMI := Lib.hid hMI; have HFR := Lib.hid hFr; have HSUB := Lib.hid hsub
          have hsz := hFr.size
          by_cases hlt : i < ml
          · obtain ⟨g2, rfl, q0, q1⟩ := (HMS.out wr hFr).pos (show i < M.length by rw [HML.out]; exact hlt)
            obtain ⟨t, ht⟩ : ∃ t, M.getD i 0 = t := ⟨_, rfl⟩
            rw [ht] at q0
            have htm : t ∈ M := by rw [← ht]; simp only [List.getD, List.getElem?_eq_getElem (show i < M.length by rw [HML.out]; exact hlt), Option.getD_some]; exact List.getElem_mem _
            have htk := HTo.out t htm
            have hsn : sendsP p.nt (a : Int) s (M.take (i + 1)) = sendP (sendsP p.nt (a : Int) s (M.take i)) (a : Int) t s := by rw [take_snocT (d := 0) (by rw [HML.out]; exact hlt), sendsP_snoc, ht]
            obtain ⟨n1, hn1⟩ : ∃ n, sendsP p.nt (a : Int) s (M.take i) = n := ⟨_, rfl⟩
            have hn1k : n1.k = k := by rw [← hn1, sendsP_k]; exact HRK.out
            have hgd : Good n1 (Mx + i) := by
              rw [← hn1]
              have h9 := HG.out.sends (a : Int) s (by rw [HRK.out]; exact HHA.out) (M.take i) (by have := HNM.out.1; rw [List.length_take]; omega) (fun q hq => by have := HTo.out q (List.mem_of_mem_take hq); rw [HRK.out]; unfold hasB; simp; omega)
              exact h9.mono (by rw [List.length_take]; omega)
            rw [hn1] at hMI hsn
            have HSN := Lib.hid hsn
            have hHt : hasB n1.k t = true := by rw [hn1k]; unfold hasB; simp; omega
            obtain ⟨wq, hwq⟩ : ∃ W, wr.alloc (.cells #[.int .i64 t, .string s] 77) = W := ⟨_, rfl⟩
            obtain ⟨eb, heb⟩ : ∃ g, wr.heap.size = g := ⟨_, rfl⟩
            have hbq : Below wr.heap.size wr (wr.alloc (.cells #[.int .i64 t, .string s] 77)) := (Below.refl _ _).alloc (Nat.le_refl _) _
            have hwn := Whole.new wr 77 #[.int .i64 t, .string s]
            rw [hwq] at hbq hwn
            have hq := hMI.below hbq (Nat.le_refl _)
            have hwb : ¬ Rn' eb := fun hr => by have := (hMI.net.foot hr).2; omega
            rw [heb] at hwn
            have hwm : ¬ Rn' m := fun hr => (hMI.rn m hr).1 rfl
            have KS2 := Lib.hid (fun W (hf : Fr wq.heap.size Rn' wq W) => (show Fr wq.heap.size Rn' wq W ∧ W.cell? ⟨m, 6, none⟩ = some (.pointer (some ⟨b, 0, none⟩)) ∧ W.cell? ⟨eb, 0, none⟩ = some (.int .i64 t) ∧ W.cell? ⟨eb, 1, none⟩ = some (.string s) from ⟨hf, (hq.whole.stay (hf.block m hq.whole.lt hwm)).cell 6, (hwn.stay (hf.block eb hwn.lt hwb)).cell 0, (hwn.stay (hf.block eb hwn.lt hwb)).cell 1⟩))
            have hbs0 : base ≤ wq.heap.size := Nat.le_trans hq.bm (Nat.le_of_lt hq.whole.lt)
            have SB : Hid (∀ W, Below wq.heap.size wq W → Calls Tryd.prog 33 #[.pointer (some ⟨b, 0, none⟩), .int .i64 (a : Int), .int .i64 t, .string s] W fun e w' => e = .returned .nilIface ∧ SentB base (N + i + 1) (sendP n1 (a : Int) t s) b Rn' wq w' ∧ Fr wq.heap.size Rn' wq w') := Lib.hid (fun W hb => by
              have hN1 := HNM.out
              have k := send_b (hq.net.below hb) hgd (by omega) (by omega) (Nat.le_trans hbs0 hb.size) (a : Int) t s
              rw [stepP_send (by rw [hn1k]; exact HHA.out) hHt] at k
              refine k.mono ?_
              rintro e w' ⟨u, rfl, ⟨_, rfl⟩ | ⟨h0, _⟩, R2, hn2, hf2, hs2, _⟩
              case inr => exact absurd rfl h0
              have hf3 : Fr wq.heap.size Rn' wq w' := (Fr.of_below hb (Nat.le_refl _)).trans (hf2.less hb.size)
              exact ⟨rfl, ⟨R2, hn2, hf3, fun g hg => by rcases hs2 g hg with e | e; exact Or.inl e; exact Or.inr (Nat.le_trans hb.size e)⟩, hf3⟩)
            have HQ := Lib.hid hq; have HWQ := Lib.hid hwq; have HEB := Lib.hid heb; have HBQ := Lib.hid hbq; have HN1K := Lib.hid hn1k
            have t7 : decide (i < ml) = true := decide_eq_true hlt
            have t7' : decide ((i : Int) < ml) = true := decide_eq_true (by omega)
            have i3 : (i : Int) < ml := by omega
            have HLT := Lib.hid hlt
            clear ht htm htk hn1 hn1k hgd hMI hHt hbq hwn hq hwb hwm hbs0 hwq heb hFr hsub hsn hi
            go_upto_region 19 with fail
            rw [HWQ.out, HEB.out]
            go_wp2_with fail
            go_region_held3 (fun W => Fr wq.heap.size Rn' wq W ∧ W.cell? ⟨m, 6, none⟩ = some (.pointer (some ⟨b, 0, none⟩)) ∧ W.cell? ⟨eb, 0, none⟩ = some (.int .i64 t) ∧ W.cell? ⟨eb, 1, none⟩ = some (.string s))
              (exact KS2.out _ (by first | assumption | exact Fr.refl _ _ _ | exact Fr.of_below (below_drewN' (Below.refl _ _) _) (Nat.le_refl _)))
              (first
                | (go_at_call 33; refine (SB.out _ (by first | assumption | exact Below.refl _ _ | exact below_drewN' (Below.refl _ _) _)).mono ?_; rintro e' wU ⟨rfl, hSB, hFU⟩; have HSB := Lib.hid hSB; clear hSB))
            all_goals
              have HFU := Lib.hid hFU
              clear hFU
              go_wp2_with fail
              go_roundg (ml - (i + 1))
              case rel =>
                obtain ⟨R2, hn2, hf2, hs2⟩ := HSB.out
                refine ⟨i + 1, HLT.out, rfl, rfl, R2, ?_, ?_, fun g hg => ?_⟩
                · rw [HSN.out]
                  exact HQ.out.setNet hn2 hf2 hs2 (by rw [show (sendP n1 (a : Int) t s).k = n1.k from rfl, HN1K.out]; exact HK.out.symm)
                · have hsz := HFR.out.size
                  have hbq := HBQ.out
                  exact (HFR.out.trans (Fr.of_below hbq hsz)).more hf2 (by have := hbq.size; omega) (fun g hg => HSUB.out g hg)
                · rcases hs2 g hg with e | e
                  · exact HSUB.out g e
                  · have := HFR.out.size; have := HBQ.out.size; exact Or.inr (by omega)
              case measure => have := HLT.out; omega
          · have t7 : decide (i < ml) = false := decide_eq_false hlt
            have t7' : decide ((i : Int) < ml) = false := decide_eq_false (by omega)
            obtain rfl : ml = i := by omega
            have hfull : sendsP p.nt (a : Int) s (M.take ml) = sendsP p.nt (a : Int) s M := by rw [List.take_of_length_le (by rw [HML.out]; exact Nat.le_refl _)]
            rw [hfull] at hMI
            have HMI := Lib.hid hMI
            obtain ⟨w6, hw6⟩ : ∃ W, W = wr := ⟨_, rfl⟩
            subst hw6
            have c4 : w6.cell? ⟨m, 4, none⟩ = some (.slice (some ⟨nb, 0, none⟩) k k) := by rw [hMI.whole.cell 4, ← HK.out]; rfl
            have c5 : w6.cell? ⟨m, 5, none⟩ = some (.slice (some ⟨wb, 0, none⟩) k k) := by rw [hMI.whole.cell 5, ← HK.out]; rfl
            have d4 : ∃ v, w6.cell? ⟨nb, a, none⟩ = some v := by rw [hMI.next.cell a]; exact ⟨_, Array.getElem?_eq_getElem (by simp [txtC_len]; rw [hMI.l4, HK.out]; exact HAK.out)⟩
            have d5 : ∃ v, w6.cell? ⟨wb, a, none⟩ = some v := by rw [hMI.work.cell a]; exact ⟨_, Array.getElem?_eq_getElem (by simp [boolC_len]; rw [hMI.l5, HK.out]; exact HAK.out)⟩
            obtain ⟨v4, d4⟩ := d4
            obtain ⟨v5, d5⟩ := d5
            have f4 : w6.frozen? ⟨nb, a, none⟩ = false := hMI.next.free a
            have f5 : w6.frozen? ⟨wb, a, none⟩ = false := hMI.work.free a
            have n4 : ¬ nb = wb := hMI.n4
            have n4' : ¬ wb = nb := fun e => hMI.n4 e.symm
            have n0 : ¬ m = nb := hMI.n1
            have n0' : ¬ m = wb := hMI.n2
            have HFIN : Hid (OpTo base (N + M.length) (workP p a M) (wordJob vt) m (MFoot m nb wb ib (.slice (some ⟨sb, so, none⟩) p.k sc) us Rn) w (((w6.setCell ⟨nb, a, none⟩ (.string (nextB a s X))).setCell ⟨wb, a, none⟩ (.bool true)).drew)) := Lib.hid (by
              have e : workP p a M = { p with nx := p.nx.set a (nextB a s X), wk := p.wk.set a true, nt := sendsP p.nt (a : Int) s M } := by unfold workP; rw [HSS.out, HXX.out]
              have h1 := ((HMI.out.setNext a (nextB a s X)).setWork a true).below (below_drewN' (Below.refl _ _) 1) (Nat.le_refl _)
              have hw5 : Below w.heap.size w w5 := HB1.out.trans ((HBJ.out.trans (HWJ5.out.mono HBJ.out.size)).mono HB1.out.size)
              have hfr := HFR.out
              have hsz := hfr.size
              have hsz5 := hw5.size
              have hm4 := HH.out.next.lt
              have hm5 := HH.out.work.lt
              have g1 : Fr w.heap.size (MFoot m nb wb ib (.slice (some ⟨sb, so, none⟩) p.k sc) us Rn) w ((w6.setCell ⟨nb, a, none⟩ (.string (nextB a s X))).setCell ⟨wb, a, none⟩ (.bool true)).drew := by
                refine (Fr.of_below hw5 (Nat.le_refl _)).trans ?_
                refine ((hfr.less hsz5).mono (fun g _ hg => Or.inr (Or.inr (Or.inr (Or.inr (Or.inl hg)))))).trans ?_
                refine (Fr.of_grown (grown_cell w6 nb a (.string (nextB a s X))) (by omega) (fun g hg _ => Or.inr (Or.inl (Option.some.inj hg).symm))).trans ?_
                refine (Fr.of_grown (grown_cell (w6.setCell ⟨nb, a, none⟩ (.string (nextB a s X))) wb a (.bool true)) (by rw [size_put]; omega) (fun g hg _ => Or.inr (Or.inr (Or.inl (Option.some.inj hg).symm)))).trans ?_
                exact Fr.of_below (B := w.heap.size) (below_drewN' (Below.refl _ _) 1) (Nat.le_refl _)
              refine ⟨MFoot m nb wb ib (.slice (some ⟨sb, so, none⟩) p.k sc) us Rn', ⟨nb, wb, ib, b, .slice (some ⟨sb, so, none⟩) p.k sc, us, Rn', ?_, rfl⟩, g1, fun g hg => ?_, g1.below HBASE.out (fun g hg => (HH.out.foot hg).1)⟩
              · rw [e, HML.out]
                exact h1
              · rcases hg with hg | hg | hg | hg | hg | hg
                · exact Or.inl (Or.inl hg)
                · exact Or.inl (Or.inr (Or.inl hg))
                · exact Or.inl (Or.inr (Or.inr (Or.inl hg)))
                · exact Or.inl (Or.inr (Or.inr (Or.inr (Or.inl hg))))
                · rcases HSUB.out g hg with h2 | h2
                  · exact Or.inl (Or.inr (Or.inr (Or.inr (Or.inr (Or.inl h2)))))
                  · exact Or.inr (by omega)
                · exact Or.inl (Or.inr (Or.inr (Or.inr (Or.inr (Or.inr hg))))))
            clear hlt hi hMI hFr hsub hfull
            go_wp2_with fail
            go_region
            all_goals go_wp2_with fail
            all_goals go_ret
            all_goals exact ⟨rfl, HFIN.out⟩
end Go.Proofs.YtlopoddllfkkfaaDoor
