/- Machines that can't be; nobody; a machine whose job tells an error, finished. Written by gen_brkm.py. -/
import Derived.Test.YtlopoddllfkkfaaDoorBrk20
namespace Go.Proofs.YtlopoddllfkkfaaDoor
open Go.RowKit

theorem mnew_nil (A : Option Addr) (n c : Nat) (w : World) :
    Calls Tryd.prog 10 #[.nilIface, .slice A n c] w fun e w' => ∃ b, e = .returned (.tuple #[.pointer none, .iface 69 (.pointer (some ⟨b, 0, none⟩))]) ∧ FaultAt 10 0 w' (.iface 69 (.pointer (some ⟨b, 0, none⟩))) ∧ Below w.heap.size w w' := by
  have HF := Lib.hid (newF 10 0 ⟨#[106, 111, 98]⟩ w)
  go_enter Tryd.func10, Tryd.ntmps10
  go_wp2_with fail
  refine HF.out.mono ?_; rintro e w2 ⟨fb, rfl, hf, hb⟩
  have HFF := Lib.hid hf; have HBB := Lib.hid hb
  clear hf hb
  go_wp2_with fail
  go_ret2
  exact ⟨_, rfl, HFF.out, HBB.out⟩
theorem mnew_bad (T : TypeId) (jv : Value) (A : Option Addr) (n c : Nat) (w : World) (hn : n < 1 ∨ 64 < n) :
    Calls Tryd.prog 10 #[.iface T jv, .slice A n c] w fun e w' => ∃ b, e = .returned (.tuple #[.pointer none, .iface 88 (.pointer (some ⟨b, 0, none⟩))]) ∧ StepIs ⟨#[109, 97, 99, 104, 105, 110, 101]⟩ 1 0 w' (.iface 88 (.pointer (some ⟨b, 0, none⟩))) ∧ Below w.heap.size w w' := by
  have NN : Hid (Calls Tryd.prog 27 #[.int .i64 n] w fun e w' => ∃ b, e = .returned (.tuple #[.pointer none, .iface 69 (.pointer (some ⟨b, 0, none⟩))]) ∧ FaultAt 1 0 w' (.iface 69 (.pointer (some ⟨b, 0, none⟩))) ∧ Below w.heap.size w w') := Lib.hid (by
    refine (netNew_any n w).mono ?_
    rintro e w' ⟨hb, ⟨j, p, hj, h1, h2, _, _⟩ | ⟨_, u, rfl, hf⟩⟩
    · omega
    · obtain ⟨fb, s, rfl, hw⟩ := hf
      exact ⟨fb, rfl, ⟨fb, s, rfl, hw⟩, hb⟩)
  clear hn
  go_enter Tryd.func10, Tryd.ntmps10
  go_wp2_with fail
  refine NN.out.mono ?_; rintro e w2 ⟨fb, rfl, hf, hb⟩
  have HBB := Lib.hid hb
  have SI := Lib.hid (step_in ⟨#[109, 97, 99, 104, 105, 110, 101]⟩ hf)
  clear hf hb
  go_wp2_with fail
  refine SI.out.mono ?_; rintro e w9 ⟨b9, rfl, hs9, hb9⟩
  have HS9 := Lib.hid hs9; have HB9 := Lib.hid (HBB.out.trans (hb9.mono HBB.out.size))
  clear hs9 hb9
  go_wp2_with fail
  go_ret2
  exact ⟨_, rfl, HS9.out, HB9.out⟩
/-- Refused by nobody. -/
def NobodyTo (w : World) (e : Ending) (w' : World) : Prop := ∃ b, e = .returned (.iface 69 (.pointer (some ⟨b, 0, none⟩))) ∧ FaultAt 10 0 w' (.iface 69 (.pointer (some ⟨b, 0, none⟩))) ∧ Below w.heap.size w w'
theorem ncheck (w : World) : Calls Tryd.prog 32 #[.pointer none, .int .i64 0] w (NobodyTo w) := by
  have HF := Lib.hid (newF 10 0 ⟨#[109, 97, 99, 104, 105, 110, 101]⟩ w)
  go_enter Tryd.func32, Tryd.ntmps32
  go_wp2_with fail
  refine HF.out.mono ?_; rintro e w2 ⟨fb, rfl, hf, hb⟩
  have HFF := Lib.hid hf; have HBB := Lib.hid hb
  clear hf hb
  go_wp2_with fail
  go_ret
  exact ⟨_, rfl, HFF.out, HBB.out⟩
theorem nwork (w : World) : Calls Tryd.prog 12 #[.pointer none, .int .i64 0] w (NobodyTo w) := by
  have HF := Lib.hid (ncheck w)
  go_enter Tryd.func12, Tryd.ntmps12
  go_wp2_with fail
  refine HF.out.mono ?_; rintro e w2 ⟨fb, rfl, hf, hb⟩
  have HFF := Lib.hid hf; have HBB := Lib.hid hb
  clear hf hb
  go_wp2_with fail
  go_ret
  exact ⟨_, rfl, HFF.out, HBB.out⟩
theorem ncrash (w : World) : Calls Tryd.prog 16 #[.pointer none, .int .i64 0] w (NobodyTo w) := by
  have HF := Lib.hid (ncheck w)
  go_enter Tryd.func16, Tryd.ntmps16
  go_wp2_with fail
  refine HF.out.mono ?_; rintro e w2 ⟨fb, rfl, hf, hb⟩
  have HFF := Lib.hid hf; have HBB := Lib.hid hb
  clear hf hb
  go_wp2_with fail
  go_ret
  exact ⟨_, rfl, HFF.out, HBB.out⟩
theorem ndeliver (w : World) : Calls Tryd.prog 14 #[.pointer none, .int .i64 0] w (NobodyTo w) := by
  have HF := Lib.hid (newF 10 0 ⟨#[109, 97, 99, 104, 105, 110, 101]⟩ w)
  go_enter Tryd.func14, Tryd.ntmps14
  go_wp2_with fail
  refine HF.out.mono ?_; rintro e w2 ⟨fb, rfl, hf, hb⟩
  have HFF := Lib.hid hf; have HBB := Lib.hid hb
  clear hf hb
  go_wp2_with fail
  go_ret
  exact ⟨_, rfl, HFF.out, HBB.out⟩
theorem ndouble (w : World) : Calls Tryd.prog 15 #[.pointer none, .int .i64 0] w (NobodyTo w) := by
  have HF := Lib.hid (newF 10 0 ⟨#[109, 97, 99, 104, 105, 110, 101]⟩ w)
  go_enter Tryd.func15, Tryd.ntmps15
  go_wp2_with fail
  refine HF.out.mono ?_; rintro e w2 ⟨fb, rfl, hf, hb⟩
  have HFF := Lib.hid hf; have HBB := Lib.hid hb
  clear hf hb
  go_wp2_with fail
  go_ret
  exact ⟨_, rfl, HFF.out, HBB.out⟩
theorem npass (w : World) : Calls Tryd.prog 17 #[.pointer none] w (NobodyTo w) := by
  have HF := Lib.hid (newF 10 0 ⟨#[109, 97, 99, 104, 105, 110, 101]⟩ w)
  go_enter Tryd.func17, Tryd.ntmps17
  go_wp2_with fail
  refine HF.out.mono ?_; rintro e w2 ⟨fb, rfl, hf, hb⟩
  have HFF := Lib.hid hf; have HBB := Lib.hid hb
  clear hf hb
  go_wp2_with fail
  go_ret
  exact ⟨_, rfl, HFF.out, HBB.out⟩
theorem nfinish (w : World) : Calls Tryd.prog 18 #[.pointer none] w (NobodyTo w) := by
  have HF := Lib.hid (newF 10 0 ⟨#[109, 97, 99, 104, 105, 110, 101]⟩ w)
  go_enter Tryd.func18, Tryd.ntmps18
  go_wp2_with fail
  refine HF.out.mono ?_; rintro e w2 ⟨fb, rfl, hf, hb⟩
  have HFF := Lib.hid hf; have HBB := Lib.hid hb
  clear hf hb
  go_wp2_with fail
  go_ret
  exact ⟨_, rfl, HFF.out, HBB.out⟩
theorem nworked (w : World) : Calls Tryd.prog 21 #[.pointer none, .int .i64 0] w fun e w' => e = .returned (.bool false) ∧ Below w.heap.size w w' := by
  have HF := Lib.hid (ncheck w)
  go_enter Tryd.func21, Tryd.ntmps21
  go_wp2_with fail
  refine HF.out.mono ?_; rintro e w2 ⟨fb, rfl, hf, hb⟩
  have HBB := Lib.hid hb
  clear hf hb
  go_wp2_with fail
  go_ret
  exact ⟨rfl, HBB.out⟩
theorem nround (w : World) : Calls Tryd.prog 22 #[.pointer none] w fun e w' => e = .returned (.int .i64 0) ∧ w' = w := by
  go_enter Tryd.func22, Tryd.ntmps22
  go_wp2_with fail
  go_ret
  exact ⟨rfl, rfl⟩
theorem nstates (w : World) : Calls Tryd.prog 20 #[.pointer none] w fun e w' => e = .returned (.slice none 0 0) ∧ w' = w := by
  go_enter Tryd.func20, Tryd.ntmps20
  go_wp2_with fail
  go_ret
  exact ⟨rfl, rfl⟩
theorem nflying (w : World) : Calls Tryd.prog 13 #[.pointer none] w fun e w' => e = .returned (.int .i64 0) ∧ w' = w := by
  go_enter Tryd.func13, Tryd.ntmps13
  go_wp2_with fail
  go_ret
  exact ⟨rfl, rfl⟩
set_option maxRecDepth 100000 in
set_option maxHeartbeats 4000000 in
theorem mwork_far {w : World} {base N : Nat} {p : MP} {vt : Value} {m : Nat} {R : Nat → Prop} (TL : List (List Int)) (h : MachB w base N p (wordJob vt) m R) (hT : ∀ W, Below base w W → ListsV W vt TL) (a : Nat) (ha : a < p.k) (hw0 : p.wk.getD a false = false)
    (h0 : TL.getD a [] = [99]) (h1k : p.k ≤ 99) (hbase : base ≤ w.heap.size) (hs : (p.st.getD a ⟨#[]⟩).size ≤ 1000) (hX : ∀ x ∈ p.bx.getD a [], x.size ≤ 60) (hl : (p.bx.getD a []).length ≤ 10000) :
    Calls Tryd.prog 12 #[.pointer (some ⟨m, 0, none⟩), .int .i64 (a : Int)] w (NoTo 3 0 w) := by
  obtain ⟨nb, wb, ib, b, sv, us, Rn, h, rfl⟩ := h
  have C := Lib.hid (mcheck_any h (a : Int))
  rw [show inW p.k (a : Int) = 0 from if_pos (by omega)] at C
  have HH := Lib.hid h; have HT := Lib.hid hT
  obtain ⟨M, hMM⟩ : ∃ M, TL.getD a [] = M := ⟨_, rfl⟩
  rw [hMM] at h0
  have HMM := Lib.hid hMM
  clear h hT hMM
  go_enter Tryd.func12, Tryd.ntmps12
  go_wp2_with fail
  refine C.out.mono ?_; rintro e w1 ⟨hb, ⟨_, rfl⟩ | ⟨h0, _⟩⟩
  case inr => exact absurd rfl h0
  have h1 := HH.out.below hb (Nat.le_refl _)
  have H1 := Lib.hid h1; have HB1 := Lib.hid hb
  have hbs1 := hb.size
  obtain ⟨sb, so, sc, rfl, c0, c1, c2, c3, c4, c5, c6⟩ := h1.cells
  obtain ⟨k, hk⟩ : ∃ k, p.k = k := ⟨_, rfl⟩
  rw [hk] at ha c2 c3 c4 c5 h1k
  have d5 : w1.cell? ⟨wb, a, none⟩ = some (.bool false) := by rw [h1.work.cell a, List.getElem?_toArray, boolC_at (show a < p.wk.length by rw [h1.l5, hk]; exact ha), hw0]
  have d2 : w1.cell? ⟨sb, so + a, none⟩ = some (.string (p.st.getD a ⟨#[]⟩)) := by
    have hst := h1.st
    rw [hk] at hst
    obtain ⟨b', off', e, _, hc⟩ := txt_pos hst (show a < p.st.length by rw [h1.l1, hk]; exact ha)
    injection e with e
    injection e with e1 e2 e3
    subst e1 e2
    exact hc
  obtain ⟨u, hu⟩ : ∃ u, us[a]? = some u := ⟨_, List.getElem?_eq_getElem (by rw [h1.l3, hk]; exact ha)⟩
  have d3 : w1.cell? ⟨ib, a, none⟩ = some u := by rw [h1.rows.cell a]; simpa using hu
  have hux : ValsV w1 u (txtC (p.bx.getD a [])) := h1.bx a u _ hu (by simp [List.getD, show a < p.bx.length by rw [h1.l2, hk]; exact ha])
  obtain ⟨s, hss⟩ : ∃ s, p.st.getD a ⟨#[]⟩ = s := ⟨_, rfl⟩
  obtain ⟨X, hXX⟩ : ∃ X, p.bx.getD a [] = X := ⟨_, rfl⟩
  rw [hss] at d2 hs
  rw [hXX] at hux hX hl
  obtain ⟨Au, cu, rfl⟩ := txt_form hux
  have CL : Hid (∀ W, Below w1.heap.size w1 W → Calls Tryd.prog 29 #[.slice Au X.length cu] W fun e w' => ∃ A' c', e = .returned (.slice A' X.length c') ∧ ValsV w' (.slice A' X.length c') (txtC X) ∧ Below w1.heap.size w1 w') := Lib.hid (fun W hb => (clone_txt X _ W (hux.below hb (Nat.le_refl _)) (by omega)).mono fun e w' ⟨v, h1, h2, h3⟩ => by
    obtain ⟨A', c', rfl⟩ := own_form h2
    exact ⟨A', c', h1, own_vals h2, hb.trans (h3.mono hb.size)⟩)
  have JW : Hid (∀ v W, Below w1.heap.size w1 W → ValsV W v (txtC X) → Calls Tryd.prog 76 #[.agg #[vt], .int .i64 (a : Int), .int .i64 p.rd, .string s, v] W fun e w' => ∃ A' c', e = .returned (.tuple #[.string (nextB a s X), .slice A' M.length c', .nilIface]) ∧ w'.ownsRow w1.heap.size 77 2 (.slice A' M.length c') M.length (mailC s M) ∧ Below w1.heap.size w1 w') := Lib.hid (fun v W h hv => (jobWork_any TL vt a p.rd s hs X hX hl v W hv (HT.out W ((HB1.out.mono hbase).trans (h.mono (by omega)))) (by rw [HMM.out, h0]; decide)).mono fun e w' ⟨vm, h1, h2, h3⟩ => by
    rw [HMM.out] at h2
    obtain ⟨A', c', rfl⟩ := own_form h2
    exact ⟨A', c', h1, own_base h2 h.size, h.trans (h3.mono h.size)⟩)
  obtain ⟨xl, hxl⟩ : ∃ n, X.length = n := ⟨_, rfl⟩
  obtain ⟨ml, hml⟩ : ∃ n, M.length = n := ⟨_, rfl⟩
  rw [hxl] at CL d3
  rw [hml] at JW
  have hml6 : ml = 1 := by rw [← hml, h0]; rfl
  subst hml6
  have t1 : decide (a < k) = true := decide_eq_true ha
  have i1 : (a : Int) < k := by omega
  have e0 : m < w1.heap.size := World.block_lt_of_cell? _ _ c0
  have e2 : sb < w1.heap.size := World.block_lt_of_cell? _ _ d2
  have e3 : ib < w1.heap.size := World.block_lt_of_cell? _ _ d3
  have KS := Lib.hid (fun W (h : Below w1.heap.size w1 W) => (show Below w1.heap.size w1 W ∧ W.cell? ⟨m, 0, none⟩ = some (wordJob vt) ∧ W.cell? ⟨m, 1, none⟩ = some (.int .i64 p.rd) ∧ W.cell? ⟨m, 2, none⟩ = some (.slice (some ⟨sb, so, none⟩) k sc) ∧ W.cell? ⟨m, 3, none⟩ = some (.slice (some ⟨ib, 0, none⟩) k k) ∧ W.cell? ⟨sb, so + a, none⟩ = some (.string s) ∧ W.cell? ⟨ib, a, none⟩ = some (.slice Au xl cu) from ⟨h, (h.cell (p := ⟨m, 0, none⟩) e0).trans c0, (h.cell (p := ⟨m, 1, none⟩) e0).trans c1, (h.cell (p := ⟨m, 2, none⟩) e0).trans c2, (h.cell (p := ⟨m, 3, none⟩) e0).trans c3, (h.cell (p := ⟨sb, so + a, none⟩) e2).trans d2, (h.cell (p := ⟨ib, a, none⟩) e3).trans d3⟩))
  have HU := Lib.hid hu
  have HSS := Lib.hid hss; have HXX := Lib.hid hXX; have HXL := Lib.hid hxl; have HML := Lib.hid hml; have HK := Lib.hid hk
  have H0 := Lib.hid h0; have HBASE := Lib.hid hbase; have H1K := Lib.hid h1k
  clear h1 hb hux hu hs hX hl hss hXX hxl hml h0 hk h1k c4 c6 hbs1 hbase hw0
  unfold wordJob at KS c0
  go_wp2_with fail
  go_region_held3 (fun W => Below w1.heap.size w1 W ∧ W.cell? ⟨m, 0, none⟩ = some (.iface 35 (.agg #[vt])) ∧ W.cell? ⟨m, 1, none⟩ = some (.int .i64 p.rd) ∧ W.cell? ⟨m, 2, none⟩ = some (.slice (some ⟨sb, so, none⟩) k sc) ∧ W.cell? ⟨m, 3, none⟩ = some (.slice (some ⟨ib, 0, none⟩) k k) ∧ W.cell? ⟨sb, so + a, none⟩ = some (.string s) ∧ W.cell? ⟨ib, a, none⟩ = some (.slice Au xl cu))
    (exact KS.out _ (by first | assumption | exact Below.refl _ _ | exact below_drewN' (Below.refl _ _) _ | exact below_drewN' (by assumption) _))
    (first
      | (go_at_call 76; refine (JW.out _ _ hBC HVC.out).mono ?_; rintro e' wJ ⟨Am, cm, rfl, hvm, hBJ⟩)
      | (go_at_call 29; refine (CL.out _ (by first | assumption | exact Below.refl _ _ | exact below_drewN' (Below.refl _ _) _)).mono ?_; rintro e' wC ⟨Ac, cc, rfl, hvc, hBC⟩; have HVC := Lib.hid hvc; clear hvc))
  all_goals
    have hJ := HH.out.below (HB1.out.trans (hBJ.mono (by have := HB1.out.size; omega))) (Nat.le_refl _)
    obtain ⟨hmv, hmo⟩ := own_mails hvm
    have HM := Lib.hid (fun W (h : Below wJ.heap.size wJ W) => hmv.stay (fun g hg => h.block g (hmo g hg).2))
    have HMO := Lib.hid hmo
    have HJ := Lib.hid hJ; have HBJ := Lib.hid hBJ
    have HWJ := Lib.hid (fun W (h : Below wJ.heap.size wJ W) => hJ.below h (Nat.le_refl _))
    clear hvm hmv hmo hJ hBJ hBC c0 c1 c2 c3 c5 d5 d2 d3 e0 e2 e3
    go_wp2_with fail
    go_loopg [66] 0 (fun g y wr => g = 0 ∧ y = .int .i64 0 ∧ Below wJ.heap.size wJ wr)
    case atStart => exact ⟨rfl, rfl, Below.refl _ _⟩
    case round =>
      obtain ⟨rfl, rfl, hB⟩ := hrel
      have HB := Lib.hid hB
      obtain ⟨g2, rfl, q0, q1⟩ := (HM.out wr hB).pos (show 0 < M.length by rw [HML.out]; decide)
      rw [show M.getD 0 0 = 99 by rw [H0.out]; rfl] at q0
      have hbq : Below wJ.heap.size wJ (wr.alloc (.cells #[.int .i64 99, .string s] 77)) := hB.alloc hB.size _
      have C2 := Lib.hid (mcheck_any (HWJ.out _ hbq) 99)
      rw [show inW p.k 99 = 3 from if_neg (by rw [HK.out]; have := H1K.out; omega)] at C2
      have HBQ := Lib.hid hbq
      clear hbq hB
      go_wp2_with fail
      refine C2.out.mono ?_; rintro e wq ⟨hb, ⟨h0, _⟩ | ⟨_, u, rfl, hf⟩⟩
      · exact absurd h0 (by decide)
      obtain ⟨fb, sn, rfl, hw⟩ := hf
      have HF := Lib.hid (show FaultAt 3 0 wq (.iface 69 (.pointer (some ⟨fb, 0, none⟩))) from ⟨fb, sn, rfl, hw⟩)
      have HQ := Lib.hid (HB1.out.trans ((HBJ.out.trans ((HBQ.out.trans (hb.mono HBQ.out.size)).mono HBJ.out.size)).mono HB1.out.size))
      clear hb hw
      go_wp2_with fail
      go_ret
      exact ⟨⟨_, rfl, HF.out⟩, HQ.out⟩
/-- So many first workers have worked. -/
structure BrkP (k i : Nat) (p : MP) : Prop where
  kk : p.k = k
  rd : p.rd = 0
  l5 : p.wk.length = k
  nk : p.nt.k = k
  yes : ∀ a, a < i → p.wk.getD a false = true
  no : ∀ a, i ≤ a → p.wk.getD a false = false
  st : ∀ a, p.st.getD a ⟨#[]⟩ = ⟨#[]⟩
  bx : ∀ a, p.bx.getD a [] = []
  good : Good p.nt i
theorem BrkP.start {k : Nat} (hk : k ≤ 64) : BrkP k 0 (startP k 0 (List.replicate k ⟨#[]⟩) (List.replicate k [])) where
  kk := rfl
  rd := rfl
  l5 := by simp [startP]
  nk := rfl
  yes := fun a h => absurd h (Nat.not_lt_zero a)
  no := fun a _ => rep_getD
  st := fun a => by
    show (List.replicate k _).getD a _ = _
    simp only [List.getD, List.getElem?_replicate]
    split <;> rfl
  bx := fun a => by
    show (List.replicate k _).getD a _ = _
    simp only [List.getD, List.getElem?_replicate]
    split <;> rfl
  good := Good.fresh hk
theorem BrkP.next {k i : Nat} {p : MP} (h : BrkP k i p) (hi : i < k) (hk : k ≤ 64) (z x : ByteArray) : BrkP k (i + 1) (workG p i z x [0]) where
  kk := h.kk
  rd := h.rd
  l5 := by show (p.wk.set i true).length = _; rw [List.length_set]; exact h.l5
  nk := h.nk
  yes := fun a ha => by
    show (p.wk.set i true).getD a false = true
    by_cases e : a = i
    · rw [e]; exact getD_set_self (by rw [h.l5]; exact hi)
    · rw [getD_set_ne e]; exact h.yes a (by omega)
  no := fun a ha => by
    show (p.wk.set i true).getD a false = false
    rw [getD_set_ne (by omega)]; exact h.no a (by omega)
  st := h.st
  bx := h.bx
  good := by
    have hHa : hasB p.nt.k (i : Int) = true := by rw [h.nk]; unfold hasB; simp; omega
    have h9 := h.good.sends (i : Int) x hHa [0] (by show i + 1 ≤ 1000; omega) (fun t ht => by rw [List.mem_singleton.1 ht, h.nk]; unfold hasB; simp; omega)
    exact h9
/-- What Finish leaves. -/
def BrkTo (k bad base m : Nat) (R : Nat → Prop) (w w' : World) : Prop := ∃ p', BrkP k bad p' ∧ OpTo base bad p' (brkJob bad) m R w w'
set_option maxRecDepth 100000 in
set_option maxHeartbeats 4000000 in
theorem mfinish_brk {w : World} {base k bad : Nat} {p : MP} {m : Nat} {R : Nat → Prop} (h : MachB w base 0 p (brkJob bad) m R) (hp : BrkP k 0 p) (hb : bad < k) (hk : k ≤ 6) (hbase : base ≤ w.heap.size) :
    Calls Tryd.prog 18 #[.pointer (some ⟨m, 0, none⟩)] w fun e w' => (∃ b, e = .returned (.iface 88 (.pointer (some ⟨b, 0, none⟩))) ∧ StepIs ⟨#[119, 111, 114, 107]⟩ 7 bad w' (.iface 88 (.pointer (some ⟨b, 0, none⟩)))) ∧ BrkTo k bad base m R w w' := by
  have H0 : Hid (OpTo base 0 p (brkJob bad) m R w w) := Lib.hid (OpTo.of_below h (Below.refl _ _) hbase)
  have HP := Lib.hid hp; have HBASE := Lib.hid hbase; have HB := Lib.hid hb; have HK6 := Lib.hid hk
  obtain ⟨nb, wb, ib, b, sv, us, Rn, hm, _⟩ := h
  obtain ⟨sb, so, sc, _, _, _, c2, _⟩ := hm.cells
  rw [hp.kk] at c2
  clear hm hp hbase hb
  go_enter Tryd.func18, Tryd.ntmps18
  go_wp2_with fail
  go_loopg [14] k (fun g y wr => ∃ i, i ≤ bad ∧ g = k - i ∧ y = .int .i64 (i : Nat) ∧ ∃ p', BrkP k i p' ∧ OpTo base i p' (brkJob bad) m R w wr)
  case atStart => exact ⟨0, Nat.zero_le _, rfl, rfl, p, HP.out, H0.out⟩
  case round =>
    obtain ⟨i, hi, rfl, rfl, p', hbp, hop⟩ := hrel
    have HBP := Lib.hid hbp; have HOP := Lib.hid hop; have HI := Lib.hid hi
    obtain ⟨R', hmb, hfr, hsub, hbel⟩ := hop
    have HMB := Lib.hid hmb; have HFR := Lib.hid hfr; have HSUB := Lib.hid hsub; have HBEL := Lib.hid hbel
    have hbw : base ≤ wr.heap.size := Nat.le_trans HBASE.out hfr.size
    have hlt : i < k := by have := HB.out; omega
    obtain ⟨nb', wb', ib', b', sv', us', Rn', hm', _⟩ := hmb
    obtain ⟨_, _, _, _, _, _, _, _, _, c5, _⟩ := hm'.cells
    have d5 := bools_pos hm'.work (show i < p'.wk.length by rw [hbp.l5]; exact hlt)
    rw [hbp.no i (Nat.le_refl _)] at d5
    rw [hbp.kk] at c5
    have t7 : decide (i < k) = true := decide_eq_true hlt
    have t7' : decide ((i : Int) < k) = true := decide_eq_true (by omega)
    have i1 : (i : Int) < k := by omega
    have HLT := Lib.hid hlt
    by_cases hib : i = bad
    · have WE := Lib.hid (mwork_err (bad := bad) (a := i) hib.symm HMB.out (by rw [hbp.kk]; exact hlt) (hbp.no i (Nat.le_refl _)) (by rw [hbp.bx]; exact Nat.zero_le _))
      have HIB := Lib.hid hib
      clear hib hbp hfr hsub hbel hbw hlt hm' hi
      go_wp2_with fail
      refine WE.out.mono ?_; rintro e w1 ⟨⟨fb, rfl, hs⟩, hb1⟩
      have HS := Lib.hid hs.is; have HB1 := Lib.hid hb1
      clear hs hb1
      go_wp2_with fail
      go_ret
      refine ⟨⟨_, rfl, by rw [← HIB.out]; exact HS.out⟩, p', by rw [← HIB.out]; exact HBP.out, ?_⟩
      have h9 := OpTo.before (OpTo.of_below HMB.out HB1.out (Nat.le_trans HBASE.out HFR.out.size)) HFR.out HSUB.out HBEL.out
      rw [← HIB.out]
      rw [← HIB.out] at h9
      exact h9
    · have hst : (p'.st.getD i ⟨#[]⟩).size ≤ 1000 := by rw [hbp.st]; exact Nat.zero_le _
      have WK := Lib.hid (mwork_brk (bad := bad) (p := p') [0] (p'.st.getD i ⟨#[]⟩ ++ ⟨#[33]⟩) ⟨#[109]⟩ HMB.out hbp.good i (by rw [hbp.kk]; exact hlt) (hbp.no i (Nat.le_refl _)) (by show i + 1 ≤ 1000; omega) (by show i + 1 ≤ 1000; omega) hbw (fun t ht => by rw [List.mem_singleton.1 ht, hbp.kk]; omega) (by rw [hbp.bx]; exact Nat.zero_le _) (fun v W => brk_yes bad i p'.rd _ hst v W hib))
      have HN := Lib.hid (hbp.next hlt (by omega) (p'.st.getD i ⟨#[]⟩ ++ ⟨#[33]⟩) ⟨#[109]⟩)
      have HNB : Hid (i + 1 ≤ bad) := Lib.hid (by omega)
      clear hib hbp hfr hsub hbel hbw hlt hm' hi hst
      go_wp2_with fail
      refine WK.out.mono ?_; rintro e w1 ⟨rfl, ho⟩
      have HO := Lib.hid ho
      clear ho
      go_wp2_with fail
      go_roundg (k - (i + 1))
      case rel => exact ⟨i + 1, HNB.out, rfl, rfl, _, HN.out, OpTo.before HO.out HFR.out HSUB.out HBEL.out⟩
      case measure => have := HLT.out; omega
end Go.Proofs.YtlopoddllfkkfaaDoor
