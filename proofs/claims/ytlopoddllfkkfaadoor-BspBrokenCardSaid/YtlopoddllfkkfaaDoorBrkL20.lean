/- BspBroken: the law. -/
import Derived.Test.YtlopoddllfkkfaaDoorBrkM20
import Derived.Test.YtlopoddllfkkfaaDoorBarM
namespace Go.Proofs.YtlopoddllfkkfaaDoor
open Go.RowKit

theorem words_own {w : World} {word : ByteArray} {c a : Int} {u : Value} (h : StepIs word c a w u) (hg : ErrT w) : Calls Tryd.prog 23 #[u] w fun e w' => ∃ g cap, e = .returned (.slice (some ⟨g, 0, none⟩) 1 cap) ∧ (∃ cs, Whole w' g 9 cs ∧ cs[0]? = some (.string word)) ∧ w.heap.size ≤ g ∧ Below w.heap.size w w' := by
  obtain ⟨V, B, b, nm, rfl, hE⟩ := h.err
  have hu := unroll_chain w hg (by decide) hE
  obtain ⟨T, x, h0, _⟩ := hE.form 0 (Nat.zero_le _)
  rw [h0] at hu ⊢
  have HU := Lib.hid hu
  clear hu h0 hE h
  go_enter Tryd.func23, Tryd.ntmps23
  go_wp2_with fail
  refine HU.out.mono ?_; rintro e w2 ⟨v, rfl, ho, hb⟩
  have HO := Lib.hid ho; have HB := Lib.hid hb
  clear ho hb
  go_wp2_with fail
  go_ret
  have ho := HO.out
  rcases ho.2 with ⟨_, h0⟩ | ⟨g, cap, cur, rfl, hg1, hw, hcap, _, hsz, ht⟩
  · omega
  · refine ⟨g, cap, rfl, ⟨cur, hw, ?_⟩, hg1, HB.out⟩
    have h9 : (cur.toList.take 1)[0]? = some (.string word) := by rw [show (1 : Nat) = 1 * 1 from rfl, ht]; rfl
    rw [List.getElem?_take, if_pos (by decide)] at h9
    simpa using h9
theorem code_step {w : World} {word : ByteArray} {c a : Int} {u : Value} (h : StepIs word c a w u) (hg : ErrT w) : Calls Tryd.prog 11 #[u] w fun e w' => e = .returned (.int .i64 c) ∧ Below w.heap.size w w' := by
  obtain ⟨V, B, b, nm, rfl, hE⟩ := h.err
  exact code_chain w hg hE
theorem at_step {w : World} {word : ByteArray} {c a : Int} {u : Value} (h : StepIs word c a w u) (hg : ErrT w) : Calls Tryd.prog 24 #[u] w fun e w' => e = .returned (.int .i64 a) ∧ Below w.heap.size w w' := by
  obtain ⟨V, B, b, nm, rfl, hE⟩ := h.err
  exact at_chain w hg hE
theorem lists_one {w : World} (t1 t2 : TypeId) (x : Int) : ListsV ((w.alloc (.cells #[.int .i64 x] t1)).alloc (.cells #[.slice (some ⟨w.heap.size, 0, none⟩) 1 1] t2)) (.slice (some ⟨w.heap.size + 1, 0, none⟩) 1 1) [[x]] := by
  have h1 := (Whole.new w t1 #[.int .i64 x]).alloc (.cells #[.slice (some ⟨w.heap.size, 0, none⟩) 1 1] t2)
  have h3 := Whole.new (w.alloc (.cells #[.int .i64 x] t1)) t2 #[.slice (some ⟨w.heap.size, 0, none⟩) 1 1]
  rw [World.size_alloc] at h3
  refine ⟨[.slice (some ⟨w.heap.size, 0, none⟩) 1 1], rfl, fun i u L hu hL => ?_, Or.inr ⟨Nat.zero_lt_one, w.heap.size + 1, 0, 1, rfl, fun i hi => ?_⟩⟩
  · match i with
    | 0 =>
      obtain rfl := Option.some.inj hu
      obtain rfl := Option.some.inj hL
      refine ⟨Or.inr ⟨Nat.zero_lt_one, w.heap.size, 0, 1, rfl, fun j hj => ?_⟩, _, 1, rfl, Nat.le_refl _⟩
      obtain rfl : j = 0 := by simpa using hj
      exact h1.cell 0
    | i + 1 => simp at hL
  · obtain rfl : i = 0 := by simpa using hi
    exact h3.cell 0
theorem zero_getD {k : Nat} (a : Nat) : (List.replicate k (⟨#[]⟩ : ByteArray)).getD a ⟨#[]⟩ = ⟨#[]⟩ := by
  simp only [List.getD, List.getElem?_replicate]
  split <;> rfl
set_option maxRecDepth 100000 in
set_option maxHeartbeats 16000000 in
theorem broken_law (rn an : Nat) (hrn : rn < 256) (han : an < 256) (X : List ByteArray) (vx : Value) (w : World) (hg : ErrT w) (hx : ValsV w vx (txtC X)) :
    Calls Tryd.prog 4 #[.int .u8 (rn : Int), .int .u8 (an : Int), vx] w fun e w' => e = .returned (.bool true) ∧ Below w.heap.size w w' := by
  have AL := Lib.hid (alive20 w hg)
  have HX := Lib.hid (fun W (h : Below w.heap.size w W) => hx.below h (Nat.le_refl _))
  have HGE := Lib.hid (fun W (h : Below w.heap.size w W) => hg.below h (Nat.le_refl _))
  obtain ⟨Ax, cx, rfl⟩ := txt_form hx
  obtain ⟨n, hn⟩ : ∃ n, X.length = n := ⟨_, rfl⟩
  rw [hn] at HX ⊢
  have HN := Lib.hid hn
  have z0 : Int.tmod (rn : Int) 6 = ((rn % 6 : Nat) : Int) := by rw [Int.tmod_eq_emod_of_nonneg (by omega)]; omega
  obtain ⟨z, hz⟩ : ∃ z, rn % 6 = z := ⟨_, rfl⟩
  have z5 : z ≤ 5 := by omega
  rw [hz] at z0
  have zc : IntKind.i64.wrap (rn : Int) = (rn : Int) := by rw [IntKind.wrap_i64]; omega
  have ac : IntKind.i64.wrap (an : Int) = (an : Int) := by rw [IntKind.wrap_i64]; omega
  have an0 : (0 : Int) ≤ an := by omega
  have an1 : (an : Int) ≤ 255 := by omega
  clear hg hx hn hz hrn
  by_cases h80 : 80 < n
  · have t1 : decide (80 < n) = true := decide_eq_true h80
    have t1' : decide ((80 : Int) < n) = true := decide_eq_true (by omega)
    clear h80
    go_enter Tryd.func4, Tryd.ntmps4
    go_wp2_with fail
    refine AL.out.mono ?_; rintro e w1 ⟨rfl, hb1⟩
    go_wp2_with fail
    go_ret
    exact ⟨rfl, hb1⟩
  have t1 : decide (80 < n) = false := decide_eq_false h80
  have t1' : decide ((80 : Int) < n) = false := decide_eq_false (by omega)
  have H80 := Lib.hid h80
  clear h80
  go_enter Tryd.func4, Tryd.ntmps4
  go_wp2_with fail
  refine AL.out.mono ?_; rintro e w1 ⟨rfl, hb1⟩
  have HB1 := Lib.hid hb1
  clear hb1
  go_upto_region 6 with fail
  obtain ⟨k, hk⟩ : ∃ k, k = z + 1 := ⟨_, rfl⟩
  rw [show (1 + (z : Int)) = ((k : Nat) : Int) by omega]
  have k1 : 1 ≤ k := by omega
  have k6 : k ≤ 6 := by omega
  have kn : ¬ k = 0 := by omega
  have kz : ¬ (k : Int) = 0 := by omega
  obtain ⟨d, hd⟩ : ∃ d, an % k = d := ⟨_, rfl⟩
  have hdk : d < k := by rw [← hd]; exact Nat.mod_lt _ (by omega)
  have om : Int.tmod (an : Int) (k : Int) = (d : Int) := by rw [Int.tmod_eq_emod_of_nonneg (by omega), ← hd]; omega
  have om2 : (an : Int) % (k : Int) = (d : Int) := by rw [← hd]; omega
  clear hk z0 zc t1 t1' z5 hd
  go_upto_region 7 with fail
  clear om om2 ac an0 an1 kn kz
  have hnew := mnew_good (List.replicate k ⟨#[]⟩) 50 (.agg #[.int .i64 (d : Int)]) (.slice (some ⟨w1.heap.size, 0, none⟩) k k) (w1.alloc (.cells (madeCells #[.string ⟨#[]⟩] k) 9))
    (by
      have h9 := Whole.new w1 9 (madeCells #[.string ⟨#[]⟩] k)
      rw [made_txt] at h9 ⊢
      refine Or.inr ⟨by rw [txtC_len, List.length_replicate]; exact k1, w1.heap.size, 0, k, by rw [txtC_len, List.length_replicate], fun i _ => ?_⟩
      rw [Nat.zero_add, h9.cell]
      simp only [List.getElem?_toArray]) (by rw [List.length_replicate]; exact k1) (by rw [List.length_replicate]; omega)
  rw [List.length_replicate] at hnew
  have hmk := fun V => make_strs k V (by omega)
  obtain ⟨wm, hwm⟩ : ∃ W, w1.alloc (.cells (madeCells #[.string ⟨#[]⟩] k) 9) = W := ⟨_, rfl⟩
  have hbm : Below w.heap.size w wm := by rw [← hwm]; exact HB1.out.alloc HB1.out.size _
  rw [hwm] at hnew
  obtain ⟨p0, hp0⟩ : ∃ p, startP k 0 (List.replicate k ⟨#[]⟩) (List.replicate k []) = p := ⟨_, rfl⟩
  rw [hp0] at hnew
  have HP0 : Hid (BrkP k 0 p0) := Lib.hid (by rw [← hp0]; exact BrkP.start (by omega))
  have NW := Lib.hid hnew; have HWM := Lib.hid hwm; have HBM := Lib.hid hbm; have HDK := Lib.hid hdk; have K6 := Lib.hid k6
  clear hnew hwm hbm hp0 hdk
  go_wp2_with fail
  rw [HWM.out]
  refine NW.out.mono ?_; rintro e w3 ⟨m, R, rfl, hm, hR, hb3⟩
  have hmj : MachB w3 wm.heap.size 0 p0 (brkJob d) m R := hm
  have HM := Lib.hid hmj; have HB3 := Lib.hid (HBM.out.trans (hb3.mono HBM.out.size)); have HB3' := Lib.hid hb3
  have WE := Lib.hid (mwork_err (bad := d) (a := d) rfl hmj (by rw [HP0.out.kk]; exact HDK.out) (HP0.out.no d (Nat.zero_le _)) (by rw [HP0.out.bx]; exact Nat.zero_le _))
  clear hm hmj hR hb3 hmk
  go_wp2_with fail
  refine WE.out.mono ?_; rintro e w4 ⟨⟨fb, rfl, hs4⟩, hb4⟩
  have HS4 := Lib.hid hs4; have HB4 := Lib.hid (HB3.out.trans (hb4.mono HB3.out.size)); have HM4 := Lib.hid (HM.out.below hb4)
  have HBB4 := Lib.hid (HB3'.out.trans (hb4.mono HB3'.out.size))
  have WD := Lib.hid (words_own hs4.is (HGE.out w4 HB4.out))
  have HSZ := Lib.hid hb4.size
  clear hs4 hb4
  go_wp2_with fail
  refine WD.out.mono ?_; rintro e w5 ⟨gw, cw, rfl, ⟨cs, hcs, hc0⟩, hgw, hb5⟩
  have HCS := Lib.hid hcs; have HC0 := Lib.hid hc0; have HGW := Lib.hid hgw
  have HB5 := Lib.hid (HB4.out.trans (hb5.mono HB4.out.size)); have HM5 := Lib.hid (HM4.out.below hb5); have HS5 := Lib.hid (HS4.out.below hb5)
  have HBB5 := Lib.hid (HBB4.out.trans (hb5.mono HBB4.out.size))
  have FN := Lib.hid (mfinish_brk HM5.out HP0.out HDK.out K6.out HBB5.out.size)
  clear hcs hc0 hgw hb5
  go_wp2_with fail
  refine FN.out.mono ?_; rintro e w6 ⟨⟨gb, rfl, hs6⟩, p6, hp6, R6, hm6, hfr6, hsub6, hb6⟩
  have HS6 := Lib.hid hs6; have HP6 := Lib.hid hp6; have HM6 := Lib.hid hm6
  have HB6 : Hid (Below w.heap.size w w6) := Lib.hid (HBM.out.trans ((HBB5.out.trans hb6).mono HBM.out.size))
  have HCS6 : Hid (∀ W, Below w6.heap.size w6 W → W.cell? ⟨gw, 0, none⟩ = some (.string ⟨#[119, 111, 114, 107]⟩)) := Lib.hid (fun W hW => by
    have h9 := (HCS.out.stay (hfr6.block gw HCS.out.lt (fun hr => by have := (HM4.out.foot hr).2; have := HGW.out; omega))).below hW (by have := HCS.out.lt; have := hfr6.size; omega)
    rw [h9.cell 0, HC0.out])
  have HSF : Hid (StepIs ⟨#[119, 111, 114, 107]⟩ 7 d w6 (.iface 88 (.pointer (some ⟨fb, 0, none⟩)))) := Lib.hid (HS5.out.stay (fun g h1 h2 => hfr6.block g h2 (fun hr => by have := (HM.out.foot hr).2; omega))).is
  have HGX : Hid (∀ W, Below w6.heap.size w6 W → ErrT W) := Lib.hid (fun W hW => HGE.out W (HB6.out.trans (hW.mono HB6.out.size)))
  have CF := Lib.hid (code_step HSF.out (HGX.out w6 (Below.refl _ _)))
  clear hs6 hp6 hm6 hfr6 hsub6 hb6
  go_wp2_with fail
  refine CF.out.mono ?_; rintro e w7 ⟨rfl, hb7⟩
  have Q7 := Lib.hid hb7
  have AF := Lib.hid (at_step (HSF.out.below hb7) (HGX.out w7 hb7))
  have d0 := HCS6.out w7 hb7
  clear hb7
  go_wp2_with fail
  refine AF.out.mono ?_; rintro e w8 ⟨rfl, hb8⟩
  have Q8 := Lib.hid (Q7.out.trans (hb8.mono Q7.out.size))
  have d1 := HCS6.out w8 Q8.out
  have CG := Lib.hid (code_step (HS6.out.below Q8.out) (HGX.out w8 Q8.out))
  clear hb8 d0
  go_wp2_with fail
  refine CG.out.mono ?_; rintro e w9 ⟨rfl, hb9⟩
  have Q9 := Lib.hid (Q8.out.trans (hb9.mono Q8.out.size))
  have HM9 := Lib.hid (HM6.out.below Q9.out)
  have WK := Lib.hid (mworked_in HM9.out d (by rw [HP6.out.kk]; exact HDK.out))
  rw [HP6.out.no d (Nat.le_refl _)] at WK
  clear hb9 d1
  go_wp2_with fail
  refine WK.out.mono ?_; rintro e wa ⟨rfl, hba⟩
  have Qa := Lib.hid (Q9.out.trans (hba.mono Q9.out.size))
  have HMa := Lib.hid (HM6.out.below Qa.out)
  have RN : Hid (Calls Tryd.prog 22 #[.pointer (some ⟨m, 0, none⟩)] wa fun e w' => e = .returned (.int .i64 0) ∧ w' = wa) := Lib.hid (by
    obtain ⟨nb, wb, ib, b, sv, us, Rn, hm, _⟩ := HMa.out
    have k := mround_any hm
    rw [HP6.out.rd] at k
    exact k)
  clear hba
  go_wp2_with fail
  refine RN.out.mono ?_; rintro e wb ⟨rfl, hwb⟩
  obtain rfl := hwb.symm
  clear hwb
  have PN := Lib.hid (mpass_not HMa.out (by
    cases h9 : p6.wk.all id with
    | false => rfl
    | true =>
      have := all_at h9 (a := d) (by rw [HP6.out.l5]; exact HDK.out)
      rw [HP6.out.no d (Nat.le_refl _)] at this
      cases this))
  go_wp2_with fail
  refine PN.out.mono ?_; rintro e wc ⟨⟨u, rfl, hu⟩, hbc⟩
  have Qc := Lib.hid (Qa.out.trans (hbc.mono Qa.out.size))
  have CP := Lib.hid (code_f7 hu (HGX.out wc Qc.out))
  obtain ⟨fu, su, rfl, _⟩ := hu
  clear hbc
  go_wp2_with fail
  refine CP.out.mono ?_; rintro e wd ⟨rfl, hbd⟩
  have HBD := Lib.hid (HB6.out.trans ((Qc.out.trans (hbd.mono Qc.out.size)).mono HB6.out.size))
  have HGD : Hid (∀ W, Below wd.heap.size wd W → ErrT W) := Lib.hid (fun W hW => HGE.out W (HBD.out.trans (hW.mono HBD.out.size)))
  clear hbd
  -- the mail to nobody
  have hl := lists_one (w := wd) 3 52 99
  have hs1 : (((wd.alloc (.cells #[.int .i64 99] 3)).alloc (.cells #[.slice (some ⟨wd.heap.size, 0, none⟩) 1 1] 52))).heap.size = wd.heap.size + 1 + 1 := by rw [World.size_alloc, World.size_alloc]
  have hb1 : Below wd.heap.size wd ((wd.alloc (.cells #[.int .i64 99] 3)).alloc (.cells #[.slice (some ⟨wd.heap.size, 0, none⟩) 1 1] 52)) := ((Below.refl _ _).alloc (Nat.le_refl _) _).alloc (by rw [World.size_alloc]; omega) _
  obtain ⟨we, hwe⟩ : ∃ W, (wd.alloc (.cells #[.int .i64 99] 3)).alloc (.cells #[.slice (some ⟨wd.heap.size, 0, none⟩) 1 1] 52) = W := ⟨_, rfl⟩
  rw [hwe] at hl hs1 hb1
  have hb2 : Below we.heap.size we (we.alloc (.cells #[.string ⟨#[97]⟩] 9)) := (Below.refl _ _).alloc (Nat.le_refl _) _
  have hx2 := Whole.new we 9 #[.string ⟨#[97]⟩]
  rw [hs1] at hx2
  obtain ⟨wf, hwf⟩ : ∃ W, we.alloc (.cells #[.string ⟨#[97]⟩] 9) = W := ⟨_, rfl⟩
  rw [hwf] at hb2 hx2
  have hv2 : ValsV wf (.slice (some ⟨wd.heap.size + 1 + 1, 0, none⟩) 1 1) (txtC [⟨#[97]⟩]) := Or.inr ⟨Nat.zero_lt_one, wd.heap.size + 1 + 1, 0, 1, rfl, fun i hi => by
    obtain rfl : i = 0 := by simpa [txtC] using hi
    exact hx2.cell 0⟩
  have hbf : Below wd.heap.size wd wf := hb1.trans (hb2.mono hb1.size)
  have NX := Lib.hid (mnew_good [⟨#[97]⟩] 35 (.agg #[.slice (some ⟨wd.heap.size + 1, 0, none⟩) 1 1]) _ wf hv2 (by decide) (by decide))
  have HTL : Hid (∀ W, Below wf.heap.size wf W → ListsV W (.slice (some ⟨wd.heap.size + 1, 0, none⟩) 1 1) [[99]]) := Lib.hid (fun W hW => hl.below (hb2.trans (hW.mono hb2.size)) (Nat.le_refl _))
  have HWE := Lib.hid hwe; have HWF := Lib.hid hwf; have HBF := Lib.hid hbf
  clear hl hs1 hb1 hb2 hx2 hwe hwf hv2 hbf
  go_wp2_with fail
  rw [HWE.out, HWF.out]
  refine NX.out.mono ?_; rintro e wg ⟨mx, Rx, rfl, hmx, hRx, hbg⟩
  have HMX : Hid (MachB wg wf.heap.size 0 (startP 1 0 [⟨#[97]⟩] [[]]) (wordJob (.slice (some ⟨wd.heap.size + 1, 0, none⟩) 1 1)) mx Rx) := Lib.hid hmx
  have HBG := Lib.hid (HBF.out.trans (hbg.mono HBF.out.size))
  have MF := Lib.hid (mwork_far (p := startP 1 0 [⟨#[97]⟩] [[]]) [[99]] HMX.out (fun W hW => HTL.out W (hbg.trans hW)) 0 (by decide) rfl rfl (by decide) hbg.size (by decide) (fun x hx => by cases hx) (by decide))
  clear hmx hRx hbg
  go_wp2_with fail
  refine MF.out.mono ?_; rintro e wh ⟨⟨ui, rfl, hui⟩, hbh⟩
  obtain ⟨fi, si, rfl, hwi⟩ := hui
  have HUI : Hid (FaultAt 3 0 wh (.iface 69 (.pointer (some ⟨fi, 0, none⟩)))) := Lib.hid ⟨fi, si, rfl, hwi⟩
  have HBH := Lib.hid (HBG.out.trans (hbh.mono HBG.out.size)); have HMXH := Lib.hid (HMX.out.below hbh)
  clear hwi hbh
  have HBW := Lib.hid (HBD.out.trans (HBH.out.mono HBD.out.size))
  by_cases hs : n < 1 ∨ 64 < n
  · have NB := Lib.hid (mnew_bad 35 (.agg #[.slice none 0 0]) Ax n cx wh hs)
    have hss : decide (n < 1) = true ∨ (decide (n < 1) = false ∧ decide (64 < n) = true) := by
      by_cases h : n < 1
      · exact Or.inl (decide_eq_true h)
      · exact Or.inr ⟨decide_eq_false h, decide_eq_true (by omega)⟩
    have hs1 : decide ((n : Int) < 1) = decide (n < 1) := decide_eq_decide.2 (by omega)
    have hs2 : decide ((64 : Int) < n) = decide (64 < n) := decide_eq_decide.2 (by omega)
    have HSS := Lib.hid hss; have HS1 := Lib.hid hs1; have HS2 := Lib.hid hs2
    clear hs hss hs1 hs2
    go_wp2_with fail
    refine NB.out.mono ?_; rintro e wi ⟨ob, rfl, hso, hbi⟩
    have HSO := Lib.hid hso; have HBI := Lib.hid hbi
    have NN := Lib.hid (mnew_nil Ax n cx wi)
    clear hso hbi
    go_wp2_with fail
    refine NN.out.mono ?_; rintro e wj ⟨pb, rfl, hpj, hbj⟩
    have HBJ := Lib.hid (HBI.out.trans (hbj.mono HBI.out.size))
    have HSOJ := Lib.hid (HSO.out.below hbj)
    have BJ := Lib.hid (HBW.out.trans (HBJ.out.mono HBW.out.size))
    have GJ : Hid (∀ W, Below wj.heap.size wj W → ErrT W) := Lib.hid (fun W hW => HGE.out W (BJ.out.trans (hW.mono BJ.out.size)))
    have CPJ := Lib.hid (code_f7 hpj (GJ.out wj (Below.refl _ _)))
    clear hpj hbj
    go_wp2_with fail
    refine CPJ.out.mono ?_; rintro e wk ⟨rfl, hbk⟩
    have HBK := Lib.hid hbk
    have COJ := Lib.hid (code_step (HSOJ.out.below hbk) (GJ.out wk hbk))
    have HMXz := Lib.hid ((HMXH.out.below HBJ.out).below hbk)
    have HUIk : Hid (FaultAt 3 0 wk (.iface 69 (.pointer (some ⟨fi, 0, none⟩)))) := Lib.hid ((HUI.out.below HBJ.out (Nat.le_refl _)).below hbk (Nat.le_refl _))
    clear hbk
    rcases HSS.out with s1 | ⟨s1, s2⟩
    · have s1' := HS1.out
      rw [s1] at s1'
      go_wp2_with fail
      refine COJ.out.mono ?_; rintro e wz ⟨rfl, hz⟩
      have HMXz := Lib.hid (HMXz.out.below hz)
      have HUIz := Lib.hid (HUIk.out.below hz (Nat.le_refl _))
      have BZ := Lib.hid (BJ.out.trans ((HBK.out.trans (hz.mono HBK.out.size)).mono BJ.out.size))
      have GZ : Hid (∀ W, Below wz.heap.size wz W → ErrT W) := Lib.hid (fun W hW => HGE.out W (BZ.out.trans (hW.mono BZ.out.size)))
      clear hz s1 s1'
      have CI := Lib.hid (code_f7 HUIz.out (GZ.out wz (Below.refl _ _)))
      go_wp2_with fail
      refine CI.out.mono ?_; rintro e wz1 ⟨rfl, hz⟩
      have Z1 := Lib.hid hz
      have WX := Lib.hid (mworked_in (HMXz.out.below hz) 0 (by decide))
      rw [show (startP 1 0 [⟨#[97]⟩] [[]]).wk.getD 0 false = false from rfl] at WX
      clear hz
      go_wp2_with fail
      refine WX.out.mono ?_; rintro e wz2 ⟨rfl, hz⟩
      have Z2 := Lib.hid (Z1.out.trans (hz.mono Z1.out.size))
      have FX : Hid (Calls Tryd.prog 13 #[.pointer (some ⟨mx, 0, none⟩)] wz2 fun e w' => e = .returned (.int .i64 0) ∧ Below wz2.heap.size wz2 w') := Lib.hid (by
        obtain ⟨nb, wb, ib, b, sv, us, Rn, hm, _⟩ := HMXz.out.below Z2.out
        exact mflying_any hm (Nat.zero_le _))
      clear hz
      go_wp2_with fail
      refine FX.out.mono ?_; rintro e wz3 ⟨rfl, hz⟩
      have Z3 := Lib.hid (Z2.out.trans (hz.mono Z2.out.size))
      clear hz
      have NA := Lib.hid (nwork wz3)
      go_wp2_with fail
      refine NA.out.mono ?_; rintro e wz4 ⟨fz, rfl, hf, hz⟩
      have Z4 := Lib.hid (Z3.out.trans (hz.mono Z3.out.size))
      have NC := Lib.hid (code_f7 hf (GZ.out wz4 Z4.out))
      clear hf hz NA
      go_wp2_with fail
      refine NC.out.mono ?_; rintro e wz5 ⟨rfl, hz⟩
      have Z5 := Lib.hid (Z4.out.trans (hz.mono Z4.out.size))
      clear hz NC
      have NA := Lib.hid (ndeliver wz5)
      go_wp2_with fail
      refine NA.out.mono ?_; rintro e wz6 ⟨fz, rfl, hf, hz⟩
      have Z6 := Lib.hid (Z5.out.trans (hz.mono Z5.out.size))
      have NC := Lib.hid (code_f7 hf (GZ.out wz6 Z6.out))
      clear hf hz NA
      go_wp2_with fail
      refine NC.out.mono ?_; rintro e wz7 ⟨rfl, hz⟩
      have Z7 := Lib.hid (Z6.out.trans (hz.mono Z6.out.size))
      clear hz NC
      have NA := Lib.hid (ndouble wz7)
      go_wp2_with fail
      refine NA.out.mono ?_; rintro e wz8 ⟨fz, rfl, hf, hz⟩
      have Z8 := Lib.hid (Z7.out.trans (hz.mono Z7.out.size))
      have NC := Lib.hid (code_f7 hf (GZ.out wz8 Z8.out))
      clear hf hz NA
      go_wp2_with fail
      refine NC.out.mono ?_; rintro e wz9 ⟨rfl, hz⟩
      have Z9 := Lib.hid (Z8.out.trans (hz.mono Z8.out.size))
      clear hz NC
      have NA := Lib.hid (ncrash wz9)
      go_wp2_with fail
      refine NA.out.mono ?_; rintro e wz10 ⟨fz, rfl, hf, hz⟩
      have Z10 := Lib.hid (Z9.out.trans (hz.mono Z9.out.size))
      have NC := Lib.hid (code_f7 hf (GZ.out wz10 Z10.out))
      clear hf hz NA
      go_wp2_with fail
      refine NC.out.mono ?_; rintro e wz11 ⟨rfl, hz⟩
      have Z11 := Lib.hid (Z10.out.trans (hz.mono Z10.out.size))
      clear hz NC
      have NA := Lib.hid (npass wz11)
      go_wp2_with fail
      refine NA.out.mono ?_; rintro e wz12 ⟨fz, rfl, hf, hz⟩
      have Z12 := Lib.hid (Z11.out.trans (hz.mono Z11.out.size))
      have NC := Lib.hid (code_f7 hf (GZ.out wz12 Z12.out))
      clear hf hz NA
      go_wp2_with fail
      refine NC.out.mono ?_; rintro e wz13 ⟨rfl, hz⟩
      have Z13 := Lib.hid (Z12.out.trans (hz.mono Z12.out.size))
      clear hz NC
      have NA := Lib.hid (nfinish wz13)
      go_wp2_with fail
      refine NA.out.mono ?_; rintro e wz14 ⟨fz, rfl, hf, hz⟩
      have Z14 := Lib.hid (Z13.out.trans (hz.mono Z13.out.size))
      have NC := Lib.hid (code_f7 hf (GZ.out wz14 Z14.out))
      clear hf hz NA
      go_wp2_with fail
      refine NC.out.mono ?_; rintro e wz15 ⟨rfl, hz⟩
      have Z15 := Lib.hid (Z14.out.trans (hz.mono Z14.out.size))
      clear hz NC
      have NA := Lib.hid (nround wz15)
      go_wp2_with fail
      refine NA.out.mono ?_; rintro e wy ⟨rfl, hy⟩
      obtain rfl := hy.symm
      clear hy NA
      have NA := Lib.hid (nstates wz15)
      go_wp2_with fail
      refine NA.out.mono ?_; rintro e wy ⟨rfl, hy⟩
      obtain rfl := hy.symm
      clear hy NA
      have NA := Lib.hid (nflying wz15)
      go_wp2_with fail
      refine NA.out.mono ?_; rintro e wy ⟨rfl, hy⟩
      obtain rfl := hy.symm
      clear hy NA
      have NA := Lib.hid (nworked wz15)
      go_wp2_with fail
      refine NA.out.mono ?_; rintro e wz16 ⟨rfl, hz⟩
      have Z16 := Lib.hid (Z15.out.trans (hz.mono Z15.out.size))
      clear hz NA
      go_wp2_with fail
      go_ret
      exact ⟨rfl, BZ.out.trans (Z16.out.mono BZ.out.size)⟩
    · have s1' := HS1.out
      rw [s1] at s1'
      have s2' := HS2.out
      rw [s2] at s2'
      go_wp2_with fail
      refine COJ.out.mono ?_; rintro e wz ⟨rfl, hz⟩
      have HMXz := Lib.hid (HMXz.out.below hz)
      have HUIz := Lib.hid (HUIk.out.below hz (Nat.le_refl _))
      have BZ := Lib.hid (BJ.out.trans ((HBK.out.trans (hz.mono HBK.out.size)).mono BJ.out.size))
      have GZ : Hid (∀ W, Below wz.heap.size wz W → ErrT W) := Lib.hid (fun W hW => HGE.out W (BZ.out.trans (hW.mono BZ.out.size)))
      clear hz s1 s1' s2 s2'
      have CI := Lib.hid (code_f7 HUIz.out (GZ.out wz (Below.refl _ _)))
      go_wp2_with fail
      refine CI.out.mono ?_; rintro e wz1 ⟨rfl, hz⟩
      have Z1 := Lib.hid hz
      have WX := Lib.hid (mworked_in (HMXz.out.below hz) 0 (by decide))
      rw [show (startP 1 0 [⟨#[97]⟩] [[]]).wk.getD 0 false = false from rfl] at WX
      clear hz
      go_wp2_with fail
      refine WX.out.mono ?_; rintro e wz2 ⟨rfl, hz⟩
      have Z2 := Lib.hid (Z1.out.trans (hz.mono Z1.out.size))
      have FX : Hid (Calls Tryd.prog 13 #[.pointer (some ⟨mx, 0, none⟩)] wz2 fun e w' => e = .returned (.int .i64 0) ∧ Below wz2.heap.size wz2 w') := Lib.hid (by
        obtain ⟨nb, wb, ib, b, sv, us, Rn, hm, _⟩ := HMXz.out.below Z2.out
        exact mflying_any hm (Nat.zero_le _))
      clear hz
      go_wp2_with fail
      refine FX.out.mono ?_; rintro e wz3 ⟨rfl, hz⟩
      have Z3 := Lib.hid (Z2.out.trans (hz.mono Z2.out.size))
      clear hz
      have NA := Lib.hid (nwork wz3)
      go_wp2_with fail
      refine NA.out.mono ?_; rintro e wz4 ⟨fz, rfl, hf, hz⟩
      have Z4 := Lib.hid (Z3.out.trans (hz.mono Z3.out.size))
      have NC := Lib.hid (code_f7 hf (GZ.out wz4 Z4.out))
      clear hf hz NA
      go_wp2_with fail
      refine NC.out.mono ?_; rintro e wz5 ⟨rfl, hz⟩
      have Z5 := Lib.hid (Z4.out.trans (hz.mono Z4.out.size))
      clear hz NC
      have NA := Lib.hid (ndeliver wz5)
      go_wp2_with fail
      refine NA.out.mono ?_; rintro e wz6 ⟨fz, rfl, hf, hz⟩
      have Z6 := Lib.hid (Z5.out.trans (hz.mono Z5.out.size))
      have NC := Lib.hid (code_f7 hf (GZ.out wz6 Z6.out))
      clear hf hz NA
      go_wp2_with fail
      refine NC.out.mono ?_; rintro e wz7 ⟨rfl, hz⟩
      have Z7 := Lib.hid (Z6.out.trans (hz.mono Z6.out.size))
      clear hz NC
      have NA := Lib.hid (ndouble wz7)
      go_wp2_with fail
      refine NA.out.mono ?_; rintro e wz8 ⟨fz, rfl, hf, hz⟩
      have Z8 := Lib.hid (Z7.out.trans (hz.mono Z7.out.size))
      have NC := Lib.hid (code_f7 hf (GZ.out wz8 Z8.out))
      clear hf hz NA
      go_wp2_with fail
      refine NC.out.mono ?_; rintro e wz9 ⟨rfl, hz⟩
      have Z9 := Lib.hid (Z8.out.trans (hz.mono Z8.out.size))
      clear hz NC
      have NA := Lib.hid (ncrash wz9)
      go_wp2_with fail
      refine NA.out.mono ?_; rintro e wz10 ⟨fz, rfl, hf, hz⟩
      have Z10 := Lib.hid (Z9.out.trans (hz.mono Z9.out.size))
      have NC := Lib.hid (code_f7 hf (GZ.out wz10 Z10.out))
      clear hf hz NA
      go_wp2_with fail
      refine NC.out.mono ?_; rintro e wz11 ⟨rfl, hz⟩
      have Z11 := Lib.hid (Z10.out.trans (hz.mono Z10.out.size))
      clear hz NC
      have NA := Lib.hid (npass wz11)
      go_wp2_with fail
      refine NA.out.mono ?_; rintro e wz12 ⟨fz, rfl, hf, hz⟩
      have Z12 := Lib.hid (Z11.out.trans (hz.mono Z11.out.size))
      have NC := Lib.hid (code_f7 hf (GZ.out wz12 Z12.out))
      clear hf hz NA
      go_wp2_with fail
      refine NC.out.mono ?_; rintro e wz13 ⟨rfl, hz⟩
      have Z13 := Lib.hid (Z12.out.trans (hz.mono Z12.out.size))
      clear hz NC
      have NA := Lib.hid (nfinish wz13)
      go_wp2_with fail
      refine NA.out.mono ?_; rintro e wz14 ⟨fz, rfl, hf, hz⟩
      have Z14 := Lib.hid (Z13.out.trans (hz.mono Z13.out.size))
      have NC := Lib.hid (code_f7 hf (GZ.out wz14 Z14.out))
      clear hf hz NA
      go_wp2_with fail
      refine NC.out.mono ?_; rintro e wz15 ⟨rfl, hz⟩
      have Z15 := Lib.hid (Z14.out.trans (hz.mono Z14.out.size))
      clear hz NC
      have NA := Lib.hid (nround wz15)
      go_wp2_with fail
      refine NA.out.mono ?_; rintro e wy ⟨rfl, hy⟩
      obtain rfl := hy.symm
      clear hy NA
      have NA := Lib.hid (nstates wz15)
      go_wp2_with fail
      refine NA.out.mono ?_; rintro e wy ⟨rfl, hy⟩
      obtain rfl := hy.symm
      clear hy NA
      have NA := Lib.hid (nflying wz15)
      go_wp2_with fail
      refine NA.out.mono ?_; rintro e wy ⟨rfl, hy⟩
      obtain rfl := hy.symm
      clear hy NA
      have NA := Lib.hid (nworked wz15)
      go_wp2_with fail
      refine NA.out.mono ?_; rintro e wz16 ⟨rfl, hz⟩
      have Z16 := Lib.hid (Z15.out.trans (hz.mono Z15.out.size))
      clear hz NA
      go_wp2_with fail
      go_ret
      exact ⟨rfl, BZ.out.trans (Z16.out.mono BZ.out.size)⟩
  · have s1 : decide (n < 1) = false := decide_eq_false (by omega)
    have s1' : decide ((n : Int) < 1) = false := decide_eq_false (by omega)
    have s2 : decide (64 < n) = false := decide_eq_false (by omega)
    have s2' : decide ((64 : Int) < n) = false := decide_eq_false (by omega)
    have NB := Lib.hid (mnew_good X 35 (.agg #[.slice none 0 0]) _ wh (HX.out wh HBW.out) (by rw [HN.out]; omega) (by rw [HN.out]; omega))
    clear hs
    go_wp2_with fail
    refine NB.out.mono ?_; rintro e wi ⟨my, Ry, rfl, hmy, _, hbi⟩
    have HMY := Lib.hid hmy; have HBI := Lib.hid hbi
    have NN := Lib.hid (mnew_nil Ax n cx wi)
    clear hmy hbi
    go_wp2_with fail
    refine NN.out.mono ?_; rintro e wj ⟨pb, rfl, hpj, hbj⟩
    have HBJ := Lib.hid (HBI.out.trans (hbj.mono HBI.out.size))
    have BJ := Lib.hid (HBW.out.trans (HBJ.out.mono HBW.out.size))
    have GJ : Hid (∀ W, Below wj.heap.size wj W → ErrT W) := Lib.hid (fun W hW => HGE.out W (BJ.out.trans (hW.mono BJ.out.size)))
    have CPJ := Lib.hid (code_f7 hpj (GJ.out wj (Below.refl _ _)))
    have HMYJ := Lib.hid (HMY.out.below hbj)
    clear hpj hbj
    go_wp2_with fail
    refine CPJ.out.mono ?_; rintro e wk ⟨rfl, hbk⟩
    have HBK := Lib.hid hbk
    have COJ := Lib.hid (code_nil wk)
    have HMXk := Lib.hid ((HMXH.out.below HBJ.out).below hbk)
    have HUIk : Hid (FaultAt 3 0 wk (.iface 69 (.pointer (some ⟨fi, 0, none⟩)))) := Lib.hid ((HUI.out.below HBJ.out (Nat.le_refl _)).below hbk (Nat.le_refl _))
    have SY : Hid (Calls Tryd.prog 20 #[.pointer (some ⟨my, 0, none⟩)] wk fun e w' => ∃ A c, e = .returned (.slice A n c) ∧ Below wk.heap.size wk w') := Lib.hid (by
      obtain ⟨nb, wb, ib, b, sv, us, Rn, hm, _⟩ := HMYJ.out.below hbk
      refine (mstates_any hm).mono ?_
      rintro e w' ⟨v', rfl, ho, hb⟩
      obtain ⟨A, c, rfl⟩ := own_form ho
      exact ⟨A, c, by rw [show (startP X.length 0 X (List.replicate X.length [])).k = n from HN.out], hb⟩)
    clear hbk
    go_wp2_with fail
    refine COJ.out.mono ?_; rintro e wk2 ⟨rfl, hk2⟩
    obtain rfl := hk2
    go_wp2_with fail
    refine SY.out.mono ?_; rintro e wz ⟨Az, cz, rfl, hz⟩
    have HMXz := Lib.hid (HMXk.out.below hz)
    have HUIz := Lib.hid (HUIk.out.below hz (Nat.le_refl _))
    have BZ := Lib.hid (BJ.out.trans ((HBK.out.trans (hz.mono HBK.out.size)).mono BJ.out.size))
    have GZ : Hid (∀ W, Below wz.heap.size wz W → ErrT W) := Lib.hid (fun W hW => HGE.out W (BZ.out.trans (hW.mono BZ.out.size)))
    clear hz s1 s1' s2 s2'
    have CI := Lib.hid (code_f7 HUIz.out (GZ.out wz (Below.refl _ _)))
    go_wp2_with fail
    refine CI.out.mono ?_; rintro e wz1 ⟨rfl, hz⟩
    have Z1 := Lib.hid hz
    have WX := Lib.hid (mworked_in (HMXz.out.below hz) 0 (by decide))
    rw [show (startP 1 0 [⟨#[97]⟩] [[]]).wk.getD 0 false = false from rfl] at WX
    clear hz
    go_wp2_with fail
    refine WX.out.mono ?_; rintro e wz2 ⟨rfl, hz⟩
    have Z2 := Lib.hid (Z1.out.trans (hz.mono Z1.out.size))
    have FX : Hid (Calls Tryd.prog 13 #[.pointer (some ⟨mx, 0, none⟩)] wz2 fun e w' => e = .returned (.int .i64 0) ∧ Below wz2.heap.size wz2 w') := Lib.hid (by
      obtain ⟨nb, wb, ib, b, sv, us, Rn, hm, _⟩ := HMXz.out.below Z2.out
      exact mflying_any hm (Nat.zero_le _))
    clear hz
    go_wp2_with fail
    refine FX.out.mono ?_; rintro e wz3 ⟨rfl, hz⟩
    have Z3 := Lib.hid (Z2.out.trans (hz.mono Z2.out.size))
    clear hz
    have NA := Lib.hid (nwork wz3)
    go_wp2_with fail
    refine NA.out.mono ?_; rintro e wz4 ⟨fz, rfl, hf, hz⟩
    have Z4 := Lib.hid (Z3.out.trans (hz.mono Z3.out.size))
    have NC := Lib.hid (code_f7 hf (GZ.out wz4 Z4.out))
    clear hf hz NA
    go_wp2_with fail
    refine NC.out.mono ?_; rintro e wz5 ⟨rfl, hz⟩
    have Z5 := Lib.hid (Z4.out.trans (hz.mono Z4.out.size))
    clear hz NC
    have NA := Lib.hid (ndeliver wz5)
    go_wp2_with fail
    refine NA.out.mono ?_; rintro e wz6 ⟨fz, rfl, hf, hz⟩
    have Z6 := Lib.hid (Z5.out.trans (hz.mono Z5.out.size))
    have NC := Lib.hid (code_f7 hf (GZ.out wz6 Z6.out))
    clear hf hz NA
    go_wp2_with fail
    refine NC.out.mono ?_; rintro e wz7 ⟨rfl, hz⟩
    have Z7 := Lib.hid (Z6.out.trans (hz.mono Z6.out.size))
    clear hz NC
    have NA := Lib.hid (ndouble wz7)
    go_wp2_with fail
    refine NA.out.mono ?_; rintro e wz8 ⟨fz, rfl, hf, hz⟩
    have Z8 := Lib.hid (Z7.out.trans (hz.mono Z7.out.size))
    have NC := Lib.hid (code_f7 hf (GZ.out wz8 Z8.out))
    clear hf hz NA
    go_wp2_with fail
    refine NC.out.mono ?_; rintro e wz9 ⟨rfl, hz⟩
    have Z9 := Lib.hid (Z8.out.trans (hz.mono Z8.out.size))
    clear hz NC
    have NA := Lib.hid (ncrash wz9)
    go_wp2_with fail
    refine NA.out.mono ?_; rintro e wz10 ⟨fz, rfl, hf, hz⟩
    have Z10 := Lib.hid (Z9.out.trans (hz.mono Z9.out.size))
    have NC := Lib.hid (code_f7 hf (GZ.out wz10 Z10.out))
    clear hf hz NA
    go_wp2_with fail
    refine NC.out.mono ?_; rintro e wz11 ⟨rfl, hz⟩
    have Z11 := Lib.hid (Z10.out.trans (hz.mono Z10.out.size))
    clear hz NC
    have NA := Lib.hid (npass wz11)
    go_wp2_with fail
    refine NA.out.mono ?_; rintro e wz12 ⟨fz, rfl, hf, hz⟩
    have Z12 := Lib.hid (Z11.out.trans (hz.mono Z11.out.size))
    have NC := Lib.hid (code_f7 hf (GZ.out wz12 Z12.out))
    clear hf hz NA
    go_wp2_with fail
    refine NC.out.mono ?_; rintro e wz13 ⟨rfl, hz⟩
    have Z13 := Lib.hid (Z12.out.trans (hz.mono Z12.out.size))
    clear hz NC
    have NA := Lib.hid (nfinish wz13)
    go_wp2_with fail
    refine NA.out.mono ?_; rintro e wz14 ⟨fz, rfl, hf, hz⟩
    have Z14 := Lib.hid (Z13.out.trans (hz.mono Z13.out.size))
    have NC := Lib.hid (code_f7 hf (GZ.out wz14 Z14.out))
    clear hf hz NA
    go_wp2_with fail
    refine NC.out.mono ?_; rintro e wz15 ⟨rfl, hz⟩
    have Z15 := Lib.hid (Z14.out.trans (hz.mono Z14.out.size))
    clear hz NC
    have NA := Lib.hid (nround wz15)
    go_wp2_with fail
    refine NA.out.mono ?_; rintro e wy ⟨rfl, hy⟩
    obtain rfl := hy.symm
    clear hy NA
    have NA := Lib.hid (nstates wz15)
    go_wp2_with fail
    refine NA.out.mono ?_; rintro e wy ⟨rfl, hy⟩
    obtain rfl := hy.symm
    clear hy NA
    have NA := Lib.hid (nflying wz15)
    go_wp2_with fail
    refine NA.out.mono ?_; rintro e wy ⟨rfl, hy⟩
    obtain rfl := hy.symm
    clear hy NA
    have NA := Lib.hid (nworked wz15)
    go_wp2_with fail
    refine NA.out.mono ?_; rintro e wz16 ⟨rfl, hz⟩
    have Z16 := Lib.hid (Z15.out.trans (hz.mono Z15.out.size))
    clear hz NA
    go_wp2_with fail
    go_ret
    exact ⟨rfl, BZ.out.trans (Z16.out.mono BZ.out.size)⟩
end Go.Proofs.YtlopoddllfkkfaaDoor
