/- NumsRules: the row proved, and its card. -/
import Derived.Test.YtdfackmaimmapaaDoorRulesLaw
import Derived.Test.YtdfackmaimmapaaDoorLaid
namespace Go.Proofs.YtdfackmaimmapaaDoor.lawNumsRules
open Go.ChangeShapes Go.WideShapes Go.RowKit

set_option maxRecDepth 100000 in
theorem lifted (os : Os) (started : os.Started) (H : Type) (enc : TypeId × Value → H) :
    ReturnsInHanded {} Tryd.checked os 6 .any (fun w args => (Rows.numsRulesSpec.pre enc Tryd.prog Tryd.f6 [] false w args ∧ laidMetH Tryd.prog Rows.numsRulesRow.laid w) ∧ sizedMet enc Tryd.prog Tryd.f6 (OpenSpec.ofChange Rows.numsRulesSpec) false w args)
      (Rows.numsRulesSpec.post enc Tryd.prog Tryd.f6 false true false false) := by
  refine returnsInHanded_of_change_and (C := Tryd.checked) (X := fun w _ => laidMetH Tryd.prog Rows.numsRulesRow.laid w) (fun _ _ _ hh h => h.of_heap hh) Tryd.own started (by kernel_rfl) Tryd.func6
    (ChangeSpec.witness_at (enc := enc) (C := Tryd.checked) (os := os) (X := fun w _ => laidMetH Tryd.prog Rows.numsRulesRow.laid w) false (laidWorld os) #[.int .u8 0, .int .u8 0, .int .i8 0, .int .u8 0, .int .u8 0] 8 rfl (by kernel_rfl) (by kernel_rfl) (by kernel_rfl) (by kernel_rfl) (by kernel_rfl) (laidWorld_met os _)) ?_
  intro W base args ds gs before hval0 hW _ _ hL hsz
  have hval : ∀ (j : Nat) t v, Tryd.f6.params[j]? = some t → args[j]? = some v → Value.okWide Tryd.prog W .any base t v := hval0
  have hW' := hW
  obtain ⟨p, q, hA0, hV0, rfl, hfz, hnd⟩ := hW
  have hA : DataW.TrodAll enc Tryd.prog W 0 (fun _ => true) true Tryd.f6.params.toList args.toList ds p := hA0
  have hV : DataW.TrodVars enc Tryd.prog W (fun _ => true) [] gs q := hV0
  rw [Tryd.params6] at hA hval
  obtain ⟨v0, vs0, d0, ds0, pl0, ql0, hargs, rfl, rfl, h0, r0⟩ := trodAll_cons hA
  obtain ⟨v1, vs1, d1, ds1, pl1, ql1, rfl, rfl, rfl, h1, r1⟩ := trodAll_cons r0
  obtain ⟨v2, vs2, d2, ds2, pl2, ql2, rfl, rfl, rfl, h2, r2⟩ := trodAll_cons r1
  obtain ⟨v3, vs3, d3, ds3, pl3, ql3, rfl, rfl, rfl, h3, r3⟩ := trodAll_cons r2
  obtain ⟨v4, vs4, d4, ds4, pl4, ql4, rfl, rfl, rfl, h4, r4⟩ := trodAll_cons r3
  obtain ⟨rfl, rfl, rfl⟩ := trodAll_nil r4
  obtain rfl : args = #[v0, v1, v2, v3, v4] := by cases args; simp_all
  have hg := errT_of_laid hL
  obtain ⟨rfl, rfl⟩ : gs = [] ∧ q = [] := by
    cases gs with
    | nil => exact ⟨rfl, hV⟩
    | cons g r => exact absurd hV (by intro h; cases h)
  clear hA0 hV0 hA hV hL
  obtain ⟨n, rfl, rfl, rfl, w_n⟩ := open_int Tryd.underlying5 (hval 0 5 v0 rfl rfl) h0
  have b_n := bounds_u8 w_n
  obtain ⟨lo_n, hi_n⟩ := b_n
  obtain ⟨k, rfl, rfl, rfl, w_k⟩ := open_int Tryd.underlying5 (hval 1 5 v1 rfl rfl) h1
  have b_k := bounds_u8 w_k
  obtain ⟨lo_k, hi_k⟩ := b_k
  obtain ⟨a, rfl, rfl, rfl, w_a⟩ := open_int Tryd.underlying44 (hval 2 44 v2 rfl rfl) h2
  have b_a := bounds_i8 w_a
  obtain ⟨lo_a, hi_a⟩ := b_a
  obtain ⟨p1, rfl, rfl, rfl, w_p1⟩ := open_int Tryd.underlying5 (hval 3 5 v3 rfl rfl) h3
  have b_p1 := bounds_u8 w_p1
  obtain ⟨lo_p1, hi_p1⟩ := b_p1
  obtain ⟨q1, rfl, rfl, rfl, w_q1⟩ := open_int Tryd.underlying5 (hval 4 5 v4 rfl rfl) h4
  have b_q1 := bounds_u8 w_q1
  obtain ⟨lo_q1, hi_q1⟩ := b_q1
  have e1 : Rows.numsRulesSpec.fn H ([.lit (.int .u8 n), .lit (.int .u8 k), .lit (.int .i8 a), .lit (.int .u8 p1), .lit (.int .u8 q1)] ++ []) = { results := [.lit (.bool true)], args := [.lit (.int .u8 n), .lit (.int .u8 k), .lit (.int .i8 a), .lit (.int .u8 p1), .lit (.int .u8 q1)] } := by simp [Rows.numsRulesSpec]
  refine (rules_law n k a p1 q1 W hg lo_n hi_n lo_k hi_k lo_a hi_a lo_p1 hi_p1 lo_q1 hi_q1).mono fun e W' ⟨he, hw⟩ => ?_
  subst he
  refine ⟨_, rfl, _, _, _, [], [], [], hW', ?_, ?_, ?_, hw.frame _, fun h => by cases h⟩
  · rw [e1]; exact trodAll_mk1 (shut_bool Tryd.underlying4 true)
  · rw [e1]; exact trodAll_cons_mk (shut_int Tryd.underlying5 w_n) (trodAll_cons_mk (shut_int Tryd.underlying5 w_k) (trodAll_cons_mk (shut_int Tryd.underlying44 w_a) (trodAll_cons_mk (shut_int Tryd.underlying5 w_p1) (trodAll_cons_mk (shut_int Tryd.underlying5 w_q1) trodAll_mk0))))
  · rw [e1]; rfl

theorem holds : Rows.NumsRulesSaid :=
  OpenClaim.holds_of_wide 6 Tryd.f6 rfl rfl rfl rfl rfl rfl rfl ⟨rfl, rfl, rfl, rfl, rfl⟩ rfl rfl rfl rfl rfl (by kernel_rfl) Tryd.func6 (by kernel_rfl)
    (of_decide_eq_true (by kernel_rfl)) (by unfold Func.isWrapper; rw [if_neg (of_decide_eq_false (by kernel_rfl))]; exact ⟨rfl, rfl⟩)
    (fun os started H enc _ => lifted os started H enc)

theorem card : Rows.NumsRulesCardSaid :=
  Claim7.holds_tied_plain_at .later [] _ _ _ _ holds (fun _ h => by cases h) (by kernel_rfl) (fun _ h => by cases h) numsRules_row_tie rfl ⟨rfl, rfl⟩ (by kernel_rfl) rfl
    (fun f fn hf hfn => by
      obtain rfl : f = 6 := Option.some.inj ((show Tryd.prog.funcNamed "fretwork/fretworklaw02.NumsRules" = some 6 by kernel_rfl).symm.trans hf) |>.symm
      obtain rfl : fn = Tryd.f6 := (Option.some.inj (Tryd.func6.symm.trans hfn)).symm
      exact ⟨by kernel_rfl, fun j t ht => by
        rw [Tryd.params6] at ht
        have hm := Array.mem_of_getElem? ht
        simp only [List.mem_toArray, List.mem_cons, List.not_mem_nil, or_false] at hm
        rcases hm with rfl | rfl | rfl | rfl | rfl
        · exact (show Tryd.prog.wantsStandIn 5 = false by kernel_rfl)
        · exact (show Tryd.prog.wantsStandIn 5 = false by kernel_rfl)
        · exact (show Tryd.prog.wantsStandIn 44 = false by kernel_rfl)
        · exact (show Tryd.prog.wantsStandIn 5 = false by kernel_rfl)
        · exact (show Tryd.prog.wantsStandIn 5 = false by kernel_rfl)⟩)
    (by kernel_rfl)
end Go.Proofs.YtdfackmaimmapaaDoor.lawNumsRules
