/- law 19: a call. -/
import Derived.Test.YtbecgfeoacncdaaDoorStep19
namespace Go.Proofs.YtbecgfeoacncdaaDoor
open Go.RowKit

theorem ErrAs.nil {w : World} {c : Int} {u : Value} (h : ErrAs c w u) (hc : c = 0) : u = .nilIface := by
  rcases h with ⟨_, h⟩ | ⟨h, _⟩
  · exact h
  · exact absurd hc h
theorem ErrAs.form {w : World} {c : Int} {u : Value} (h : ErrAs c w u) : u = .nilIface ∨ ∃ b, u = .iface 58 (.pointer (some ⟨b, 0, none⟩)) := by
  rcases h with ⟨_, h⟩ | ⟨_, b, s, h, _⟩
  · exact Or.inl h
  · exact Or.inr ⟨b, h⟩
theorem code_as {c : Int} {w : World} {u : Value} (h : ErrAs c w u) (hg : ErrT w) : Calls Tryd.prog 11 #[u] w fun e w' => e = .returned (.int .i64 c) ∧ Below w.heap.size w w' := by
  rcases h with ⟨rfl, rfl⟩ | ⟨_, h⟩
  · refine (code_nil w).mono ?_
    rintro e w' ⟨rfl, rfl⟩
    exact ⟨rfl, Below.refl _ _⟩
  · exact code_f7 h hg
theorem Left.go {w w' : World} {base N M : Nat} {n n' : NetP} {b mb cb : Nat} {v : Value} {F G : Value → Option Value} (hl : Left w base M n' b mb cb v w') (h : NetIn w base N n b mb cb v F G) (hb : base ≤ w.heap.size) : Below base w w' := by
  obtain ⟨_, _, _, _, hf, _⟩ := hl
  exact hf.below hb fun k hk => (h.foot hk).1
theorem Left.after {w w' w2 : World} {base N : Nat} {n : NetP} {b mb cb : Nat} {v : Value} (hl : Left w base N n b mb cb v w') (hb : Below w'.heap.size w' w2) : Left w base N n b mb cb v w2 := by
  obtain ⟨v', F, G, hz, hf, hv⟩ := hl
  exact ⟨v', F, G, hz.below hb (Nat.le_refl _), hf.trans (Fr.of_below hb hf.size), hv⟩
theorem Left.before {w0 w w' : World} {base N : Nat} {n : NetP} {b mb cb : Nat} {v : Value} (hl : Left w base N n b mb cb v w') (hb : Below w0.heap.size w0 w) : Left w0 base N n b mb cb v w' := by
  obtain ⟨v', F, G, hz, hf, hv⟩ := hl
  refine ⟨v', F, G, hz, (Fr.of_below hb (Nat.le_refl _)).trans (hf.less hb.size), ?_⟩
  rcases hv with e | ⟨g, e, hg⟩
  · exact Or.inl e
  · exact Or.inr ⟨g, e, Nat.le_trans hb.size hg⟩
set_option maxRecDepth 100000 in
set_option maxHeartbeats 4000000 in
theorem do_any {w : World} {base N M : Nat} {n : NetP} {b mb cb : Nat} {v : Value} {F G : Value → Option Value} (h : NetIn w base N n b mb cb v F G) (g : Good n M) (hM : M ≤ 1000) (hN : N ≤ 1000) (hbase : base ≤ w.heap.size) (hg : ∀ W, Below base w W → ErrT W) (kind a c : Int) (x : ByteArray) :
    Calls Tryd.prog 13 #[.pointer (some ⟨b, 0, none⟩), .agg #[.int .i64 kind, .int .i64 a, .int .i64 c, .string x]] w fun e w' => e = .returned (.int .i64 (stepP n kind a c x).2) ∧ Left w base (N + 1) (stepP n kind a c x).1 b mb cb v w' := by
  have hb0 : Below w.heap.size w (w.alloc (.cells #[.int .i64 kind, .int .i64 a, .int .i64 c, .string x] 37)) := (Below.refl _ _).alloc (Nat.le_refl _) _
  have h0 := h.below hb0 (Nat.le_refl _)
  have hbase0 : base ≤ (w.alloc (.cells #[.int .i64 kind, .int .i64 a, .int .i64 c, .string x] 37)).heap.size := Nat.le_trans hbase hb0.size
  have HB0 := Lib.hid hb0; have H0 := Lib.hid h0; have HG := Lib.hid hg; have HBS := Lib.hid hbase; have HBS0 := Lib.hid hbase0
  by_cases k0 : kind = 0
  · subst k0
    have HS := Lib.hid (send_step h0 g hM hN a c x)
    clear h hb0 h0 hbase0 hg hbase g
    go_enter Tryd.func13, Tryd.ntmps13
    go_wp2_with fail
    refine HS.out.mono ?_; rintro e w1 ⟨u, rfl, he, hl⟩
    have hbb := HB0.out.mono HBS.out
    have CA := Lib.hid (code_as he (HG.out _ (hbb.trans (hl.go H0.out HBS0.out))))
    have HL := Lib.hid hl
    rcases he.form with rfl | ⟨fb, rfl⟩
    all_goals
      clear he hl hbb
      go_wp2_with fail
      refine CA.out.mono ?_; rintro e w2 ⟨rfl, hb2⟩
      have HL2 := Lib.hid ((HL.out.after hb2).before HB0.out)
      clear hb2
      go_wp2_with fail
      go_ret
      exact ⟨rfl, HL2.out⟩
  · have t0 : decide (kind = 0) = false := decide_eq_false k0
    have t0' : (kind == 0) = false := by simpa using k0
    by_cases k1 : kind = 1
    · subst k1
      have HS := Lib.hid (double_step h0 g hM a c x)
      clear h hb0 h0 hbase0 hg hbase g
      go_enter Tryd.func13, Tryd.ntmps13
      go_wp2_with fail
      refine HS.out.mono ?_; rintro e w1 ⟨u, rfl, he, hl⟩
      have hbb := HB0.out.mono HBS.out
      have CA := Lib.hid (code_as he (HG.out _ (hbb.trans (hl.go H0.out HBS0.out))))
      have HL := Lib.hid hl
      rcases he.form with rfl | ⟨fb, rfl⟩
      all_goals
        clear he hl hbb
        go_wp2_with fail
        refine CA.out.mono ?_; rintro e w2 ⟨rfl, hb2⟩
        have HL2 := Lib.hid ((HL.out.after hb2).before HB0.out)
        clear hb2
        go_wp2_with fail
        go_ret
        exact ⟨rfl, HL2.out⟩
    · have t1 : decide (kind = 1) = false := decide_eq_false k1
      have t1' : (kind == 1) = false := by simpa using k1
      have HS := Lib.hid (deliver_step h0 g hM hN kind a c x k0 k1)
      clear h hb0 h0 hbase0 hg hbase g
      go_enter Tryd.func13, Tryd.ntmps13
      go_wp2_with fail
      refine HS.out.mono ?_; rintro e w1 ⟨u, rfl, he, hl⟩
      have hbb := HB0.out.mono HBS.out
      have CA := Lib.hid (code_as he (HG.out _ (hbb.trans (hl.go H0.out HBS0.out))))
      have HL := Lib.hid hl
      rcases he.form with rfl | ⟨fb, rfl⟩
      all_goals
        clear he hl hbb
        go_wp2_with fail
        refine CA.out.mono ?_; rintro e w2 ⟨rfl, hb2⟩
        have HL2 := Lib.hid ((HL.out.after hb2).before HB0.out)
        clear hb2
        go_wp2_with fail
        go_ret
        exact ⟨rfl, HL2.out⟩
end Go.Proofs.YtbecgfeoacncdaaDoor
