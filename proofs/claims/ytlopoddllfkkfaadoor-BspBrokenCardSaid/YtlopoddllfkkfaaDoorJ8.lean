/- net: each call in one form. law 19: a call. net: what no net answers; Next. net: Clone. -/
import Derived.Test.YtlopoddllfkkfaaDoorInbox
import Derived.Deep.RegionHeld3
import Derived.Deep.DeepCutAuto
namespace Go.Proofs.YtlopoddllfkkfaaDoor
section
open Go.RowKit

/-- An error of a code. -/
def ErrAs (c : Int) (w : World) (u : Value) : Prop := (c = 0 ∧ u = .nilIface) ∨ (c ≠ 0 ∧ FaultAt c 0 w u)
/-- A net whose numbers are small. -/
structure Good (n : NetP) (M : Nat) : Prop where
  k : n.k ≤ 64
  fl : n.fly.length ≤ M
  sn : ∀ a c, n.sent a c ≤ M
  m1 : -(M : Int) ≤ n.miss
  m2 : n.miss ≤ M
  l64 : ∀ l ∈ n.fly, In64 l.f ∧ In64 l.t ∧ In64 l.s
theorem Good.mono {n : NetP} {M M' : Nat} (h : Good n M) (hM : M ≤ M') : Good n M' :=
  ⟨h.k, Nat.le_trans h.fl hM, fun a c => Nat.le_trans (h.sn a c) hM, by have := h.m1; omega, by have := h.m2; omega, h.l64⟩
theorem Good.fresh {k : Nat} (hk : k ≤ 64) : Good (freshP k) 0 := ⟨hk, Nat.le_refl _, fun _ _ => Nat.le_refl _, by simp [freshP], by simp [freshP], fun l hl => by simp [freshP] at hl⟩
/-- What a call makes of a net, and its error: 0 send, 1 double, else deliver. -/
def stepP (n : NetP) (kind a c : Int) (x : ByteArray) : NetP × Int :=
  if kind = 0 then (if (hasB n.k a && hasB n.k c) = true then (sendP n a c x, 0) else (n, 3))
  else if h : 0 ≤ a ∧ a < n.fly.length then
    (if kind = 1 then (dupP n (n.fly[a.toNat]'(by omega)), 0) else (cameP (dropP n a.toNat) (n.fly[a.toNat]'(by omega)), 0))
  else (n, 3)
theorem Good.send {n : NetP} {M : Nat} (h : Good n M) (hM : M ≤ 1000) {a c : Int} (x : ByteArray) (ha : hasB n.k a = true) (hc : hasB n.k c = true) : Good (sendP n a c x) (M + 1) := by
  refine ⟨h.k, ?_, fun p q => ?_, ?_, ?_, fun l hl => ?_⟩
  · show (n.fly ++ [_]).length ≤ _
    rw [List.length_append]
    have := h.fl
    simp
    omega
  · show (if p = a ∧ q = c then n.sent a c + 1 else n.sent p q) ≤ _
    have h1 := h.sn a c
    have h2 := h.sn p q
    split <;> omega
  · show _ ≤ n.miss + 1
    have := h.m1
    omega
  · show n.miss + 1 ≤ _
    have := h.m2
    omega
  · have hl' : l ∈ n.fly ++ [⟨a, c, n.sent a c, x⟩] := hl
    rcases List.mem_append.1 hl' with h1 | h1
    · exact h.l64 l h1
    · rw [List.mem_singleton] at h1
      subst h1
      have h2 := h.sn a c
      exact ⟨(hasB_in h.k ha).1, (hasB_in h.k hc).1, by show In64 ((n.sent a c : Nat) : Int); unfold In64; omega⟩
theorem Good.dup {n : NetP} {M : Nat} (h : Good n M) {l : Let} (hl : l ∈ n.fly) : Good (dupP n l) (M + 1) := by
  refine ⟨h.k, ?_, fun p q => Nat.le_succ_of_le (h.sn p q), ?_, ?_, fun q hq => ?_⟩
  · show (n.fly ++ [_]).length ≤ _
    rw [List.length_append]
    have := h.fl
    simp
    omega
  · show _ ≤ n.miss
    have := h.m1
    omega
  · show n.miss ≤ _
    have := h.m2
    omega
  · have hq' : q ∈ n.fly ++ [l] := hq
    rcases List.mem_append.1 hq' with h1 | h1
    · exact h.l64 q h1
    · rw [List.mem_singleton] at h1
      subst h1
      exact h.l64 _ hl
theorem Good.drop {n : NetP} {M : Nat} (h : Good n M) (i : Nat) : Good (dropP n i) M := by
  refine ⟨h.k, ?_, h.sn, h.m1, h.m2, fun q hq => ?_⟩
  · show (n.fly.take i ++ n.fly.drop (i + 1)).length ≤ _
    rw [List.length_append, List.length_take, List.length_drop]
    have := h.fl
    omega
  · have hq' : q ∈ n.fly.take i ++ n.fly.drop (i + 1) := hq
    rcases List.mem_append.1 hq' with h1 | h1
    · exact h.l64 q (List.mem_of_mem_take h1)
    · exact h.l64 q (List.mem_of_mem_drop h1)
theorem Good.come {n : NetP} {M : Nat} (h : Good n M) (l : Let) : Good (cameP n l) (M + 1) := by
  unfold cameP
  split
  · exact h.mono (Nat.le_succ _)
  · refine ⟨h.k, Nat.le_succ_of_le h.fl, fun p q => Nat.le_succ_of_le (h.sn p q), ?_, ?_, h.l64⟩
    · show _ ≤ n.miss - 1
      have := h.m1
      omega
    · show n.miss - 1 ≤ _
      have := h.m2
      omega
theorem Good.step {n : NetP} {M : Nat} (h : Good n M) (hM : M ≤ 1000) (kind a c : Int) (x : ByteArray) : Good (stepP n kind a c x).1 (M + 1) := by
  unfold stepP
  split
  · split
    · rename_i hh
      rw [Bool.and_eq_true] at hh
      exact h.send hM x hh.1 hh.2
    · exact h.mono (Nat.le_succ _)
  · split
    · split
      · exact h.dup (List.getElem_mem _)
      · exact (h.drop _).come _
    · exact h.mono (Nat.le_succ _)
theorem Left.of_below {w w' : World} {base N : Nat} {n : NetP} {b mb cb : Nat} {v : Value} {F G : Value → Option Value} (h : NetIn w base N n b mb cb v F G) (hb : Below w.heap.size w w') : Left w base (N + 1) n b mb cb v w' := by
  have hz := h.below hb (Nat.le_refl _)
  exact ⟨v, F, G, { hz with sent := hz.sent.mono (Nat.le_succ _), came := hz.came.mono (Nat.le_succ _) }, Fr.of_below hb (Nat.le_refl _), Or.inl rfl⟩
theorem Left.mono {w w' : World} {base N M : Nat} {n : NetP} {b mb cb : Nat} {v : Value} (h : Left w base N n b mb cb v w') (hM : N ≤ M) : Left w base M n b mb cb v w' := by
  obtain ⟨v', F', G', hz, h2⟩ := h
  exact ⟨v', F', G', { hz with sent := hz.sent.mono hM, came := hz.came.mono hM }, h2⟩
/-- What a call tells. -/
def StepTo (w : World) (base N : Nat) (r : NetP × Int) (b mb cb : Nat) (v : Value) (e : Ending) (w' : World) : Prop :=
  ∃ u, e = .returned u ∧ ErrAs r.2 w' u ∧ Left w base (N + 1) r.1 b mb cb v w'
theorem send_step {w : World} {base N M : Nat} {n : NetP} {b mb cb : Nat} {v : Value} {F G : Value → Option Value} (h : NetIn w base N n b mb cb v F G) (g : Good n M) (hM : M ≤ 1000) (hN : N ≤ 1000) (a c : Int) (x : ByteArray) :
    Calls Tryd.prog 33 #[.pointer (some ⟨b, 0, none⟩), .int .i64 a, .int .i64 c, .string x] w (StepTo w base N (stepP n 0 a c x) b mb cb v) := by
  unfold stepP
  rw [if_pos rfl]
  by_cases hh : (hasB n.k a && hasB n.k c) = true
  · rw [if_pos hh]
    rw [Bool.and_eq_true] at hh
    have h1 := g.fl
    have h2 := g.sn a c
    have h3 := g.m1
    have h4 := g.m2
    refine (send_good h a c x g.k hh.1 hh.2 (by omega) (by omega) (by omega) (by omega) (by omega)).mono ?_
    rintro e w' ⟨rfl, hl⟩
    exact ⟨_, rfl, Or.inl ⟨rfl, rfl⟩, hl⟩
  · rw [if_neg hh]
    refine (send_bad h a c x (by simpa using hh)).mono ?_
    rintro e w' ⟨⟨u, rfl, hu⟩, hb⟩
    exact ⟨_, rfl, Or.inr ⟨(by decide : (3 : Int) ≠ 0), hu⟩, Left.of_below h hb⟩
theorem double_step {w : World} {base N M : Nat} {n : NetP} {b mb cb : Nat} {v : Value} {F G : Value → Option Value} (h : NetIn w base N n b mb cb v F G) (g : Good n M) (hM : M ≤ 1000) (a c : Int) (x : ByteArray) :
    Calls Tryd.prog 36 #[.pointer (some ⟨b, 0, none⟩), .int .i64 a] w (StepTo w base N (stepP n 1 a c x) b mb cb v) := by
  unfold stepP
  rw [if_neg (by decide)]
  have h1 := g.fl
  by_cases hh : 0 ≤ a ∧ a < n.fly.length
  · rw [dif_pos hh, if_pos rfl]
    have hd := double_good h a.toNat (by omega) (by omega)
    rw [show ((a.toNat : Nat) : Int) = a from Int.toNat_of_nonneg hh.1] at hd
    refine hd.mono ?_
    rintro e w' ⟨rfl, hl⟩
    exact ⟨_, rfl, Or.inl ⟨rfl, rfl⟩, hl.mono (Nat.le_succ _)⟩
  · rw [dif_neg hh]
    refine (double_bad ⟨b, mb, cb, v, F, G, rfl, h⟩ a (if_neg hh)).mono ?_
    rintro e w' ⟨⟨u, rfl, hu⟩, hb⟩
    exact ⟨_, rfl, Or.inr ⟨(by decide : (3 : Int) ≠ 0), hu⟩, Left.of_below h hb⟩
theorem deliver_step {w : World} {base N M : Nat} {n : NetP} {b mb cb : Nat} {v : Value} {F G : Value → Option Value} (h : NetIn w base N n b mb cb v F G) (g : Good n M) (hM : M ≤ 1000) (hN : N ≤ 1000) (kind a c : Int) (x : ByteArray) (hk0 : kind ≠ 0) (hk1 : kind ≠ 1) :
    Calls Tryd.prog 35 #[.pointer (some ⟨b, 0, none⟩), .int .i64 a] w (StepTo w base N (stepP n kind a c x) b mb cb v) := by
  unfold stepP
  rw [if_neg hk0]
  have h1 := g.fl
  have h3 := g.m1
  have h4 := g.m2
  by_cases hh : 0 ≤ a ∧ a < n.fly.length
  · rw [dif_pos hh, if_neg hk1]
    have hl := g.l64 _ (List.getElem_mem (show a.toNat < n.fly.length by omega))
    by_cases h0 : a.toNat = 0
    · have ha : a = 0 := by omega
      subst ha
      refine (deliver_zero h (show 0 < n.fly.length by omega) (by omega) (by omega) (by omega) (by omega) _ rfl hl.1 hl.2.1 hl.2.2).mono ?_
      rintro e w' ⟨rfl, hl⟩
      exact ⟨_, rfl, Or.inl ⟨rfl, rfl⟩, hl⟩
    · have hd := deliver_pos h a.toNat h0 (by omega) (by omega) (by omega) (by omega) (by omega) _ rfl hl.1 hl.2.1 hl.2.2
      rw [show ((a.toNat : Nat) : Int) = a from Int.toNat_of_nonneg hh.1] at hd
      refine hd.mono ?_
      rintro e w' ⟨rfl, hl⟩
      exact ⟨_, rfl, Or.inl ⟨rfl, rfl⟩, hl⟩
  · rw [dif_neg hh]
    refine (deliver_bad ⟨b, mb, cb, v, F, G, rfl, h⟩ a (if_neg hh)).mono ?_
    rintro e w' ⟨⟨u, rfl, hu⟩, hb⟩
    exact ⟨_, rfl, Or.inr ⟨(by decide : (3 : Int) ≠ 0), hu⟩, Left.of_below h hb⟩
end

section
open Go.RowKit

theorem ErrAs.nil {w : World} {c : Int} {u : Value} (h : ErrAs c w u) (hc : c = 0) : u = .nilIface := by
  rcases h with ⟨_, h⟩ | ⟨h, _⟩
  · exact h
  · exact absurd hc h
theorem ErrAs.form {w : World} {c : Int} {u : Value} (h : ErrAs c w u) : u = .nilIface ∨ ∃ b, u = .iface 69 (.pointer (some ⟨b, 0, none⟩)) := by
  rcases h with ⟨_, h⟩ | ⟨_, b, s, h, _⟩
  · exact Or.inl h
  · exact Or.inr ⟨b, h⟩
theorem code_as {c : Int} {w : World} {u : Value} (h : ErrAs c w u) (hg : ErrT w) : Calls Tryd.prog 11 #[u] w fun e w' => e = .returned (.int .i64 c) ∧ Below w.heap.size w w' := by
  rcases h with ⟨rfl, rfl⟩ | ⟨_, h⟩
  · refine (code_nil w).mono ?_
    rintro e w' ⟨rfl, rfl⟩
    exact ⟨rfl, Below.refl _ _⟩
  · exact code_f7 h hg
theorem Left.go {w w' : World} {base N M : Nat} {n n' : NetP} {b mb cb : Nat} {v : Value} {F G : Value → Option Value} (hl : Left w base M n' b mb cb v w') (h : NetIn w base N n b mb cb v F G) (hb : base ≤ w.heap.size) : Below base w w' := by
  obtain ⟨_, _, _, _, hf, _⟩ := hl
  exact hf.below hb fun k hk => (h.foot hk).1
theorem Left.after {w w' w2 : World} {base N : Nat} {n : NetP} {b mb cb : Nat} {v : Value} (hl : Left w base N n b mb cb v w') (hb : Below w'.heap.size w' w2) : Left w base N n b mb cb v w2 := by
  obtain ⟨v', F, G, hz, hf, hv⟩ := hl
  exact ⟨v', F, G, hz.below hb (Nat.le_refl _), hf.trans (Fr.of_below hb hf.size), hv⟩
theorem Left.before {w0 w w' : World} {base N : Nat} {n : NetP} {b mb cb : Nat} {v : Value} (hl : Left w base N n b mb cb v w') (hb : Below w0.heap.size w0 w) : Left w0 base N n b mb cb v w' := by
  obtain ⟨v', F, G, hz, hf, hv⟩ := hl
  refine ⟨v', F, G, hz, (Fr.of_below hb (Nat.le_refl _)).trans (hf.less hb.size), ?_⟩
  rcases hv with e | ⟨g, e, hg⟩
  · exact Or.inl e
  · exact Or.inr ⟨g, e, Nat.le_trans hb.size hg⟩
end

section
open Go.RowKit

/-- A fault, and nothing else turned. -/
def NilTo (w : World) (e : Ending) (w' : World) : Prop := Below w.heap.size w w' ∧ ∃ u, e = .returned u ∧ FaultAt 10 0 w' u
set_option maxRecDepth 100000 in
theorem send_nil (a c : Int) (x : ByteArray) (w : World) : Calls Tryd.prog 33 #[.pointer none, .int .i64 a, .int .i64 c, .string x] w (NilTo w) := by
  have HF := Lib.hid (fun s => new_any 10 0 s w)
  have HB : Hid (∀ s, Below w.heap.size w (w.alloc (.cells #[.int .i64 10, .int .i64 0, .string s] 72))) := Lib.hid (fun _ => (Below.refl _ _).alloc (Nat.le_refl _) _)
  have HW : Hid (∀ s, Whole (w.alloc (.cells #[.int .i64 10, .int .i64 0, .string s] 72)) w.heap.size 72 #[.int .i64 10, .int .i64 0, .string s]) := Lib.hid (fun _ => Whole.new w _ _)
  go_enter Tryd.func33, Tryd.ntmps33
  go_wp2_with fail
  refine (HF.out _).mono ?_; rintro e w1 ⟨rfl, rfl⟩
  go_wp2_with fail
  go_ret
  exact ⟨HB.out _, _, rfl, _, _, rfl, HW.out _⟩
set_option maxRecDepth 100000 in
theorem check_nil (i : Int) (w : World) : Calls Tryd.prog 48 #[.pointer none, .int .i64 i] w (NilTo w) := by
  have HF := Lib.hid (fun s => new_any 10 0 s w)
  have HB : Hid (∀ s, Below w.heap.size w (w.alloc (.cells #[.int .i64 10, .int .i64 0, .string s] 72))) := Lib.hid (fun _ => (Below.refl _ _).alloc (Nat.le_refl _) _)
  have HW : Hid (∀ s, Whole (w.alloc (.cells #[.int .i64 10, .int .i64 0, .string s] 72)) w.heap.size 72 #[.int .i64 10, .int .i64 0, .string s]) := Lib.hid (fun _ => Whole.new w _ _)
  go_enter Tryd.func48, Tryd.ntmps48
  go_wp2_with fail
  refine (HF.out _).mono ?_; rintro e w1 ⟨rfl, rfl⟩
  go_wp2_with fail
  go_ret
  exact ⟨HB.out _, _, rfl, _, _, rfl, HW.out _⟩
set_option maxRecDepth 100000 in
theorem double_nil (i : Int) (w : World) : Calls Tryd.prog 36 #[.pointer none, .int .i64 i] w (NilTo w) := by
  have HC := Lib.hid (check_nil i w)
  go_enter Tryd.func36, Tryd.ntmps36
  go_wp2_with fail
  refine HC.out.mono ?_; rintro e w1 ⟨hb, u, rfl, b, s, rfl, hw⟩
  have HB := Lib.hid hb; have HW := Lib.hid hw
  clear hb hw
  go_wp2_with fail
  go_ret
  exact ⟨HB.out, _, rfl, _, _, rfl, HW.out⟩
set_option maxRecDepth 100000 in
theorem deliver_nil (i : Int) (w : World) : Calls Tryd.prog 35 #[.pointer none, .int .i64 i] w (NilTo w) := by
  have HC := Lib.hid (check_nil i w)
  go_enter Tryd.func35, Tryd.ntmps35
  go_wp2_with fail
  refine HC.out.mono ?_; rintro e w1 ⟨hb, u, rfl, b, s, rfl, hw⟩
  have HB := Lib.hid hb; have HW := Lib.hid hw
  clear hb hw
  go_wp2_with fail
  go_ret
  exact ⟨HB.out, _, rfl, _, _, rfl, HW.out⟩
set_option maxRecDepth 100000 in
theorem missing_nil (w : World) : Calls Tryd.prog 39 #[.pointer none] w fun e w' => e = .returned (.int .i64 0) ∧ w' = w := by
  go_enter Tryd.func39, Tryd.ntmps39
  go_wp2_with fail
  go_ret
  exact ⟨rfl, rfl⟩
set_option maxRecDepth 100000 in
theorem quiet_nil (w : World) : Calls Tryd.prog 38 #[.pointer none] w fun e w' => e = .returned (.bool true) ∧ w' = w := by
  have HM := Lib.hid (missing_nil w)
  go_enter Tryd.func38, Tryd.ntmps38
  go_wp2_with fail
  refine HM.out.mono ?_; rintro e w1 ⟨rfl, hw⟩; obtain rfl := hw.symm
  go_wp2_with fail
  go_ret
  exact ⟨rfl, rfl⟩
set_option maxRecDepth 100000 in
theorem flying_nil (w : World) : Calls Tryd.prog 34 #[.pointer none] w fun e w' => e = .returned (.slice none 0 0) ∧ w' = w := by
  go_enter Tryd.func34, Tryd.ntmps34
  go_wp2_with fail
  go_ret
  exact ⟨rfl, rfl⟩
set_option maxRecDepth 100000 in
theorem has_nil (x : Int) (w : World) : Calls Tryd.prog 46 #[.pointer none, .int .i64 x] w fun e w' => e = .returned (.bool false) ∧ w' = w := by
  go_enter Tryd.func46, Tryd.ntmps46
  go_wp2_with fail
  go_ret
  exact ⟨rfl, rfl⟩
set_option maxRecDepth 100000 in
theorem inbox_nil (x : Int) (w : World) : Calls Tryd.prog 40 #[.pointer none, .int .i64 x] w fun e w' => e = .returned (.slice none 0 0) ∧ w' = w := by
  have HM := Lib.hid (has_nil x w)
  go_enter Tryd.func40, Tryd.ntmps40
  go_wp2_with fail
  refine HM.out.mono ?_; rintro e w1 ⟨rfl, hw⟩; obtain rfl := hw.symm
  go_wp2_with fail
  go_ret
  exact ⟨rfl, rfl⟩
set_option maxRecDepth 100000 in
theorem next_nil (w : World) : Calls Tryd.prog 44 #[.pointer none] w fun e w' => e = .returned (.pointer none) ∧ w' = w := by
  go_enter Tryd.func44, Tryd.ntmps44
  go_wp2_with fail
  go_ret
  exact ⟨rfl, rfl⟩
/-- A fresh net of as many workers. -/
def NextTo (k : Nat) (w : World) (e : Ending) (w' : World) : Prop := ∃ p, e = .returned p ∧ NetAt w' w.heap.size p 0 (freshP k) ∧ Below w.heap.size w w'
set_option maxRecDepth 100000 in
theorem next_any {w : World} {base N : Nat} {n : NetP} {b mb cb : Nat} {v : Value} {F G : Value → Option Value} (h : NetIn w base N n b mb cb v F G) :
    Calls Tryd.prog 44 #[.pointer (some ⟨b, 0, none⟩)] w (NextTo n.k w) := by
  have c0 : w.cell? ⟨b, 0, none⟩ = some (.int .i64 n.k) := h.whole.cell 0
  obtain ⟨k, hk⟩ : ∃ k, n.k = k := ⟨_, rfl⟩
  rw [hk] at c0 ⊢
  have HF := Lib.hid (fresh_any k w)
  clear h hk
  go_enter Tryd.func44, Tryd.ntmps44
  go_wp2_with fail
  refine HF.out.mono ?_; rintro e w1 ⟨p, rfl, hN, hb⟩
  have HN := Lib.hid hN; have HB := Lib.hid hb
  clear hN hb
  go_wp2_with fail
  go_ret
  exact ⟨p, rfl, HN.out, HB.out⟩
end

section
open Go.RowKit Go.Maps

/-- A row of one's own letters, as what flies. -/
theorem fly_of_own {w : World} {base B n : Nat} {S : List Let} {v : Value} (h : w.ownsRow B 83 4 v n (letsC S)) (hn : S.length = n) (hB : base ≤ B) : FlyAt w base v S := by
  subst hn
  have h0 := h
  rcases h.2 with ⟨rfl, h2⟩ | ⟨g, cap, cur, rfl, hg, hh, hc, _, hs, _⟩
  · exact ⟨none, 0, by rw [h2], by omega, Or.inl ⟨rfl, rfl⟩⟩
  · refine ⟨_, cap, rfl, hc, Or.inr ⟨g, 0, rfl, by omega, lt_of_block hh, fun j hj => ?_, fun j hj => ?_⟩⟩
    · rw [Nat.zero_add]
      exact ⟨by rw [cell_of_row w g j cur _ (0, 0) hh, Array.getElem?_eq_getElem (by omega)]; rfl, h0.frozenAt j⟩
    · rw [Nat.zero_add]
      exact h0.cellAt j hj
/-- A cloned map. -/
def MapTo (kt : TypeId) (N : Nat) (F : Value → Option Value) (w0 w : World) (e : Ending) (w' : World) : Prop :=
  e = .returned (.map (some w.heap.size)) ∧ MapF w' kt w.heap.size N F ∧ Below w.heap.size w w' ∧ Below w0.heap.size w0 w'
/-- Cloned letters. -/
def LetsTo (S : List Let) (m : Nat) (w0 w : World) (e : Ending) (w' : World) : Prop :=
  ∃ A c, e = .returned (.slice A m c) ∧ w'.ownsRow w.heap.size 83 4 (.slice A m c) m (letsC S) ∧ Below w.heap.size w w' ∧ Below w0.heap.size w0 w'
/-- What Clone tells: a net of its own, told as the one that was cloned. -/
def CloneTo (N : Nat) (n : NetP) (F G : Value → Option Value) (w : World) (e : Ending) (w' : World) : Prop :=
  ∃ b mb cb v, e = .returned (.pointer (some ⟨b, 0, none⟩)) ∧ NetIn w' w.heap.size N n b mb cb v F G ∧ Below w.heap.size w w'
end
end Go.Proofs.YtlopoddllfkkfaaDoor
