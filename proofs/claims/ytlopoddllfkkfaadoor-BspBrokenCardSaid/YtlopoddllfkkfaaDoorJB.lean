/- net: blocks beside a net stay. NetNumbers: what its walk wants. net: Full, with the count of what is missing. law 19: the chapter's example. law 19: far. An argument of law 19 as a walk takes it: a slice of calls. NetClones. net: the inbox of a net in which nothing flies. -/
import Derived.Test.YtlopoddllfkkfaaDoorJ8
import Derived.Test.YtlopoddllfkkfaaDoorJ9
import Derived.Test.YtlopoddllfkkfaaDoorJA
import Derived.Test.YtlopoddllfkkfaaDoorJ1
import Derived.Deep.Slices
import Derived.Deep.Fields
import Derived.Deep.CutBlock
import Derived.Deep.DeepCutAuto
import Derived.Deep.RegionHeld3
namespace Go.Proofs.YtlopoddllfkkfaaDoor
section
open Go.RowKit

/-- A block that is none of a net's. -/
def Beside (w : World) (b mb cb : Nat) (v : Value) (g : Nat) : Prop := g < w.heap.size ∧ ∀ k, Foot b mb cb v k → k ≠ g
theorem Left.beside {w w' : World} {base N : Nat} {n : NetP} {b mb cb : Nat} {v : Value} {g : Nat} (hl : Left w base N n b mb cb v w') (hg : Beside w b mb cb v g) :
    ∃ v' F' G', NetIn w' base N n b mb cb v' F' G' ∧ w'.heap[g]? = w.heap[g]? ∧ Beside w' b mb cb v' g := by
  obtain ⟨v', F', G', hN, hf, hv⟩ := hl
  refine ⟨v', F', G', hN, hf.block g hg.1 (fun h => hg.2 g h rfl), Nat.lt_of_lt_of_le hg.1 hf.size, fun k hk => ?_⟩
  rcases hk with rfl | rfl | rfl | hk
  · exact hg.2 _ (Or.inl rfl)
  · exact hg.2 _ (Or.inr (Or.inl rfl))
  · exact hg.2 _ (Or.inr (Or.inr (Or.inl rfl)))
  · rcases hv with e | ⟨j, e, hj⟩
    · exact hg.2 _ (Or.inr (Or.inr (Or.inr (by rw [← e]; exact hk))))
    · rw [e] at hk
      injection hk with hk
      have := hg.1
      omega
theorem Beside.below {w w' : World} {b mb cb : Nat} {v : Value} {g : Nat} (h : Beside w b mb cb v g) (hb : Below w.heap.size w w') : Beside w' b mb cb v g := ⟨Nat.lt_of_lt_of_le h.1 hb.size, h.2⟩
theorem LetsAt.stay {w w' : World} {v : Value} {S : List Let} (h : LetsAt w v S) (hb : ∀ g, v.ownBlock = some g → w'.heap[g]? = w.heap[g]?) : LetsAt w' v S := by
  obtain ⟨A, c, rfl, hc, h⟩ := h
  refine ⟨A, c, rfl, hc, ?_⟩
  rcases h with h | ⟨b, off, rfl, hx⟩
  · exact Or.inl h
  · refine Or.inr ⟨b, off, rfl, fun j hj => ?_⟩
    rw [← hx j hj]
    exact World.cell?_of_block (hb b rfl)
end

section
open Go.RowKit

theorem Left.besides {w w' : World} {base N : Nat} {n : NetP} {b mb cb : Nat} {v : Value} (hl : Left w base N n b mb cb v w') :
    ∃ v' F' G', NetIn w' base N n b mb cb v' F' G' ∧ ∀ g, Beside w b mb cb v g → w'.heap[g]? = w.heap[g]? ∧ Beside w' b mb cb v' g := by
  obtain ⟨v', F', G', hN, hf, hv⟩ := hl
  refine ⟨v', F', G', hN, fun g hg => ⟨hf.block g hg.1 (fun h => hg.2 g h rfl), Nat.lt_of_lt_of_le hg.1 hf.size, fun k hk => ?_⟩⟩
  rcases hk with rfl | rfl | rfl | hk
  · exact hg.2 _ (Or.inl rfl)
  · exact hg.2 _ (Or.inr (Or.inl rfl))
  · exact hg.2 _ (Or.inr (Or.inr (Or.inl rfl)))
  · rcases hv with e | ⟨j, e, hj⟩
    · exact hg.2 _ (Or.inr (Or.inr (Or.inr (by rw [← e]; exact hk))))
    · rw [e] at hk
      injection hk with hk
      have := hg.1
      omega
theorem step_code (n : NetP) (kind a c : Int) (x : ByteArray) : (stepP n kind a c x).2 = 0 ∨ ((stepP n kind a c x).2 = 3 ∧ (stepP n kind a c x).1 = n) := by
  unfold stepP
  split
  · split
    · exact Or.inl rfl
    · exact Or.inr ⟨rfl, rfl⟩
  · split
    · split
      · exact Or.inl rfl
      · exact Or.inl rfl
    · exact Or.inr ⟨rfl, rfl⟩
theorem Inv.miss0 {n : NetP} {T : Int → Int → Int → ByteArray} {L : List Let} (h : Inv n T L) : 0 ≤ n.miss := by rw [h.len]; omega
theorem Inv.quiet {n : NetP} {T : Int → Int → Int → ByteArray} {L : List Let} (h : Inv n T L) (h0 : n.fly.length = 0) : n.miss = 0 := by
  have hf : n.fly = [] := List.eq_nil_of_length_eq_zero h0
  have hL : L = [] := by
    cases L with
    | nil => rfl
    | cons l t =>
      have := (h.miss l (List.mem_cons_self ..)).1
      rw [hf] at this
      simp at this
  rw [h.len, hL]
  rfl
/-- What a good call makes: its three kinds. -/
theorem step_kinds {n : NetP} {kind a c : Int} {x : ByteArray} (h : (stepP n kind a c x).2 = 0) :
    (kind = 0 → hasB n.k a = true ∧ hasB n.k c = true ∧ (stepP n kind a c x).1 = sendP n a c x) ∧
    (kind = 1 → ∃ (i : Nat) (hi : i < n.fly.length), a = i ∧ (stepP n kind a c x).1 = dupP n n.fly[i]) ∧
    (kind ≠ 0 → kind ≠ 1 → ∃ (i : Nat) (hi : i < n.fly.length), a = i ∧ (stepP n kind a c x).1 = cameP (dropP n i) n.fly[i]) := by
  unfold stepP at h ⊢
  by_cases k0 : kind = 0
  · subst k0
    rw [if_pos rfl] at h ⊢
    by_cases hh : (hasB n.k a && hasB n.k c) = true
    · rw [if_pos hh]
      rw [Bool.and_eq_true] at hh
      exact ⟨fun _ => ⟨hh.1, hh.2, rfl⟩, fun e => by omega, fun e => absurd rfl e⟩
    · rw [if_neg hh] at h
      cases h
  · rw [if_neg k0] at h ⊢
    by_cases hh : 0 ≤ a ∧ a < n.fly.length
    · rw [dif_pos hh] at h ⊢
      by_cases k1 : kind = 1
      · rw [if_pos k1]
        exact ⟨fun e => absurd e k0, fun _ => ⟨a.toNat, by omega, by omega, rfl⟩, fun _ e => absurd k1 e⟩
      · rw [if_neg k1]
        exact ⟨fun e => absurd e k0, fun e => absurd e k1, fun _ _ => ⟨a.toNat, by omega, by omega, rfl⟩⟩
    · rw [dif_neg hh] at h
      cases h
theorem came_fly (n : NetP) (l : Let) : (cameP n l).fly = n.fly := by
  unfold cameP
  split <;> rfl
theorem came_sent (n : NetP) (l : Let) : (cameP n l).sent = n.sent := by
  unfold cameP
  split <;> rfl
/-- A table of sixteen numbers. -/
def TabAt (w : World) (st : Nat) (f : Nat → Int) : Prop := st < w.heap.size ∧ ∀ j, j < 16 → w.cell? ⟨st, j, none⟩ = some (.int .i64 (f j)) ∧ w.frozen? ⟨st, j, none⟩ = false
theorem TabAt.stay {w w' : World} {st : Nat} {f : Nat → Int} (h : TabAt w st f) (hs : w.heap.size ≤ w'.heap.size) (hb : w'.heap[st]? = w.heap[st]?) : TabAt w' st f :=
  ⟨Nat.lt_of_lt_of_le h.1 hs, fun j hj => ⟨(World.cell?_of_block (a := ⟨st, j, none⟩) hb).trans (h.2 j hj).1, (World.frozen?_of_block (a := ⟨st, j, none⟩) hb).trans (h.2 j hj).2⟩⟩
theorem TabAt.below {w w' : World} {st : Nat} {f : Nat → Int} (h : TabAt w st f) (hb : Below w.heap.size w w') : TabAt w' st f := h.stay hb.size (hb.block st h.1)
end

section
/-- All that was sent flies or came, and what is missing is counted. -/
def FullI (n : NetP) (T : Int → Int → Int → ByteArray) : Prop := Full n T ∧ ∃ Ti Li, Inv n Ti Li
theorem FullI.fresh (k : Nat) : FullI (freshP k) (fun _ _ _ => ⟨#[]⟩) := ⟨Full.fresh k, _, _, Inv.fresh k⟩
theorem FullI.sends {n : NetP} {T : Int → Int → Int → ByteArray} (h : FullI n T) (a c : Int) (x : ByteArray) : ∃ T', FullI (stepP n 0 a c x).1 T' := by
  obtain ⟨hF, Ti, Li, hI⟩ := h
  obtain ⟨T2, L2, hI2, _⟩ := hI.step 0 a c x
  unfold stepP at hI2 ⊢
  rw [if_pos rfl] at hI2 ⊢
  split
  · rename_i hh
    rw [if_pos hh] at hI2
    exact ⟨_, hF.send a c x, _, _, hI2⟩
  · exact ⟨T, hF, Ti, Li, hI⟩
theorem FullI.double {n : NetP} {T : Int → Int → Int → ByteArray} (h : FullI n T) (a c : Int) (x : ByteArray) : FullI (stepP n 1 a c x).1 T ∧ (stepP n 1 a c x).1.sent = n.sent := by
  obtain ⟨hF, Ti, Li, hI⟩ := h
  obtain ⟨T2, L2, hI2, _⟩ := hI.step 1 a c x
  exact ⟨⟨(hF.double a c x).1, _, _, hI2⟩, (hF.double a c x).2⟩
theorem FullI.come {n : NetP} {T : Int → Int → Int → ByteArray} (h : FullI n T) (a c : Int) (x : ByteArray) : FullI (stepP n 2 a c x).1 T ∧ (stepP n 2 a c x).1.sent = n.sent := by
  obtain ⟨hF, Ti, Li, hI⟩ := h
  obtain ⟨T2, L2, hI2, _⟩ := hI.step 2 a c x
  exact ⟨⟨(hF.come a c x).1, _, _, hI2⟩, (hF.come a c x).2⟩
theorem FullI.quiet {n : NetP} {T : Int → Int → Int → ByteArray} (h : FullI n T) (h0 : n.fly = []) : n.miss = 0 := by
  obtain ⟨_, Ti, Li, hI⟩ := h
  exact hI.quiet (by rw [h0]; rfl)
end

section
open Go.RowKit

def al1 : NetP := (stepP (freshP 2) 0 0 1 ⟨#[97]⟩).1
def al2 : NetP := (stepP al1 0 0 1 ⟨#[98]⟩).1
def al3 : NetP := (stepP al2 1 1 0 ⟨#[]⟩).1
def al4 : NetP := (stepP al3 2 1 0 ⟨#[]⟩).1
def al5 : NetP := (stepP al4 2 0 0 ⟨#[]⟩).1
def al6 : NetP := (stepP al5 2 0 0 ⟨#[]⟩).1
theorem al_codes : (stepP (freshP 2) 0 0 1 ⟨#[97]⟩).2 = 0 ∧ (stepP al1 0 0 1 ⟨#[98]⟩).2 = 0 ∧ (stepP al2 1 1 0 ⟨#[]⟩).2 = 0 ∧ (stepP al3 2 1 0 ⟨#[]⟩).2 = 0 ∧ (stepP al4 2 0 0 ⟨#[]⟩).2 = 0 ∧ (stepP al5 2 0 0 ⟨#[]⟩).2 = 0 ∧ (stepP al6 2 0 0 ⟨#[]⟩).2 = 3 := by decide
theorem al_end : al6.miss = 0 ∧ al6.k = 2 ∧ hasB al6.k 1 = true ∧ inboxL al6 1 2 = [⟨0, 1, 0, ⟨#[97]⟩⟩, ⟨0, 1, 1, ⟨#[98]⟩⟩] := ⟨by decide, by decide, by decide, by rfl⟩
end

section
open Go.RowKit

/-- A call that is looked at. -/
def NearA (l : Let) : Prop := 0 ≤ l.f ∧ l.f ≤ 2 ∧ l.x.size ≤ 100
/-- What far tells. -/
def FarTo (S : List Let) (n : Nat) (w : World) (e : Ending) (w' : World) : Prop := ∃ z, e = .returned (.bool z) ∧ w' = w ∧ (z = false → n ≤ 60 ∧ ∀ l ∈ S, NearA l)
end

section
open Go.ChangeShapes Go.WideShapes Go.RowKit Go.Deep

theorem acts_view {P : Program} {H : Type} {enc : TypeId × Value → H} {W : World} {base : Nat} {v : Value} {d : DataW H} {ps : List MemPlace} {t e b0 : Nat} {r : Reach} {f0 f1 f2 f3 : Field} (ht : P.underlying t = some (.slice e)) (he : P.underlying e = some (.struct #[f0, f1, f2, f3]))
    (hone : oneCellFields P #[f0, f1, f2, f3] = true) (hC : P.cellsOf e = 4) (k0 : P.underlying f0.type = some (.int .i64)) (k1 : P.underlying f1.type = some (.int .i64)) (k2 : P.underlying f2.type = some (.int .i64)) (k3 : P.underlying f3.type = some .string)
    (hv : Value.okWide P W r b0 t v) (h : DataW.Trod enc P W base (fun _ => true) true t v d ps) :
    ∃ S : List Let, LetsAt W v S ∧ S.length ≤ 9223372036854775807 ∧ ∀ l ∈ S, In64 l.f ∧ In64 l.t ∧ In64 l.s := by
  obtain ⟨a0, len, cap, rfl⟩ := okWide_slice ht hv
  obtain ⟨fuel, hf⟩ := h
  rcases open_slice ht hf with ⟨hcs, _⟩ | ⟨a, len', cap', m, n, D, Pl, hcs, _, hl, hm, hmm, _, hi⟩
  · simp [Value.cells] at hcs
    obtain ⟨rfl, rfl, rfl⟩ := hcs
    exact ⟨[], LetsAt.nil W, Nat.zero_le _, fun l hl => by simp at hl⟩
  · simp [Value.cells] at hcs
    obtain ⟨rfl, rfl, rfl⟩ := hcs
    unfold maxLen at hm
    simp only [if_true] at hmm
    rcases Nat.eq_zero_or_pos len with rfl | hpos
    · exact ⟨[], ⟨_, cap, rfl, Nat.zero_le _, Or.inl rfl⟩, Nat.zero_le _, fun l hl => by simp at hl⟩
    · have cellsAt : ∀ i, i < cap → ∃ l : Let, (∀ j, j < 4 → W.cell? (a.add (i * 4 + j)) = (letC l)[j]?) ∧ In64 l.f ∧ In64 l.t ∧ In64 l.s := by
        intro i hlt
        obtain ⟨cs', hc, ht'⟩ := hi i (by omega)
        rw [hC] at hc
        obtain ⟨ys, n', hn', hy, hlen, hyl, hfld⟩ := DataW.trod_struct he ht'
        obtain ⟨_, hcl, hat⟩ := World.cells?_some hc
        match cs', hcl with
        | [c0, c1, c2, c3], _ =>
          have g0 := hfld 0 f0 rfl
          have g1 := hfld 1 f1 rfl
          have g2 := hfld 2 f2 rfl
          have g3 := hfld 3 f3 rfl
          obtain ⟨o0, z0⟩ := hone_of hone 0 f0 rfl
          obtain ⟨o1, z1⟩ := hone_of hone 1 f1 rfl
          obtain ⟨o2, z2⟩ := hone_of hone 2 f2 rfl
          obtain ⟨o3, z3⟩ := hone_of hone 3 f3 rfl
          rw [o0, z0] at g0
          rw [o1, z1] at g1
          rw [o2, z2] at g2
          rw [o3, z3] at g3
          have y0 : ys[0]? = some (ys[0]'(by rw [hyl]; simp)) := List.getElem?_eq_getElem _
          have y1 : ys[1]? = some (ys[1]'(by rw [hyl]; simp)) := List.getElem?_eq_getElem _
          have y2 : ys[2]? = some (ys[2]'(by rw [hyl]; simp)) := List.getElem?_eq_getElem _
          have y3 : ys[3]? = some (ys[3]'(by rw [hyl]; simp)) := List.getElem?_eq_getElem _
          rw [y0] at g0
          rw [y1] at g1
          rw [y2] at g2
          rw [y3] at g3
          obtain ⟨x, ex, _, wx⟩ := DataW.trod_int k0 g0
          obtain ⟨y, ey, _, wy⟩ := DataW.trod_int k1 g1
          obtain ⟨z, ez, _, wz⟩ := DataW.trod_int k2 g2
          obtain ⟨s, es, _, _⟩ := DataW.trod_string k3 g3
          have a0 := hat 0 (by simp)
          have a1 := hat 1 (by simp)
          have a2 := hat 2 (by simp)
          have a3 := hat 3 (by simp)
          simp at ex ey ez es
          subst ex ey ez es
          refine ⟨⟨x, y, z, s⟩, fun j hj => ?_, bounds_i64 wx, bounds_i64 wy, bounds_i64 wz⟩
          match j, hj with
          | 0, _ => simpa [Go.Deep.add_add, letC] using a0
          | 1, _ => simpa [Go.Deep.add_add, letC] using a1
          | 2, _ => simpa [Go.Deep.add_add, letC] using a2
          | 3, _ => simpa [Go.Deep.add_add, letC] using a3
      obtain ⟨b, off, spot⟩ := a
      obtain ⟨l0, hx, _⟩ := cellsAt 0 (by omega)
      have hspot : spot = none := by
        have := hx 0 (by omega)
        simpa [Addr.add] using World.cell?_spot this
      subst hspot
      have hlen : ((List.range len).map fun i => if h : i < cap then (cellsAt i h).choose else letZ).length = len := by simp
      have hget : ∀ i (hi : i < len), ((List.range len).map fun i => if h : i < cap then (cellsAt i h).choose else letZ)[i]'(by rw [hlen]; exact hi) = (cellsAt i (by omega)).choose := fun i hi => by
        rw [List.getElem_map, List.getElem_range, dif_pos (show i < cap by omega)]
      refine ⟨(List.range len).map fun i => if h : i < cap then (cellsAt i h).choose else letZ, ⟨_, cap, by rw [hlen], by rw [hlen]; exact hl, Or.inr ⟨b, off, rfl, fun j hj => ?_⟩⟩, by rw [hlen]; omega, fun l hl => ?_⟩
      · rw [hlen] at hj
        have hi' : j / 4 < len := by omega
        have e := (cellsAt (j / 4) (by omega)).choose_spec.1 (j % 4) (Nat.mod_lt _ (by omega))
        have e2 := letsC_at ((List.range len).map fun i => if h : i < cap then (cellsAt i h).choose else letZ) (j / 4) (j % 4) (by rw [hlen]; exact hi') (Nat.mod_lt _ (by omega))
        rw [hget _ hi', ← e] at e2
        rw [show j / 4 * 4 + j % 4 = j by omega] at e2
        rw [e2, add_plain]
      · obtain ⟨i, hi, rfl⟩ := List.mem_iff_getElem.1 hl
        rw [hlen] at hi
        rw [hget i hi]
        exact (cellsAt i (by omega)).choose_spec.2
end

section
open Go.RowKit

def Off (R R' : Nat → Prop) : Prop := ∀ k, R k → ¬ R' k
theorem trio_step {wr w4 w6 : World} {base N N' N3 : Nat} {n n' n3 : NetP} {b b2 b3 : Nat} {R R2 R3 R4 R6 : Nat → Prop} (hB : NetB wr base N n b2 R2) (hC : NetB wr base N3 n3 b3 R3) (s12 : Off R R2) (s13 : Off R R3) (s23 : Off R2 R3)
    (hN4 : NetB w4 base N' n' b R4) (hf4 : Fr wr.heap.size R wr w4) (hR4 : ∀ k, R4 k → R k ∨ wr.heap.size ≤ k) (hN6 : NetB w6 base N' n' b2 R6) (hf6 : Fr w4.heap.size R2 w4 w6) (hR6 : ∀ k, R6 k → R2 k ∨ w4.heap.size ≤ k) :
    NetB w6 base N' n' b R4 ∧ NetB w6 base N' n' b2 R6 ∧ NetB w6 base N3 n3 b3 R3 ∧ Off R4 R6 ∧ Off R4 R3 ∧ Off R6 R3 := by
  have hs4 := hf4.size
  have s42 : Off R4 R2 := fun k h1 h2 => by
    rcases hR4 k h1 with h | h
    · exact s12 k h h2
    · have := (hB.foot h2).2; omega
  have s43 : Off R4 R3 := fun k h1 h2 => by
    rcases hR4 k h1 with h | h
    · exact s13 k h h2
    · have := (hC.foot h2).2; omega
  have hC4 := hC.stay hf4 (fun k h1 h2 => s13 k h2 h1)
  refine ⟨hN4.stay hf6 s42, hN6, hC4.stay hf6 (fun k h1 h2 => s23 k h2 h1), fun k h1 h2 => ?_, s43, fun k h1 h2 => ?_⟩
  · rcases hR6 k h2 with h | h
    · exact s42 k h1 h
    · have := (hN4.foot h1).2; omega
  · rcases hR6 k h1 with h | h
    · exact s23 k h h2
    · have := (hC.foot h2).2; omega
theorem duo_step {wr w4 : World} {base N3 : Nat} {n3 : NetP} {b3 : Nat} {R R3 R4 : Nat → Prop} (hC : NetB wr base N3 n3 b3 R3) (s13 : Off R3 R)
    (hf4 : Fr wr.heap.size R wr w4) (hR4 : ∀ k, R4 k → R k ∨ wr.heap.size ≤ k) : NetB w4 base N3 n3 b3 R3 ∧ Off R3 R4 := by
  refine ⟨hC.stay hf4 s13, fun k h1 h2 => ?_⟩
  rcases hR4 k h2 with h | h
  · exact s13 k h1 h
  · have := (hC.foot h1).2; omega
/-- What both calls of a round leave. -/
def CutC (base N N3 : Nat) (n n3 : NetP) (b b2 b3 : Nat) (R3 : Nat → Prop) (w : World) (x : Value) (w' : World) : Prop :=
  x = .bool false ∧ ∃ R R2, NetB w' base N n b R ∧ NetB w' base N n b2 R2 ∧ NetB w' base N3 n3 b3 R3 ∧ Off R R2 ∧ Off R R3 ∧ Off R2 R3 ∧ Below base w w'
/-- A letter sent into a fresh net. -/
def SentX (base : Nat) (b : Nat) (w : World) (e : Ending) (w' : World) : Prop :=
  e = .returned .nilIface ∧ ∃ R, NetB w' base 1 (sendP (freshP 3) 2 0 ⟨#[120]⟩) b R ∧ Below base w w'
theorem sendx_b {w : World} {base : Nat} {b : Nat} {R : Nat → Prop} (h : NetB w base 0 (freshP 3) b R) (hbase : base ≤ w.heap.size) :
    Calls Tryd.prog 33 #[.pointer (some ⟨b, 0, none⟩), .int .i64 2, .int .i64 0, .string ⟨#[120]⟩] w (SentX base b w) := by
  obtain ⟨mb, cb, v, F, G, h, rfl⟩ := h
  refine (send_good h 2 0 ⟨#[120]⟩ (by decide) (by decide) (by decide) (by decide) (by decide) (by decide) (by decide) (by decide)).mono ?_
  rintro e w' ⟨rfl, hl⟩
  have hgo := hl.go h hbase
  obtain ⟨v', F', G', hN', _, _⟩ := hl
  exact ⟨rfl, _, ⟨mb, cb, v', F', G', hN', rfl⟩, hgo⟩
/-- The one letter of that net. -/
def OneTo (w : World) (e : Ending) (w' : World) : Prop :=
  Below w.heap.size w w' ∧ ∃ g c, e = .returned (.slice (some ⟨g, 0, none⟩) 1 c) ∧ w'.cell? ⟨g, 2, none⟩ = some (.int .i64 0)
theorem flyx_b {w : World} {base : Nat} {b : Nat} {R : Nat → Prop} (h : NetB w base 1 (sendP (freshP 3) 2 0 ⟨#[120]⟩) b R) :
    Calls Tryd.prog 34 #[.pointer (some ⟨b, 0, none⟩)] w (OneTo w) := by
  refine (flying_any h.at (by decide)).mono ?_
  rintro e w' ⟨v', rfl, ho, hb⟩
  have h0 := ho
  rcases ho.2 with ⟨_, h2⟩ | ⟨g, cap, cur, rfl, hg, hh, _⟩
  · cases h2
  · exact ⟨hb, g, cap, rfl, h0.cellAt 2 (by decide)⟩
end

section
open Go.RowKit

/-- What Inbox hands over. -/
def LetsAll (L : List Let) (m : Nat) (w : World) (e : Ending) (w' : World) : Prop := ∃ A c, e = .returned (.slice A m c) ∧ LetsAt w' (.slice A m c) L ∧ Below w.heap.size w w'
theorem inbox_all {w : World} {base N M : Nat} {n : NetP} {T : Int → Int → Int → ByteArray} {b : Nat} {R : Nat → Prop} (h : NetB w base N n b R) (g : Good n M) (hM : M ≤ 1000) (hF : FullI n T) (h0 : n.fly = []) {sent : Int → Int → Nat} (hs : n.sent = sent) {k : Nat} (hk : n.k = k) {c : Nat} (hc : c < k) {L : List Let} (hL : allL sent T c k = L) {m : Nat} (hm : L.length = m) :
    Calls Tryd.prog 40 #[.pointer (some ⟨b, 0, none⟩), .int .i64 c] w (LetsAll L m w) := by
  subst hs hk hm
  obtain ⟨mb, cb, v, F, G, h, rfl⟩ := h
  have hhas : hasB n.k (c : Int) = true := by
    unfold hasB
    simp
    omega
  refine (inbox_ok h c g.k hhas (fun a => Nat.le_trans (g.sn a c) hM)).mono ?_
  rintro e w' ⟨u, rfl, hf, hb⟩
  rw [hF.1.inbox h0 c n.k, hL] at hf
  have hl := hf.lets
  obtain ⟨A, cc, rfl, _⟩ := hf
  exact ⟨A, cc, rfl, hl, hb⟩
theorem allL_num (sent : Int → Int → Nat) (T : Int → Int → Int → ByteArray) (c : Int) (M : Nat) (hM : ∀ a, sent a c ≤ M) : ∀ (k : Nat) (l : Let), l ∈ allL sent T c k → 0 ≤ l.s ∧ l.s < M
  | 0, l, h => by simp [allL] at h
  | k + 1, l, h => by
    rw [allL_succ] at h
    rcases List.mem_append.1 h with h | h
    · exact allL_num sent T c M hM k l h
    · obtain ⟨s, hs, rfl⟩ := List.mem_map.1 h
      have h1 := List.mem_range.1 hs
      have h2 := hM (k : Int)
      show (0 : Int) ≤ (s : Int) ∧ (s : Int) < (M : Int)
      omega
theorem allL_len (sent : Int → Int → Nat) (T : Int → Int → Int → ByteArray) (c : Int) (M : Nat) (hM : ∀ a, sent a c ≤ M) : ∀ k : Nat, (allL sent T c k).length ≤ k * M
  | 0 => by simp [allL]
  | k + 1 => by
    have := allL_len sent T c M hM k
    have h2 := hM (k : Int)
    rw [allL_succ, List.length_append, List.length_map, List.length_range, Nat.succ_mul]
    omega
theorem quiet_b {w : World} {base N : Nat} {n : NetP} {T : Int → Int → Int → ByteArray} {b : Nat} {R : Nat → Prop} (h : NetB w base N n b R) (hF : FullI n T) (h0 : n.fly = []) :
    Calls Tryd.prog 38 #[.pointer (some ⟨b, 0, none⟩)] w fun e w' => e = .returned (.bool true) ∧ w' = w := by
  refine (quiet_any h.at).mono ?_
  rintro e w' ⟨rfl, rfl⟩
  rw [hF.quiet h0]
  exact ⟨rfl, rfl⟩
end
end Go.Proofs.YtlopoddllfkkfaaDoor
