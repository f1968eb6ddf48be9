/- What calls make of a machine. -/
import Derived.Test.YtlopoddllfkkfaaDoorBsp5
namespace Go.Proofs.YtlopoddllfkkfaaDoor
open Go.RowKit

def MachB (w : World) (base N : Nat) (p : MP) (job : Value) (m : Nat) (R : Nat → Prop) : Prop := ∃ nb wb ib b sv us Rn, MachIn w base N p job m nb wb ib b sv us Rn ∧ R = MFoot m nb wb ib sv us Rn
theorem MachB.foot {w : World} {base N : Nat} {p : MP} {job : Value} {m : Nat} {R : Nat → Prop} (h : MachB w base N p job m R) {g : Nat} (hg : R g) : base ≤ g ∧ g < w.heap.size := by
  obtain ⟨nb, wb, ib, b, sv, us, Rn, h, rfl⟩ := h
  exact h.foot hg
theorem MachB.stay {w w' : World} {base N : Nat} {p : MP} {job : Value} {m : Nat} {R R' : Nat → Prop} (h : MachB w base N p job m R) (hf : Fr w.heap.size R' w w') (hs : ∀ g, R g → ¬ R' g) : MachB w' base N p job m R := by
  obtain ⟨nb, wb, ib, b, sv, us, Rn, h, rfl⟩ := h
  exact ⟨nb, wb, ib, b, sv, us, Rn, h.apart hf (Nat.le_refl _) hs, rfl⟩
theorem MachB.below {w w' : World} {base N : Nat} {p : MP} {job : Value} {m : Nat} {R : Nat → Prop} (h : MachB w base N p job m R) (hb : Below w.heap.size w w') : MachB w' base N p job m R := by
  obtain ⟨nb, wb, ib, b, sv, us, Rn, h, rfl⟩ := h
  exact ⟨nb, wb, ib, b, sv, us, Rn, h.below hb (Nat.le_refl _), rfl⟩
/-- What a call leaves of a machine. -/
def OpTo (base N : Nat) (p : MP) (job : Value) (m : Nat) (R : Nat → Prop) (w w' : World) : Prop :=
  ∃ R', MachB w' base N p job m R' ∧ Fr w.heap.size R w w' ∧ (∀ g, R' g → R g ∨ w.heap.size ≤ g) ∧ Below base w w'
theorem OpTo.of_below {w w' : World} {base N : Nat} {p : MP} {job : Value} {m : Nat} {R : Nat → Prop} (h : MachB w base N p job m R) (hb : Below w.heap.size w w') (hbase : base ≤ w.heap.size) : OpTo base N p job m R w w' :=
  ⟨R, h.below hb, Fr.of_below hb (Nat.le_refl _), fun _ hg => Or.inl hg, hb.mono hbase⟩
theorem MachIn.mono {w : World} {base N M : Nat} {p : MP} {job : Value} {m nb wb ib b : Nat} {sv : Value} {us : List Value} {Rn : Nat → Prop} (h : MachIn w base N p job m nb wb ib b sv us Rn) (hM : N ≤ M) : MachIn w base M p job m nb wb ib b sv us Rn := by
  obtain ⟨mb, cb, v, F, G, hn, e⟩ := h.net
  exact { h with net := ⟨mb, cb, v, F, G, { hn with sent := hn.sent.mono hM, came := hn.came.mono hM }, e⟩ }
theorem OpTo.mono {w w' : World} {base N M : Nat} {p : MP} {job : Value} {m : Nat} {R : Nat → Prop} (h : OpTo base N p job m R w w') (hM : N ≤ M) : OpTo base M p job m R w w' := by
  obtain ⟨R', ⟨nb, wb, ib, b, sv, us, Rn, hm, rfl⟩, h2, h3, h4⟩ := h
  exact ⟨_, ⟨nb, wb, ib, b, sv, us, Rn, hm.mono hM, rfl⟩, h2, h3, h4⟩
theorem OpTo.trans {w w1 w2 : World} {base N M : Nat} {p q : MP} {job : Value} {m : Nat} {R : Nat → Prop} (h : OpTo base N p job m R w w1) (k : ∀ R', MachB w1 base N p job m R' → OpTo base M q job m R' w1 w2) : OpTo base M q job m R w w2 := by
  obtain ⟨R1, h1, h2, h3, h4⟩ := h
  obtain ⟨R2, k1, k2, k3, k4⟩ := k R1 h1
  refine ⟨R2, k1, ?_, fun g hg => ?_, h4.trans k4⟩
  · exact ⟨k2.os.trans h2.os, k2.tape.trans h2.tape, k2.output.trans h2.output, Nat.le_trans h2.size k2.size, fun g hg hr => by
      rw [k2.block g (Nat.lt_of_lt_of_le hg h2.size) (fun h' => by rcases h3 g h' with e | e; exact hr e; omega), h2.block g hg hr]⟩
  · rcases k3 g hg with e | e
    · exact h3 g e
    · exact Or.inr (Nat.le_trans h2.size e)
theorem OpTo.after {w w1 w2 : World} {base M : Nat} {q : MP} {job : Value} {m : Nat} {R : Nat → Prop} (h : OpTo base M q job m R w1 w2) (hb : Below w.heap.size w w1) (hbase : base ≤ w.heap.size) : OpTo base M q job m R w w2 := by
  obtain ⟨R', h1, h2, h3, h4⟩ := h
  refine ⟨R', h1, (Fr.of_below hb (Nat.le_refl _)).trans (h2.less hb.size), fun g hg => ?_, (hb.mono hbase).trans h4⟩
  rcases h3 g hg with e | e
  · exact Or.inl e
  · exact Or.inr (Nat.le_trans hb.size e)
/-- A machine whose workers begin. -/
def startP (k rd : Nat) (st : List ByteArray) (bx : List (List ByteArray)) : MP := ⟨k, rd, st, bx, List.replicate k ⟨#[]⟩, List.replicate k false, freshP k⟩
theorem mach_mk {w w' : World} {base k rd m ib : Nat} {job sv : Value} {us : List Value} {st : List ByteArray} {bx : List (List ByteArray)} (hB : BackTo base k m k job (.int .i64 rd) sv (.slice (some ⟨ib, 0, none⟩) k k) w w') (bm : base ≤ m) (hm : m < w.heap.size) (bi : base ≤ ib) (n3 : m ≠ ib)
    (ss : ∀ g, Stat sv us g → base ≤ g ∧ g < w.heap.size ∧ g ≠ m ∧ g ≠ ib) (rows : Whole w ib 22 us.toArray) (hst : ValsV w sv (txtC st)) (hbx : ∀ (i : Nat) (u : Value) (X : List ByteArray), us[i]? = some u → bx[i]? = some X → ValsV w u (txtC X))
    (l1 : st.length = k) (l2 : bx.length = k) (l3 : us.length = k) (k1 : 1 ≤ k) (k2 : k ≤ 64) :
    ∃ nb wb b Rn, MachIn w' base 0 (startP k rd st bx) job m nb wb ib b sv us Rn ∧ (∀ g, g = nb ∨ g = wb ∨ Rn g → w.heap.size ≤ g) := by
  obtain ⟨nb, wb, b, Rn, h1, h2, h3, h4, hf, a1, a2, a3, a4⟩ := hB
  have hib := rows.lt
  have hk : ∀ g, g < w.heap.size → g ≠ m → w'.heap[g]? = w.heap[g]? := fun g hg hne => hf.block g hg hne
  refine ⟨nb, wb, b, Rn, ?_, fun g hg => by rcases hg with rfl | rfl | hg; exact a1; exact a2; exact (a4 g hg).1⟩
  exact {
    bm := bm
    bn := by omega
    bw := by omega
    bi := bi
    n1 := by omega
    n2 := by omega
    n3 := n3
    n4 := a3
    n5 := by omega
    n6 := by omega
    rn := fun g hg => by have := a4 g hg; exact ⟨by omega, by omega, by omega, by omega⟩
    ss := fun g hg => by
      obtain ⟨c1, c2, c3, c4⟩ := ss g hg
      refine ⟨c1, Nat.lt_of_lt_of_le c2 hf.size, c3, by omega, by omega, c4, fun hr => ?_⟩
      have := a4 g hr
      omega
    whole := h1
    next := h2
    work := h3
    rows := rows.stay (hk ib hib (fun e => n3 e.symm))
    net := h4
    st := hst.stay (fun g hg => hk g (ss g (Or.inl hg)).2.1 (ss g (Or.inl hg)).2.2.1)
    bx := fun i u X hu hX => (hbx i u X hu hX).stay (fun g hg => hk g (ss g (Or.inr ⟨i, u, hu, hg⟩)).2.1 (ss g (Or.inr ⟨i, u, hu, hg⟩)).2.2.1)
    l1 := l1
    l2 := l2
    l3 := l3
    l4 := by simp [startP]
    l5 := by simp [startP]
    k1 := k1
    k2 := k2
    nk := rfl }
def backP (p : MP) : MP := startP p.k p.rd p.st p.bx
section
variable {w : World} {base N : Nat} {p : MP} {job : Value} {m nb wb ib b : Nat} {sv : Value} {us : List Value} {Rn : Nat → Prop}
theorem MachIn.backTo (h : MachIn w base N p job m nb wb ib b sv us Rn) (hbase : base ≤ w.heap.size) :
    Calls Tryd.prog 30 #[.pointer (some ⟨m, 0, none⟩)] w fun e w' => e = .returned (.tuple #[]) ∧ OpTo base 0 (backP p) job m (MFoot m nb wb ib sv us Rn) w w' := by
  obtain ⟨sb, so, sc, hsv, _⟩ := h.cells
  have hw := h.whole
  rw [hsv] at hw
  refine (back_any hw h.net (fun hr => (h.rn m hr).1 rfl) hbase h.k2).mono ?_
  rintro e w' ⟨rfl, hB⟩
  rw [← hsv, h.nk] at hB
  have hf := hB
  obtain ⟨_, _, _, _, _, _, _, _, hf, _⟩ := hf
  obtain ⟨nb', wb', b', Rn', hM, hnew⟩ := mach_mk hB h.bm h.whole.lt h.bi h.n3 (fun g hg => ⟨(h.ss g hg).1, (h.ss g hg).2.1, (h.ss g hg).2.2.1, (h.ss g hg).2.2.2.2.2.1⟩) h.rows h.st h.bx h.l1 h.l2 h.l3 h.k1 h.k2
  refine ⟨rfl, _, ⟨nb', wb', ib, b', sv, us, Rn', hM, rfl⟩, hf.mono (fun g _ hg => Or.inl hg), fun g hg => ?_, ?_⟩
  · rcases hg with rfl | rfl | rfl | rfl | hg | hg
    · exact Or.inl (Or.inl rfl)
    · exact Or.inr (hnew _ (Or.inl rfl))
    · exact Or.inr (hnew _ (Or.inr (Or.inl rfl)))
    · exact Or.inl (Or.inr (Or.inr (Or.inr (Or.inl rfl))))
    · exact Or.inr (hnew _ (Or.inr (Or.inr hg)))
    · exact Or.inl (Or.inr (Or.inr (Or.inr (Or.inr (Or.inr hg)))))
  · exact hf.below hbase (fun g hg => by rw [hg]; exact h.bm)
end
/-- A call of the net's: what it leaves of the machine. -/
theorem mach_net {w w' : World} {base N M : Nat} {p : MP} {n : NetP} {code : Int} {job : Value} {m nb wb ib b : Nat} {sv : Value} {us : List Value} {Rn : Nat → Prop} {e : Ending} (h : MachIn w base N p job m nb wb ib b sv us Rn) (hs : StepB base M n code b Rn w e w') (hk : n.k = p.k) :
    ∃ u, e = .returned u ∧ ErrAs code w' u ∧ OpTo base M { p with nt := n } job m (MFoot m nb wb ib sv us Rn) w w' := by
  obtain ⟨u, rfl, hu, Rn', hn, hf, hr, hb⟩ := hs
  refine ⟨u, rfl, hu, _, ⟨nb, wb, ib, b, sv, us, Rn', h.setNet hn hf hr hk, rfl⟩, hf.mono (fun g _ hg => Or.inr (Or.inr (Or.inr (Or.inr (Or.inl hg))))), fun g hg => ?_, hb⟩
  rcases hg with hg | hg | hg | hg | hg | hg
  · exact Or.inl (Or.inl hg)
  · exact Or.inl (Or.inr (Or.inl hg))
  · exact Or.inl (Or.inr (Or.inr (Or.inl hg)))
  · exact Or.inl (Or.inr (Or.inr (Or.inr (Or.inl hg))))
  · rcases hr g hg with h1 | h1
    · exact Or.inl (Or.inr (Or.inr (Or.inr (Or.inr (Or.inl h1)))))
    · exact Or.inr h1
  · exact Or.inl (Or.inr (Or.inr (Or.inr (Or.inr (Or.inr hg)))))
/-- What a call tells, and leaves. -/
def CallTo (base N : Nat) (p : MP) (code : Int) (job : Value) (m : Nat) (R : Nat → Prop) (w : World) (e : Ending) (w' : World) : Prop := ∃ u, e = .returned u ∧ ErrAs code w' u ∧ OpTo base N p job m R w w'
def netP (p : MP) (kind i : Int) : MP := { p with nt := (stepP p.nt kind i 0 ⟨#[]⟩).1 }
set_option maxRecDepth 100000 in
set_option maxHeartbeats 4000000 in
theorem mdeliver_any {w : World} {base N M : Nat} {p : MP} {job : Value} {m : Nat} {R : Nat → Prop} (h : MachB w base N p job m R) (g : Good p.nt M) (hM : M ≤ 1000) (hN : N ≤ 1000) (hbase : base ≤ w.heap.size) (i : Int) :
    Calls Tryd.prog 14 #[.pointer (some ⟨m, 0, none⟩), .int .i64 i] w (CallTo base (N + 1) (netP p 2 i) (stepP p.nt 2 i 0 ⟨#[]⟩).2 job m R w) := by
  obtain ⟨nb, wb, ib, b, sv, us, Rn, h, rfl⟩ := h
  have D := Lib.hid (deliver_b h.net g hM hN hbase i 0 ⟨#[]⟩)
  have HH := Lib.hid h
  obtain ⟨sb, so, sc, _, _, _, _, _, _, _, c6⟩ := h.cells
  clear h g
  go_enter Tryd.func14, Tryd.ntmps14
  go_wp2_with fail
  refine D.out.mono ?_; intro e w1 hs
  obtain ⟨u, rfl, hu, ho⟩ := mach_net HH.out hs (by rw [stepP_k]; exact HH.out.nk)
  have HU := Lib.hid hu; have HO := Lib.hid ho
  clear hu ho hs
  go_wp2_with fail
  go_ret
  exact ⟨_, rfl, HU.out, HO.out⟩
set_option maxRecDepth 100000 in
set_option maxHeartbeats 4000000 in
theorem mdouble_any {w : World} {base N M : Nat} {p : MP} {job : Value} {m : Nat} {R : Nat → Prop} (h : MachB w base N p job m R) (g : Good p.nt M) (hM : M ≤ 1000) (hbase : base ≤ w.heap.size) (i : Int) :
    Calls Tryd.prog 15 #[.pointer (some ⟨m, 0, none⟩), .int .i64 i] w (CallTo base (N + 1) (netP p 1 i) (stepP p.nt 1 i 0 ⟨#[]⟩).2 job m R w) := by
  obtain ⟨nb, wb, ib, b, sv, us, Rn, h, rfl⟩ := h
  have D := Lib.hid (double_b h.net g hM hbase i 0 ⟨#[]⟩)
  have HH := Lib.hid h
  obtain ⟨sb, so, sc, _, _, _, _, _, _, _, c6⟩ := h.cells
  clear h g
  go_enter Tryd.func15, Tryd.ntmps15
  go_wp2_with fail
  refine D.out.mono ?_; intro e w1 hs
  obtain ⟨u, rfl, hu, ho⟩ := mach_net HH.out hs (by rw [stepP_k]; exact HH.out.nk)
  have HU := Lib.hid hu; have HO := Lib.hid ho
  clear hu ho hs
  go_wp2_with fail
  go_ret
  exact ⟨_, rfl, HU.out, HO.out⟩
def crashN (p : MP) (N : Nat) (i : Int) : Nat := if 0 ≤ i ∧ i < p.k then 0 else N
def crashP (p : MP) (i : Int) : MP := if 0 ≤ i ∧ i < p.k then backP p else p
set_option maxRecDepth 100000 in
set_option maxHeartbeats 4000000 in
theorem mcrash_any {w : World} {base N : Nat} {p : MP} {job : Value} {m : Nat} {R : Nat → Prop} (h : MachB w base N p job m R) (hbase : base ≤ w.heap.size) (i : Int) :
    Calls Tryd.prog 16 #[.pointer (some ⟨m, 0, none⟩), .int .i64 i] w (CallTo base (crashN p N i) (crashP p i) (inW p.k i) job m R w) := by
  obtain ⟨nb, wb, ib, b, sv, us, Rn, h, rfl⟩ := h
  have C := Lib.hid (mcheck_any h i)
  have HH := Lib.hid h
  have HBS := Lib.hid hbase
  clear h
  go_enter Tryd.func16, Tryd.ntmps16
  go_wp2_with fail
  refine C.out.mono ?_; rintro e w1 ⟨hb, ⟨h0, rfl⟩ | ⟨h0, u, rfl, hf⟩⟩
  · have h1 := HH.out.below hb (Nat.le_refl _)
    have B := Lib.hid (h1.backTo (by have := hb.size; have := HBS.out; omega))
    have HB := Lib.hid hb; have H0 := Lib.hid h0
    clear hb h0 h1
    go_wp2_with fail
    refine B.out.mono ?_; rintro e w2 ⟨rfl, ho⟩
    have HO := Lib.hid ho
    clear ho
    go_wp2_with fail
    go_ret
    refine ⟨_, rfl, Or.inl ⟨H0.out, rfl⟩, ?_⟩
    have hi : 0 ≤ i ∧ i < p.k := by
      have := H0.out
      unfold inW at this
      split at this
      · assumption
      · cases this
    unfold crashP crashN
    rw [if_pos hi, if_pos hi]
    exact HO.out.after HB.out HBS.out
  · have HB := Lib.hid hb; have H0 := Lib.hid h0
    obtain ⟨fb, s, rfl, hfw⟩ := hf
    have HF := Lib.hid (show FaultAt (inW p.k i) 0 w1 (.iface 69 (.pointer (some ⟨fb, 0, none⟩))) from ⟨fb, s, rfl, hfw⟩)
    clear hb h0 hfw
    go_wp2_with fail
    go_ret
    refine ⟨_, rfl, Or.inr ⟨H0.out, HF.out⟩, ?_⟩
    have hi : ¬ (0 ≤ i ∧ i < p.k) := fun hi => H0.out (if_pos hi)
    unfold crashP crashN
    rw [if_neg hi, if_neg hi]
    exact OpTo.of_below ⟨nb, wb, ib, b, sv, us, Rn, HH.out, rfl⟩ HB.out HBS.out
end Go.Proofs.YtlopoddllfkkfaaDoor
