/- rank: ranks in memory while they are made. -/
import Derived.Test.YtgphdngfbcjmcaaGreatDoorRank3
namespace Go.Proofs.YtgphdngfbcjmcaaGreatDoor
open Go.RowKit

/-- Rows of numbers stay, and branches in blocks ahead of x. -/
def KeepT (w w' : World) (x : Nat) : Prop := ∀ (b : Nat) (t : TypeId) (cs : Array Value), Whole w b t cs → (t = 3 ∨ t = 2 ∨ (t = 65 ∧ b < x)) → Whole w' b t cs
theorem KeepT.below {w w' : World} (h : Below w.heap.size w w') (x : Nat) : KeepT w w' x := fun _ _ _ hw _ => hw.below h hw.lt
theorem KeepT.trans {w w1 w2 : World} {x : Nat} (h : KeepT w w1 x) (k : KeepT w1 w2 x) : KeepT w w2 x := fun b t cs hw ht => k b t cs (h b t cs hw ht) ht
theorem KeepT.put {w : World} {p : Addr} {t : TypeId} {cs : Array Value} (h : Whole w p.block t cs) (x : Nat) (h1 : t ≠ 3) (h2 : t ≠ 2) (h3 : t = 65 → x ≤ p.block) (u : Value) : KeepT w (w.setCell p u) x := fun b s ds hw hs => by
  refine hw.other (fun e => ?_) u
  subst e
  unfold Whole at hw h
  rw [h] at hw
  injection hw with hw
  injection hw with _ hw
  subst hw
  rcases hs with hs | hs | hs
  · exact h1 hs
  · exact h2 hs
  · have := h3 hs.1; omega
theorem own_keepT {w w' : World} {base e n x : Nat} {v : Value} {xs : List Value} (h : w.ownsRow base e 1 v n xs) (k : KeepT w w' x) (he : e = 3 ∨ e = 2) : w'.ownsRow base e 1 v n xs := by
  refine ⟨h.1, ?_⟩
  rcases h.2 with h1 | ⟨g, cap, cur, e1, e2, e3, e4⟩
  · exact Or.inl h1
  · exact Or.inr ⟨g, cap, cur, e1, e2, k g e cur e3 (by rcases he with h | h <;> simp [h]), e4⟩
/-- Branches of a row's numbers: the first k. -/
def PartO (w : World) (base g : Nat) (cs : Array Value) (R : List Int) (F G : Int → List Int) (k : Nat) : Prop :=
  Whole w g 65 cs ∧ cs.size = R.length * 2 ∧ ∀ t, t < k → ∃ tt ends, cs[t * 2]? = some tt ∧ cs[t * 2 + 1]? = some ends ∧ w.ownsRow base 3 1 tt (F (R.getD t 0)).length (intCells (F (R.getD t 0))) ∧ w.ownsRow base 2 1 ends (G (R.getD t 0)).length (intCells (G (R.getD t 0)))
def LevO (w : World) (base x : Nat) (v : Value) (R : List Int) (F G : Int → List Int) : Prop := ∃ g cs, v = .slice (some ⟨g, 0, none⟩) R.length R.length ∧ g < x ∧ PartO w base g cs R F G R.length
section
variable {w w' : World} {base g x y : Nat} {cs : Array Value} {R : List Int} {F G : Int → List Int} {k : Nat}
theorem PartO.keep (h : PartO w base g cs R F G k) (hk : KeepT w w' x) (hw : Whole w' g 65 cs) : PartO w' base g cs R F G k := by
  obtain ⟨_, h2, h3⟩ := h
  refine ⟨hw, h2, fun t ht => ?_⟩
  obtain ⟨tt, ends, k1, k2, k3, k4⟩ := h3 t ht
  exact ⟨tt, ends, k1, k2, own_keepT k3 hk (Or.inl rfl), own_keepT k4 hk (Or.inr rfl)⟩
theorem LevO.keep {v : Value} (h : LevO w base x v R F G) (hk : KeepT w w' y) (hxy : x ≤ y) : LevO w' base x v R F G := by
  obtain ⟨g, cs, e, hg, hp⟩ := h
  exact ⟨g, cs, e, hg, hp.keep hk (hk g _ cs hp.1 (Or.inr (Or.inr ⟨rfl, by omega⟩)))⟩
theorem LevO.mono {v : Value} (h : LevO w base x v R F G) (hxy : x ≤ y) : LevO w base y v R F G := by
  obtain ⟨g, cs, e, hg, hp⟩ := h
  exact ⟨g, cs, e, by omega, hp⟩
/-- One more. -/
theorem PartO.put {tt ends : Value} (h : PartO w base g cs R F G k) (hk : k < R.length) (ht : w.ownsRow base 3 1 tt (F (R.getD k 0)).length (intCells (F (R.getD k 0)))) (he : w.ownsRow base 2 1 ends (G (R.getD k 0)).length (intCells (G (R.getD k 0)))) :
    PartO ((w.setCell ⟨g, k * 2, none⟩ tt).setCell ⟨g, k * 2 + 1, none⟩ ends) base g ((cs.setIfInBounds (k * 2) tt).setIfInBounds (k * 2 + 1) ends) R F G (k + 1) := by
  obtain ⟨h1, h2, h3⟩ := h
  have n1 : 3 ≠ 65 := by decide
  have n2 : 2 ≠ 65 := by decide
  have p1 := h1.put (k * 2) tt
  have keepI : ∀ {v : Value} {n : Nat} {xs : List Value}, w.ownsRow base 3 1 v n xs → ((w.setCell ⟨g, k * 2, none⟩ tt).setCell ⟨g, k * 2 + 1, none⟩ ends).ownsRow base 3 1 v n xs := fun ho => by
    have a1 := own_put (p := ⟨g, k * 2, none⟩) ho (own_ne ho h1 n1) tt
    exact own_put (p := ⟨g, k * 2 + 1, none⟩) a1 (own_ne a1 p1 n1) ends
  have keepL : ∀ {v : Value} {n : Nat} {xs : List Value}, w.ownsRow base 2 1 v n xs → ((w.setCell ⟨g, k * 2, none⟩ tt).setCell ⟨g, k * 2 + 1, none⟩ ends).ownsRow base 2 1 v n xs := fun ho => by
    have a1 := own_put (p := ⟨g, k * 2, none⟩) ho (own_ne ho h1 n2) tt
    exact own_put (p := ⟨g, k * 2 + 1, none⟩) a1 (own_ne a1 p1 n2) ends
  refine ⟨p1.put (k * 2 + 1) ends, by simp [h2], fun t htk => ?_⟩
  rcases (by omega : t < k ∨ t = k) with h4 | rfl
  · obtain ⟨a, b, k1, k2, k3, k4⟩ := h3 t h4
    refine ⟨a, b, ?_, ?_, keepI k3, keepL k4⟩
    · rw [Array.getElem?_setIfInBounds_ne (by omega), Array.getElem?_setIfInBounds_ne (by omega)]; exact k1
    · rw [Array.getElem?_setIfInBounds_ne (by omega), Array.getElem?_setIfInBounds_ne (by omega)]; exact k2
  · refine ⟨tt, ends, ?_, ?_, keepI ht, keepL he⟩
    · rw [Array.getElem?_setIfInBounds_ne (by omega), Array.getElem?_setIfInBounds_self_of_lt (by omega)]
    · rw [Array.getElem?_setIfInBounds_self_of_lt (by simp; omega)]
end
/-- Long numbers read as numbers. -/
theorem own_seqL {w : World} {base n : Nat} {v : Value} {L : List Int} (h : w.ownsRow base 2 1 v n (intCells L)) : SeqV w v L := by
  have hn : L.length = n := by have := h.1; simp [intCells] at this; omega
  subst hn
  have h0 := h
  unfold SeqV
  rcases h.2 with ⟨rfl, h1⟩ | ⟨g, cap, cur, rfl, _, hh, hcap, _⟩
  · exact Or.inl ⟨h1, _, _, rfl⟩
  · rcases Nat.eq_zero_or_pos L.length with h3 | h3
    · exact Or.inl ⟨h3, _, _, by rw [h3]⟩
    · refine Or.inr ⟨h3, g, 0, cap, rfl, fun i hi => ?_⟩
      rw [Nat.zero_add, h0.cellAt i (by omega)]
      simp [intCells, List.getD, hi]
/-- What is held so far: rows from i on, branches from i' on. -/
def RkD (w : World) (base n i i' x : Nat) (C : List (List Int)) (us vs : List Value) : Prop :=
  us.length = n ∧ vs.length = n ∧ (∀ j, i ≤ j → j < n → ∃ u, us[j]? = some u ∧ w.ownsRow base 3 1 u (rowP C j).length (intCells (rowP C j))) ∧
    ∀ j, i' ≤ j → j < n → ∃ v, vs[j]? = some v ∧ LevO w base x v (rowP C j) (nxt n C j) (nxE n C j)
section
variable {w w' : World} {base n i i' x y : Nat} {C : List (List Int)} {us vs : List Value}
theorem RkD.keep (h : RkD w base n i i' x C us vs) (hk : KeepT w w' y) (hxy : x ≤ y) : RkD w' base n i i' x C us vs := by
  obtain ⟨h1, h2, h3, h4⟩ := h
  refine ⟨h1, h2, fun j hj hn => ?_, fun j hj hn => ?_⟩
  · obtain ⟨u, k1, k2⟩ := h3 j hj hn
    exact ⟨u, k1, own_keepT k2 hk (Or.inl rfl)⟩
  · obtain ⟨v, k1, k2⟩ := h4 j hj hn
    exact ⟨v, k1, k2.keep hk hxy⟩
theorem RkD.mono (h : RkD w base n i i' x C us vs) (hxy : x ≤ y) : RkD w base n i i' y C us vs := by
  obtain ⟨h1, h2, h3, h4⟩ := h
  refine ⟨h1, h2, h3, fun j hj hn => ?_⟩
  obtain ⟨v, k1, k2⟩ := h4 j hj hn
  exact ⟨v, k1, k2.mono hxy⟩
theorem RkD.row {u : Value} (h : RkD w base n (i + 1) i' x C us vs) (hi : i < n) (ho : w.ownsRow base 3 1 u (rowP C i).length (intCells (rowP C i))) : RkD w base n i i' x C (us.set i u) vs := by
  obtain ⟨h1, h2, h3, h4⟩ := h
  refine ⟨by simpa using h1, h2, fun j hj hn => ?_, h4⟩
  by_cases hij : i = j
  · subst hij
    exact ⟨u, List.getElem?_set_self (by omega), ho⟩
  · obtain ⟨u', k1, k2⟩ := h3 j (by omega) hn
    exact ⟨u', by rw [List.getElem?_set_ne hij]; exact k1, k2⟩
theorem RkD.lev {v : Value} (h : RkD w base n i (i' + 1) x C us vs) (hv : vs[i']? = some v) (hl : LevO w base x v (rowP C i') (nxt n C i') (nxE n C i')) : RkD w base n i i' x C us vs := by
  obtain ⟨h1, h2, h3, h4⟩ := h
  refine ⟨h1, h2, h3, fun j hj hn => ?_⟩
  by_cases hij : i' = j
  · subst hij
    exact ⟨v, hv, hl⟩
  · exact h4 j (by omega) hn
theorem RkD.setV {v : Value} (h : RkD w base n i (i' + 1) x C us vs) : RkD w base n i (i' + 1) x C us (vs.set i' v) := by
  obtain ⟨h1, h2, h3, h4⟩ := h
  refine ⟨h1, by simpa using h2, h3, fun j hj hn => ?_⟩
  obtain ⟨u', k1, k2⟩ := h4 j hj hn
  exact ⟨u', by rw [List.getElem?_set_ne (by omega)]; exact k1, k2⟩
end
/-- Ranks while they are made. -/
def RkM (w0 : World) (rb Bk Bb n i i' x : Nat) (C : List (List Int)) (us vs : List Value) (w : World) : Prop :=
  Whole w rb 67 #[.slice (some ⟨Bk, 0, none⟩) n n, .slice none 0 0, .slice none 0 0, .slice (some ⟨Bb, 0, none⟩) n n] ∧ Whole w Bk 23 us.toArray ∧ Whole w Bb 69 vs.toArray ∧
    RkD w w0.heap.size n i i' x C us vs ∧ Below w0.heap.size w0 w
theorem RkM.below {w0 w w' : World} {rb Bk Bb n i i' x : Nat} {C : List (List Int)} {us vs : List Value} (h : RkM w0 rb Bk Bb n i i' x C us vs w) (hb : Below w.heap.size w w') : RkM w0 rb Bk Bb n i i' x C us vs w' := by
  obtain ⟨h1, h2, h3, h4, h5⟩ := h
  exact ⟨h1.below hb h1.lt, h2.below hb h2.lt, h3.below hb h3.lt, h4.keep (KeepT.below hb x) (Nat.le_refl _), h5.trans (hb.mono h5.size)⟩
/-- What can be read of a place that is held. -/
theorem lev_of {w : World} {rb Bk Bb base n i i' x j : Nat} {C : List (List Int)} {us vs : List Value} (c0 : w.cell? ⟨rb, 0, none⟩ = some (.slice (some ⟨Bk, 0, none⟩) n n)) (c3 : w.cell? ⟨rb, 3, none⟩ = some (.slice (some ⟨Bb, 0, none⟩) n n)) (h2 : Whole w Bk 23 us.toArray) (h3 : Whole w Bb 69 vs.toArray)
    (h4 : RkD w base n i i' x C us vs) (hj : i ≤ j) (hj' : i' ≤ j) (hn : j < n) : RkLev w rb n C j := by
  obtain ⟨k1, k2, k3, k4⟩ := h4
  obtain ⟨u, u1, u2⟩ := k3 j hj hn
  obtain ⟨v, v1, g, cs, rfl, hg, p1, p2, p3⟩ := k4 j hj' hn
  refine ⟨Bk, Bb, g, c0, c3, ⟨u, by rw [h2.cell j, List.getElem?_toArray, u1], own_seq u2⟩, by rw [h3.cell j, List.getElem?_toArray, v1], fun t ht => ?_⟩
  obtain ⟨tt, ends, q1, q2, q3, q4⟩ := p3 t ht
  exact ⟨tt, ends, by rw [p1.cell]; exact q1, by rw [p1.cell]; exact q2, own_seq q3, own_seqL q4⟩
theorem RkM.lev {w0 w : World} {rb Bk Bb n i i' x j : Nat} {C : List (List Int)} {us vs : List Value} (h : RkM w0 rb Bk Bb n i i' x C us vs w) (hj : i ≤ j) (hj' : i' ≤ j) (hn : j < n) : RkLev w rb n C j := by
  obtain ⟨h1, h2, h3, h4, h5⟩ := h
  exact lev_of (h1.cell 0) (h1.cell 3) h2 h3 h4 hj hj' hn
theorem whole_ne {w : World} {a b : Nat} {t s : TypeId} {cs ds : Array Value} (h : Whole w a t cs) (k : Whole w b s ds) (hne : t ≠ s) : a ≠ b := fun e => by
  subst e
  unfold Whole at h k
  rw [h] at k
  injection k with k
  injection k with _ k
  exact hne k
section
variable {w0 w : World} {rb Bk Bb n i i' x : Nat} {C : List (List Int)} {us vs : List Value}
theorem RkM.rowPut {u : Value} (h : RkM w0 rb Bk Bb n (i + 1) i' x C us vs w) (hi : i < n) (ho : w.ownsRow w0.heap.size 3 1 u (rowP C i).length (intCells (rowP C i))) (hB : w0.heap.size ≤ Bk) :
    RkM w0 rb Bk Bb n i i' x C (us.set i u) vs (w.setCell ⟨Bk, i, none⟩ u) := by
  obtain ⟨h1, h2, h3, h4, h5⟩ := h
  have kp := KeepT.put (p := ⟨Bk, i, none⟩) h2 x (by decide) (by decide) (fun e => absurd e (by decide)) u
  refine ⟨h1.other (p := ⟨Bk, i, none⟩) (whole_ne h1 h2 (by decide)) u, ?_, h3.other (p := ⟨Bk, i, none⟩) (whole_ne h3 h2 (by decide)) u, (h4.keep kp (Nat.le_refl _)).row hi (own_keepT ho kp (Or.inl rfl)), h5.setCell hB u⟩
  have := h2.put i u
  rwa [List.setIfInBounds_toArray] at this
theorem RkM.setB {v : Value} (h : RkM w0 rb Bk Bb n i (i' + 1) x C us vs w) (hB : w0.heap.size ≤ Bb) :
    RkM w0 rb Bk Bb n i (i' + 1) x C us (vs.set i' v) (w.setCell ⟨Bb, i', none⟩ v) := by
  obtain ⟨h1, h2, h3, h4, h5⟩ := h
  have kp := KeepT.put (p := ⟨Bb, i', none⟩) h3 x (by decide) (by decide) (fun e => absurd e (by decide)) v
  refine ⟨h1.other (p := ⟨Bb, i', none⟩) (whole_ne h1 h3 (by decide)) v, h2.other (p := ⟨Bb, i', none⟩) (whole_ne h2 h3 (by decide)) v, ?_, (h4.keep kp (Nat.le_refl _)).setV, h5.setCell hB v⟩
  have := h3.put i' v
  rwa [List.setIfInBounds_toArray] at this
theorem RkM.setG {g k : Nat} {u : Value} {cs : Array Value} (h : RkM w0 rb Bk Bb n i i' x C us vs w) (hg : Whole w g 65 cs) (hx : x ≤ g) (hB : w0.heap.size ≤ g) : RkM w0 rb Bk Bb n i i' x C us vs (w.setCell ⟨g, k, none⟩ u) := by
  obtain ⟨h1, h2, h3, h4, h5⟩ := h
  have kp := KeepT.put (p := ⟨g, k, none⟩) hg x (by decide) (by decide) (fun _ => hx) u
  exact ⟨h1.other (p := ⟨g, k, none⟩) (whole_ne h1 hg (by decide)) u, h2.other (p := ⟨g, k, none⟩) (whole_ne h2 hg (by decide)) u, h3.other (p := ⟨g, k, none⟩) (whole_ne h3 hg (by decide)) u, h4.keep kp (Nat.le_refl _), h5.setCell hB u⟩
theorem RkM.done {v : Value} {y : Nat} (h : RkM w0 rb Bk Bb n i (i' + 1) x C us vs w) (hxy : x ≤ y) (hv : vs[i']? = some v) (hl : LevO w w0.heap.size y v (rowP C i') (nxt n C i') (nxE n C i')) : RkM w0 rb Bk Bb n i i' y C us vs w := by
  obtain ⟨h1, h2, h3, h4, h5⟩ := h
  exact ⟨h1, h2, h3, (h4.mono hxy).lev hv hl, h5⟩
end
theorem three_laid (W : World) (t1 t2 t3 : TypeId) (c1 c2 c3 : Array Value) : Whole (((W.alloc (.cells c1 t1)).alloc (.cells c2 t2)).alloc (.cells c3 t3)) W.heap.size t1 c1 ∧ Whole (((W.alloc (.cells c1 t1)).alloc (.cells c2 t2)).alloc (.cells c3 t3)) (W.heap.size + 1) t2 c2 ∧
    Whole (((W.alloc (.cells c1 t1)).alloc (.cells c2 t2)).alloc (.cells c3 t3)) (W.heap.size + 1 + 1) t3 c3 ∧ Below W.heap.size W (((W.alloc (.cells c1 t1)).alloc (.cells c2 t2)).alloc (.cells c3 t3)) := by
  refine ⟨((Whole.new W t1 c1).alloc _).alloc _, ?_, ?_, (((Below.refl _ _).alloc (Nat.le_refl _) _).alloc (by simp) _).alloc (by simp; omega) _⟩
  · have := (Whole.new (W.alloc (.cells c1 t1)) t2 c2).alloc (.cells c3 t3)
    rwa [World.size_alloc] at this
  · have := Whole.new ((W.alloc (.cells c1 t1)).alloc (.cells c2 t2)) t3 c3
    rwa [World.size_alloc, World.size_alloc] at this
/-- Where ranks are laid. -/
def RkCut (w : World) (n : Nat) (C : List (List Int)) (v : Value) (wx : World) : Prop :=
  ∃ rb Bk Bb us vs, v = .pointer (some ⟨rb, 0, none⟩) ∧ w.heap.size ≤ rb ∧ w.heap.size ≤ Bk ∧ w.heap.size ≤ Bb ∧ RkM w rb Bk Bb n n n 0 C us vs wx
theorem made_nil (n : Nat) : madeCells #[Value.slice none 0 0] n = (List.replicate n (Value.slice none 0 0)).toArray := by
  rw [← Array.toList_inj, toList_madeCells_one]
theorem rk_laid {w wx : World} {rb Bk Bb n : Nat} {C : List (List Int)} (h1 : Whole wx rb 67 #[.slice (some ⟨Bk, 0, none⟩) n n, .slice none 0 0, .slice none 0 0, .slice (some ⟨Bb, 0, none⟩) n n])
    (h2 : Whole wx Bk 23 (madeCells #[.slice none 0 0] n)) (h3 : Whole wx Bb 69 (madeCells #[.slice none 0 0] n)) (hb : Below w.heap.size w wx) (r1 : w.heap.size ≤ rb) (r2 : w.heap.size ≤ Bk) (r3 : w.heap.size ≤ Bb) : RkCut w n C (.pointer (some ⟨rb, 0, none⟩)) wx := by
  rw [made_nil] at h2 h3
  exact ⟨rb, Bk, Bb, _, _, rfl, r1, r2, r3, h1, h2, h3, ⟨by simp, by simp, fun j h k => by omega, fun j h k => by omega⟩, hb⟩
theorem infoBrs : (Tryz.prog.info? 69).map (fun i => (i.zero, i.size, i.bytes)) = some (some (.slice none 0 0), 1, 24) := by kernel_rfl
theorem run_brss (n : Nat) (hn : n ≤ 1000000) (V : World) : (Instr.makeSlice 62 (.int .i64 (n : Nat)) (.int .i64 (n : Nat))).run Tryz.prog V = .ok (.slice (some ⟨V.heap.size, 0, none⟩) n n) (V.alloc (.cells (madeCells #[.slice none 0 0] n) 69)) := by
  obtain ⟨j1, hi1, ky0, ky1, ky2⟩ := info_parts infoBrs
  have h := run_make (P := Tryz.prog) V 62 69 j1 (.slice none 0 0) Tryz.underlying62 hi1 ky0 .i64 .i64 (n : Int) (n : Int) (by omega) (by omega) (by rw [ky2]; omega) (by omega)
  rw [h, ky1, Int.toNat_natCast, Nat.mul_one]
  rfl
theorem infoBr : (Tryz.prog.info? 65).map (fun i => (i.zero, i.size, i.bytes)) = some (some (.agg #[.slice none 0 0, .slice none 0 0]), 2, 48) := by kernel_rfl
theorem run_brs (n : Nat) (hn : n ≤ 1000000) (V : World) : (Instr.makeSlice 69 (.int .i64 (n : Nat)) (.int .i64 (n : Nat))).run Tryz.prog V = .ok (.slice (some ⟨V.heap.size, 0, none⟩) n n) (V.alloc (.cells (madeCells #[.slice none 0 0, .slice none 0 0] (n * 2)) 65)) := by
  obtain ⟨j1, hi1, ky0, ky1, ky2⟩ := info_parts infoBr
  have h := run_make (P := Tryz.prog) V 69 65 j1 (.agg #[.slice none 0 0, .slice none 0 0]) Tryz.underlying69 hi1 ky0 .i64 .i64 (n : Int) (n : Int) (by omega) (by omega) (by rw [ky2]; omega) (by omega)
  rw [h, ky1, Int.toNat_natCast]
  rfl
/-- Branches just made, of which none is asked. -/
theorem part_made {w : World} {base g m : Nat} {R : List Int} {F G : Int → List Int} (h : Whole w g 65 (madeCells #[.slice none 0 0, .slice none 0 0] (m * 2))) (hm : R.length = m) : PartO w base g (madeCells #[.slice none 0 0, .slice none 0 0] (m * 2)) R F G 0 :=
  ⟨h, by rw [size_madeCells, hm], fun t ht => by omega⟩
theorem made_pair (m k : Nat) (h : k < m * 2) : (madeCells #[Value.slice none 0 0, .slice none 0 0] (m * 2))[k]? = some (.slice none 0 0) := by
  have h0 : k < (madeCells #[Value.slice none 0 0, .slice none 0 0] (m * 2)).size := by rw [size_madeCells]; exact h
  rw [Array.getElem?_eq_getElem h0]
  unfold madeCells
  rcases (by omega : k % 2 = 0 ∨ k % 2 = 1) with h1 | h1 <;> simp [h1]
theorem part_last {w : World} {base g m n i : Nat} {C : List (List Int)} (h : Whole w g 65 (madeCells #[.slice none 0 0, .slice none 0 0] (m * 2))) (hm : (rowP C i).length = m) (hi : ¬ i + 1 < n) :
    PartO w base g (madeCells #[.slice none 0 0, .slice none 0 0] (m * 2)) (rowP C i) (nxt n C i) (nxE n C i) (rowP C i).length := by
  refine ⟨h, by rw [size_madeCells, hm], fun t ht => ⟨_, _, made_pair m _ (by omega), made_pair m _ (by omega), ?_, ?_⟩⟩
  · have : nxt n C i ((rowP C i).getD t 0) = [] := by unfold nxt; rw [if_neg hi]
    rw [this]
    exact World.ownsRow_nil w base _ 1
  · have : nxE n C i ((rowP C i).getD t 0) = [] := by unfold nxE nxt; rw [if_neg hi]; rfl
    rw [this]
    exact World.ownsRow_nil w base _ 1
end Go.Proofs.YtgphdngfbcjmcaaGreatDoor
