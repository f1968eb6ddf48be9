/- A machine and what the law reckons beside it. -/
import Derived.Test.YtlopoddllfkkfaaDoorBarM
import Derived.Test.YtlopoddllfkkfaaDoorRnd20
namespace Go.Proofs.YtlopoddllfkkfaaDoor
open Go.RowKit

/-- A machine, the states and boxes that are reckoned, and who has worked. -/
structure PlayR (TL : List (List Int)) (p0 p : MP) (vt : Value) (ba q m : Nat) (wv iv : Value) (kb : Nat) (ST : List ByteArray) (BX : List (List ByteArray)) (WK : List Bool) (R : Nat → Prop) (w2 w : World) : Prop where
  law : LawM TL p0 vt ba q m R p w
  bel : Below ba w2 w
  lists : ∀ W, Below ba w2 W → ListsV W vt TL
  base : ba ≤ w2.heap.size
  want : ValsV w wv (txtC ST)
  wf : ∀ g, wv.ownBlock = some g → g < w.heap.size ∧ ¬ R g ∧ g ≠ kb
  box : ∃ us : List Value, us.length = BX.length ∧ ValsV w iv us ∧ (∀ (i : Nat) (u : Value) (X : List ByteArray), us[i]? = some u → BX[i]? = some X → ValsV w u (txtC X)) ∧ ∀ g, Stat iv us g → g < w.heap.size ∧ ¬ R g ∧ g ≠ kb
  wk : Whole w kb 4 (boolC WK).toArray
  wkr : ¬ R kb
  kba : ba ≤ kb
section
variable {TL : List (List Int)} {p0 p p' : MP} {vt : Value} {ba q q' m kb : Nat} {wv iv : Value} {ST ST' : List ByteArray} {BX BX' : List (List ByteArray)} {WK WK' : List Bool} {R : Nat → Prop} {w2 w w' : World}
theorem PlayR.size (h : PlayR TL p0 p vt ba q m wv iv kb ST BX WK R w2 w) : ba ≤ w.heap.size := Nat.le_trans h.base h.bel.size
theorem PlayR.rows (h : PlayR TL p0 p vt ba q m wv iv kb ST BX WK R w2 w) : RowsT w iv BX := by
  obtain ⟨us, h1, h2, h3, _⟩ := h.box
  exact ⟨us, h1, h2, h3⟩
/-- The world turned elsewhere; the machine may have. -/
theorem PlayR.move {R' Q : Nat → Prop} (h : PlayR TL p0 p vt ba q m wv iv kb ST BX WK R w2 w) (hl : LawM TL p0 vt ba q' m R' p' w') (hf : Fr w.heap.size Q w w') (hb : Below ba w w') (hQ : ∀ g, g < w.heap.size → ¬ R g → ¬ Q g) (hR : ∀ g, R' g → R g ∨ w.heap.size ≤ g) : PlayR TL p0 p' vt ba q' m wv iv kb ST BX WK R' w2 w' := by
  have hk : ∀ g, g < w.heap.size → ¬ R g → w'.heap[g]? = w.heap[g]? := fun g h1 h2 => hf.block g h1 (hQ g h1 h2)
  have hn : ∀ g, g < w.heap.size → ¬ R g → ¬ R' g := fun g h1 h2 h3 => by
    rcases hR g h3 with e | e
    · exact h2 e
    · omega
  have hs := hf.size
  obtain ⟨us, b1, b2, b3, b4⟩ := h.box
  exact {
    law := hl
    bel := h.bel.trans hb
    lists := h.lists
    base := h.base
    want := h.want.stay (fun g hg => hk g (h.wf g hg).1 (h.wf g hg).2.1)
    wf := fun g hg => ⟨by have := (h.wf g hg).1; omega, hn g (h.wf g hg).1 (h.wf g hg).2.1, (h.wf g hg).2.2⟩
    box := ⟨us, b1, b2.stay (fun g hg => hk g (b4 g (Or.inl hg)).1 (b4 g (Or.inl hg)).2.1), fun i u X h1 h2 => (b3 i u X h1 h2).stay (fun g hg => hk g (b4 g (Or.inr ⟨i, u, h1, hg⟩)).1 (b4 g (Or.inr ⟨i, u, h1, hg⟩)).2.1), fun g hg => ⟨by have := (b4 g hg).1; omega, hn g (b4 g hg).1 (b4 g hg).2.1, (b4 g hg).2.2⟩⟩
    wk := h.wk.stay (hk kb h.wk.lt h.wkr)
    wkr := hn kb h.wk.lt h.wkr
    kba := h.kba }
theorem PlayR.below (h : PlayR TL p0 p vt ba q m wv iv kb ST BX WK R w2 w) (hb : Below w.heap.size w w') : PlayR TL p0 p vt ba q m wv iv kb ST BX WK R w2 w' :=
  h.move (h.law.below hb) (Fr.of_below (R := fun _ => False) hb (Nat.le_refl _)) (hb.mono h.size) (fun _ _ _ h => h) (fun _ h => Or.inl h)
theorem PlayR.op (h : PlayR TL p0 p vt ba q m wv iv kb ST BX WK R w2 w) (ho : LawTo TL p0 vt ba q' m R p' w w') : ∃ R', PlayR TL p0 p' vt ba q' m wv iv kb ST BX WK R' w2 w' := by
  obtain ⟨R', k1, k2, k3, k4⟩ := ho
  exact ⟨R', h.move k1 k2 k4 (fun g _ h => h) k3⟩
/-- A worker is put down as one that has worked. -/
theorem PlayR.put (h : PlayR TL p0 p vt ba q m wv iv kb ST BX WK R w2 w) (i : Nat) (b : Bool) : PlayR TL p0 p vt ba q m wv iv kb ST BX (WK.set i b) R w2 (w.setCell ⟨kb, i, none⟩ (.bool b)) := by
  have hf : Fr w.heap.size (fun g => g = kb) w (w.setCell ⟨kb, i, none⟩ (.bool b)) := Fr.of_grown (grown_cell w kb i _) (Nat.le_refl _) (fun g hg _ => (Option.some.inj hg).symm)
  have hk : ∀ g, g < w.heap.size → g ≠ kb → (w.setCell ⟨kb, i, none⟩ (.bool b)).heap[g]? = w.heap[g]? := fun g h1 h2 => hf.block g h1 h2
  obtain ⟨us, b1, b2, b3, b4⟩ := h.box
  exact {
    law := h.law.stay hf (fun g hg e => h.wkr (e ▸ hg))
    bel := h.bel.trans ((Below.refl _ _).setCell h.kba _)
    lists := h.lists
    base := h.base
    want := h.want.stay (fun g hg => hk g (h.wf g hg).1 (h.wf g hg).2.2)
    wf := fun g hg => ⟨by rw [size_put]; exact (h.wf g hg).1, (h.wf g hg).2⟩
    box := ⟨us, b1, b2.stay (fun g hg => hk g (b4 g (Or.inl hg)).1 (b4 g (Or.inl hg)).2.2), fun i u X h1 h2 => (b3 i u X h1 h2).stay (fun g hg => hk g (b4 g (Or.inr ⟨i, u, h1, hg⟩)).1 (b4 g (Or.inr ⟨i, u, h1, hg⟩)).2.2), fun g hg => ⟨by rw [size_put]; exact (b4 g hg).1, (b4 g hg).2⟩⟩
    wk := by
      have h9 := h.wk.put i (.bool b)
      rw [bool_set] at h9
      exact h9
    wkr := h.wkr
    kba := h.kba }
/-- A new list of who has worked. -/
theorem PlayR.made (h : PlayR TL p0 p vt ba q m wv iv kb ST BX WK R w2 w) (WK' : List Bool) : PlayR TL p0 p vt ba q m wv iv w.heap.size ST BX WK' R w2 (w.alloc (.cells (boolC WK').toArray 4)) := by
  have hb : Below w.heap.size w (w.alloc (.cells (boolC WK').toArray 4)) := (Below.refl _ _).alloc (Nat.le_refl _) _
  have h1 := h.below hb
  obtain ⟨us, b1, b2, b3, b4⟩ := h1.box
  obtain ⟨us', c1, c2, c3, c4⟩ := h.box
  exact { h1 with
    wf := fun g hg => ⟨(h1.wf g hg).1, (h1.wf g hg).2.1, Nat.ne_of_lt (h.wf g hg).1⟩
    box := ⟨us', c1, c2.below hb (Nat.le_refl _), fun i u X h1 h2 => (c3 i u X h1 h2).below hb (Nat.le_refl _), fun g hg => ⟨by have := (c4 g hg).1; have := hb.size; omega, (c4 g hg).2.1, Nat.ne_of_lt (c4 g hg).1⟩⟩
    wk := Whole.new w _ _
    wkr := fun hr => by have := (h.law.1.foot hr).2; omega
    kba := h.size }
/-- The states and boxes of the next round. -/
theorem PlayR.next {vo vb : Value} {k : Nat} (h : PlayR TL p0 p vt ba q m wv iv kb ST BX WK R w2 w) (hb : Below w.heap.size w w') (ho : w'.ownsRow w.heap.size 9 1 vo k (txtC ST')) (hr : RowsO w' w.heap.size vb BX') : PlayR TL p0 p vt ba q m vo vb kb ST' BX' WK R w2 w' := by
  have h1 := h.below hb
  have hlt := h.wk.lt
  have hR : ∀ g, w.heap.size ≤ g → ¬ R g := fun g hg hr => by have := (h.law.1.foot hr).2; omega
  obtain ⟨ib, us, rfl, k1, k2, k3⟩ := hr
  exact { h1 with
    want := own_vals ho
    wf := fun g hg => ⟨(ho.lt g hg).2, hR g (ho.lt g hg).1, by have := (ho.lt g hg).1; omega⟩
    box := by
      refine ⟨us, k3.len, ?_, fun i u X h1 h2 => own_vals (k3.row i u X h1 h2), fun g hg => ?_⟩
      · by_cases h0 : 0 < us.length
        · refine Or.inr ⟨h0, ib, 0, BX'.length, by rw [k3.len], fun i _ => ?_⟩
          rw [k2.cell]; simp
        · have e : us = [] := List.eq_nil_of_length_eq_zero (by omega)
          exact Or.inl ⟨e, _, _, by rw [← k3.len, e]; rfl⟩
      · rcases hg with hg | ⟨i, u, hu, hg⟩
        · have e : ib = g := by simpa [Value.ownBlock] using hg
          subst e
          exact ⟨k2.lt, hR _ k1, by omega⟩
        · have hi : i < us.length := (List.getElem?_eq_some_iff.1 hu).1
          have hl : i < BX'.length := by rw [← k3.len]; exact hi
          have h9 := (k3.row i u _ hu (List.getElem?_eq_getElem hl)).lt g hg
          exact ⟨h9.2, hR g h9.1, by omega⟩ }
end
/-- The same, whatever blocks the machine lies in. -/
def PlayS (TL : List (List Int)) (p0 : MP) (vt : Value) (ba m : Nat) (w2 : World) (q : Nat) (p : MP) (wv iv : Value) (kb : Nat) (ST : List ByteArray) (BX : List (List ByteArray)) (WK : List Bool) (w : World) : Prop :=
  ∃ R, PlayR TL p0 p vt ba q m wv iv kb ST BX WK R w2 w
section
variable {TL : List (List Int)} {p0 p p' : MP} {vt : Value} {ba q q' m kb : Nat} {wv iv : Value} {ST ST' : List ByteArray} {BX BX' : List (List ByteArray)} {WK WK' : List Bool} {w2 w w' : World}
theorem PlayS.below (h : PlayS TL p0 vt ba m w2 q p wv iv kb ST BX WK w) (hb : Below w.heap.size w w') : PlayS TL p0 vt ba m w2 q p wv iv kb ST BX WK w' := by
  obtain ⟨R, h⟩ := h
  exact ⟨R, h.below hb⟩
theorem PlayS.bel (h : PlayS TL p0 vt ba m w2 q p wv iv kb ST BX WK w) : Below ba w2 w := by
  obtain ⟨R, h⟩ := h
  exact h.bel
theorem PlayS.inv (h : PlayS TL p0 vt ba m w2 q p wv iv kb ST BX WK w) : MInv TL q p := by
  obtain ⟨R, h⟩ := h
  exact h.law.2.1
theorem PlayS.mono (h : PlayS TL p0 vt ba m w2 q p wv iv kb ST BX WK w) (hq : q ≤ q') : PlayS TL p0 vt ba m w2 q' p wv iv kb ST BX WK w := by
  obtain ⟨R, h⟩ := h
  obtain ⟨⟨nb, wb, ib, b, sv, us, Rn, hm, rfl⟩, h2, h3⟩ := h.law
  exact ⟨_, { h with law := ⟨⟨nb, wb, ib, b, sv, us, Rn, hm.mono (by omega), rfl⟩, h2.mono hq, h3⟩ }⟩
theorem pwork (h : PlayS TL p0 vt ba m w2 q p wv iv kb ST BX WK w) (hq : q ≤ 300) (i : Int) :
    Calls Tryd.prog 12 #[.pointer (some ⟨m, 0, none⟩), .int .i64 i] w fun e w' => ∃ u, e = .returned u ∧ ErrAs (workC p i) w' u ∧ PlayS TL p0 vt ba m w2 q (workQ TL p i) wv iv kb ST BX WK w' := by
  obtain ⟨R, h⟩ := h
  refine (lwork h.law h.size hq (fun W hW => h.lists W (h.bel.trans hW)) i).mono ?_
  rintro e w' ⟨u, rfl, hu, ho⟩
  exact ⟨u, rfl, hu, h.op ho⟩
theorem pdeliver (h : PlayS TL p0 vt ba m w2 q p wv iv kb ST BX WK w) (hq : q ≤ 300) (i : Int) :
    Calls Tryd.prog 14 #[.pointer (some ⟨m, 0, none⟩), .int .i64 i] w fun e w' => ∃ u, e = .returned u ∧ ErrAs (stepP p.nt 2 i 0 ⟨#[]⟩).2 w' u ∧ PlayS TL p0 vt ba m w2 (q + 1) (netP p 2 i) wv iv kb ST BX WK w' := by
  obtain ⟨R, h⟩ := h
  refine (ldeliver h.law h.size hq i).mono ?_
  rintro e w' ⟨u, rfl, hu, ho⟩
  exact ⟨u, rfl, hu, h.op ho⟩
theorem pdouble (h : PlayS TL p0 vt ba m w2 q p wv iv kb ST BX WK w) (hq : q ≤ 300) (i : Int) :
    Calls Tryd.prog 15 #[.pointer (some ⟨m, 0, none⟩), .int .i64 i] w fun e w' => ∃ u, e = .returned u ∧ ErrAs (stepP p.nt 1 i 0 ⟨#[]⟩).2 w' u ∧ PlayS TL p0 vt ba m w2 (q + 1) (netP p 1 i) wv iv kb ST BX WK w' := by
  obtain ⟨R, h⟩ := h
  refine (ldouble h.law h.size hq i).mono ?_
  rintro e w' ⟨u, rfl, hu, ho⟩
  exact ⟨u, rfl, hu, h.op ho⟩
theorem pcrash (h : PlayS TL p0 vt ba m w2 q p wv iv kb ST BX WK w) (i : Int) :
    Calls Tryd.prog 16 #[.pointer (some ⟨m, 0, none⟩), .int .i64 i] w fun e w' => ∃ u, e = .returned u ∧ ErrAs (inW p.k i) w' u ∧ PlayS TL p0 vt ba m w2 q (crashP p i) wv iv kb ST BX WK w' := by
  obtain ⟨R, h⟩ := h
  refine (lcrash h.law h.size i).mono ?_
  rintro e w' ⟨u, rfl, hu, ho⟩
  exact ⟨u, rfl, hu, h.op ho⟩
theorem ppass (h : PlayS TL p0 vt ba m w2 q p wv iv kb ST BX WK w) (hq : q ≤ 300) (hrd : p.rd ≤ 1000000) :
    Calls Tryd.prog 17 #[.pointer (some ⟨m, 0, none⟩)] w fun e w' => ∃ u, e = .returned u ∧ ErrIs (passC p) (passA p) w' u ∧ PlayS TL p0 vt ba m w2 q (passQ TL p) wv iv kb ST BX WK w' := by
  obtain ⟨R, h⟩ := h
  refine (lpass h.law h.size hq hrd).mono ?_
  rintro e w' ⟨u, rfl, hu, ho⟩
  exact ⟨u, rfl, hu, h.op ho⟩
theorem pfinish (h : PlayS TL p0 vt ba m w2 q p wv iv kb ST BX WK w) (hq : q ≤ 300) (hrd : p.rd ≤ 1000000) :
    Calls Tryd.prog 18 #[.pointer (some ⟨m, 0, none⟩)] w fun e w' => e = .returned .nilIface ∧ PlayS TL p0 vt ba m w2 0 (roundP TL p) wv iv kb ST BX WK w' := by
  obtain ⟨R, h⟩ := h
  refine (lfinish h.law h.size hq hrd (fun W hW => h.lists W (h.bel.trans hW))).mono ?_
  rintro e w' ⟨rfl, ho⟩
  exact ⟨rfl, h.op ho⟩
theorem pround (h : PlayS TL p0 vt ba m w2 q p wv iv kb ST BX WK w) :
    Calls Tryd.prog 22 #[.pointer (some ⟨m, 0, none⟩)] w fun e w' => e = .returned (.int .i64 p.rd) ∧ w' = w := by
  obtain ⟨R, h⟩ := h
  exact lroundN h.law
theorem pstates (h : PlayS TL p0 vt ba m w2 q p wv iv kb ST BX WK w) {n : Nat} (hn : p.k = n) :
    Calls Tryd.prog 20 #[.pointer (some ⟨m, 0, none⟩)] w fun e w' => ∃ A c, e = .returned (.slice A n c) ∧ ValsV w' (.slice A n c) (txtC p.st) ∧ Below w.heap.size w w' := by
  obtain ⟨R, h⟩ := h
  subst hn
  refine (lstates h.law).mono ?_
  rintro e w' ⟨A, c, rfl, h1, _, h3⟩
  exact ⟨A, c, rfl, h1, h3⟩
theorem pflying (h : PlayS TL p0 vt ba m w2 q p wv iv kb ST BX WK w) (hq : q ≤ 300) {L : Nat} (hL : p.nt.fly.length = L) :
    Calls Tryd.prog 13 #[.pointer (some ⟨m, 0, none⟩)] w fun e w' => e = .returned (.int .i64 L) ∧ Below w.heap.size w w' := by
  obtain ⟨R, h⟩ := h
  subst hL
  exact lflying h.law hq
theorem pworked (h : PlayS TL p0 vt ba m w2 q p wv iv kb ST BX WK w) (i : Nat) (hi : i < p.k) :
    Calls Tryd.prog 21 #[.pointer (some ⟨m, 0, none⟩), .int .i64 (i : Int)] w fun e w' => e = .returned (.bool (p.wk.getD i false)) ∧ Below w.heap.size w w' := by
  obtain ⟨R, h⟩ := h
  have h9 := lworked h.law (i : Int)
  rw [if_pos (show 0 ≤ (i : Int) ∧ (i : Int) < p.k by omega)] at h9
  exact h9
theorem PlayS.cell (h : PlayS TL p0 vt ba m w2 q p wv iv kb ST BX WK w) {i : Nat} (hi : i < WK.length) : w.cell? ⟨kb, i, none⟩ = some (.bool (WK.getD i false)) ∧ w.frozen? ⟨kb, i, none⟩ = false := by
  obtain ⟨R, h⟩ := h
  exact ⟨bools_pos h.wk hi, h.wk.free i⟩
theorem PlayS.put (h : PlayS TL p0 vt ba m w2 q p wv iv kb ST BX WK w) (i : Nat) (b : Bool) : PlayS TL p0 vt ba m w2 q p wv iv kb ST BX (WK.set i b) (w.setCell ⟨kb, i, none⟩ (.bool b)) := by
  obtain ⟨R, h⟩ := h
  exact ⟨R, h.put i b⟩
theorem PlayS.made (h : PlayS TL p0 vt ba m w2 q p wv iv kb ST BX WK w) (WK' : List Bool) : PlayS TL p0 vt ba m w2 q p wv iv w.heap.size ST BX WK' (w.alloc (.cells (boolC WK').toArray 4)) := by
  obtain ⟨R, h⟩ := h
  exact ⟨R, h.made WK'⟩
/-- The document's round, of what is reckoned. -/
def PNextTo (TL : List (List Int)) (p0 : MP) (vt : Value) (ba m : Nat) (w2 : World) (q : Nat) (p' p : MP) (kb : Nat) (WK : List Bool) (e : Ending) (w' : World) : Prop :=
  ∃ vo vb, e = .returned (.tuple #[vo, vb]) ∧ PlayS TL p0 vt ba m w2 q p' vo vb kb (nextSt p) ((List.range p.k).map (mailBox TL p.k (stOf p))) WK w' ∧ (∃ A c, vo = .slice A p.k c) ∧ (∃ A c, vb = .slice A p.k c)
theorem pnext (h : PlayS TL p0 vt ba m w2 q p' wv iv kb p.st p.bx WK w) (hi : MInv TL q' p) :
    Calls Tryd.prog 19 #[.agg #[vt], wv, iv] w (PNextTo TL p0 vt ba m w2 q p' p kb WK) := by
  obtain ⟨R, h⟩ := h
  refine (round20_any hi vt wv iv w h.want h.rows (h.lists w h.bel)).mono ?_
  rintro e w' ⟨vo, vb, rfl, ho, hr, hb⟩
  refine ⟨vo, vb, rfl, ⟨R, h.next hb ho hr⟩, own_form ho, ?_⟩
  obtain ⟨ib, us, hv, _⟩ := hr
  exact ⟨_, _, by rw [hv, List.length_map, List.length_range]⟩
theorem PlayS.wants (h : PlayS TL p0 vt ba m w2 q p wv iv kb ST BX WK w) : ValsV w wv (txtC ST) := by
  obtain ⟨R, h⟩ := h
  exact h.want
end
theorem late_fly {TL : List (List Int)} {q : Nat} {p : MP} (h : MInv TL q p) (hm : p.nt.miss ≠ 0) : p.nt.fly.length ≠ 0 := by
  obtain ⟨T, L, hi⟩ := h.inv
  intro h0
  have h1 : p.nt.fly = [] := List.eq_nil_of_length_eq_zero h0
  cases L with
  | nil => exact hm hi.len
  | cons l t =>
    have h2 := (hi.miss l (List.mem_cons_self ..)).1
    rw [h1] at h2
    cases h2
theorem stepP_code (n : NetP) (kind i : Int) (hk : kind = 1 ∨ kind = 2) : (stepP n kind i 0 ⟨#[]⟩).2 = if 0 ≤ i ∧ i < n.fly.length then 0 else 3 := by
  unfold stepP
  rw [if_neg (by omega)]
  split
  · rcases hk with rfl | rfl
    · rfl
    · rfl
  · rfl
theorem net_same (p : MP) (kind i : Int) : (netP p kind i).st = p.st ∧ (netP p kind i).bx = p.bx ∧ (netP p kind i).wk = p.wk ∧ (netP p kind i).rd = p.rd ∧ (netP p kind i).k = p.k := ⟨rfl, rfl, rfl, rfl, rfl⟩
theorem set_again {X : List Bool} {a : Nat} (h : X.getD a false = true) : X.set a true = X := by
  apply List.ext_getElem?
  intro i
  by_cases hi : i = a
  · subst hi
    by_cases hl : i < X.length
    · rw [List.getElem?_set_self hl, List.getElem?_eq_getElem hl]
      simp only [List.getD, List.getElem?_eq_getElem hl, Option.getD_some] at h
      rw [h]
    · rw [List.getElem?_eq_none (by rw [List.length_set]; omega), List.getElem?_eq_none (by omega)]
  · rw [List.getElem?_set_ne (fun e => hi e.symm)]
end Go.Proofs.YtlopoddllfkkfaaDoor
