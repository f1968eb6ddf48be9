/- A machine and a list that it does not touch. -/
import Derived.Test.YtlopoddllfkkfaaDoorBspI
namespace Go.Proofs.YtlopoddllfkkfaaDoor
open Go.RowKit

theorem twice_in (k z : Nat) (st : List ByteArray) (bx : List (List ByteArray)) (a : Nat) (ha : a < k) :
    workC (startP k z st bx) a = 0 ∧ workC (workQ [] (startP k z st bx) a) a = 4 ∧ workQ [] (workQ [] (startP k z st bx) a) a = workP (startP k z st bx) a [] ∧ (workP (startP k z st bx) a []).wk.getD a false = true := by
  have e1 : workC (startP k z st bx) a = 0 := by
    unfold workC
    rw [if_pos (show 0 ≤ (a : Int) ∧ (a : Int) < (startP k z st bx).k from ⟨by omega, by show (a : Int) < k; omega⟩)]
    rw [if_neg]
    simp [startP, List.getD, ha]
  have e2 : workQ [] (startP k z st bx) a = workP (startP k z st bx) a [] := by
    unfold workQ
    rw [if_pos e1]
    rfl
  have e3 : (workP (startP k z st bx) a []).wk.getD a false = true := by
    simp [workP, startP, List.getD, ha]
  have e4 : workC (workP (startP k z st bx) a []) a = 4 := by
    unfold workC
    rw [if_pos (show 0 ≤ (a : Int) ∧ (a : Int) < (workP (startP k z st bx) a []).k from ⟨by omega, by show (a : Int) < k; omega⟩)]
    rw [if_pos]
    exact e3
  refine ⟨e1, by rw [e2]; exact e4, ?_, e3⟩
  rw [e2]
  unfold workQ
  rw [e4]
  rfl
theorem twice_out (k z : Nat) (st : List ByteArray) (bx : List (List ByteArray)) (a : Int) (ha : ¬ (0 ≤ a ∧ a < k)) :
    workC (startP k z st bx) a = 3 ∧ workQ [] (startP k z st bx) a = startP k z st bx := by
  have e1 : workC (startP k z st bx) a = 3 := if_neg ha
  refine ⟨e1, ?_⟩
  unfold workQ
  rw [e1]
  rfl
/-- A machine that sends nothing, and texts beside it. -/
def LawS (p0 : MP) (base q m : Nat) (p : MP) (v : Value) (st : List ByteArray) (w2 w : World) : Prop :=
  ∃ R, LawM [] p0 (.slice none 0 0) base q m R p w ∧ ValsV w v (txtC st) ∧ (∀ g, v.ownBlock = some g → g < w.heap.size ∧ ¬ R g) ∧ Below base w2 w
theorem lists_none (w : World) : ListsV w (.slice none 0 0) [] := ⟨[], rfl, fun i u L hu _ => by simp at hu, Or.inl ⟨rfl, _, _, rfl⟩⟩
section
variable {p0 p : MP} {base q m : Nat} {v : Value} {st : List ByteArray} {w2 w w' : World}
theorem LawS.below (h : LawS p0 base q m p v st w2 w) (hb : Below w.heap.size w w') (hbase : base ≤ w.heap.size) : LawS p0 base q m p v st w2 w' := by
  obtain ⟨R, h1, h2, h3, h4⟩ := h
  refine ⟨R, h1.below hb, h2.below hb (Nat.le_refl _), fun g hg => ⟨?_, (h3 g hg).2⟩, h4.trans (hb.mono hbase)⟩
  have := (h3 g hg).1
  have := hb.size
  omega
theorem LawS.low (h : LawS p0 base q m p v st w2 w) (hbase : base ≤ w2.heap.size) : base ≤ w.heap.size := by
  obtain ⟨_, _, _, _, h4⟩ := h
  exact Nat.le_trans hbase h4.size
theorem LawS.op {q' : Nat} {p' : MP} (h : LawS p0 base q m p v st w2 w) : ∃ R, LawM [] p0 (.slice none 0 0) base q m R p w ∧ ∀ w', LawTo [] p0 (.slice none 0 0) base q' m R p' w w' → LawS p0 base q' m p' v st w2 w' := by
  obtain ⟨R, h1, h2, h3, h4⟩ := h
  refine ⟨R, h1, fun w' ⟨R', k1, k2, k3, k4⟩ => ⟨R', k1, h2.stay (fun g hg => k2.block g (h3 g hg).1 (h3 g hg).2), fun g hg => ⟨?_, fun hr => ?_⟩, h4.trans k4⟩⟩
  · have := (h3 g hg).1
    have := k2.size
    omega
  · rcases k3 g hr with e | e
    · exact (h3 g hg).2 e
    · have := (h3 g hg).1
      omega
theorem work_solo (h : LawS p0 base q m p v st w2 w) (hbase : base ≤ w2.heap.size) (hq : q ≤ 300) (i : Int) :
    Calls Tryd.prog 12 #[.pointer (some ⟨m, 0, none⟩), .int .i64 i] w fun e w' => ∃ u, e = .returned u ∧ ErrAs (workC p i) w' u ∧ LawS p0 base q m (workQ [] p i) v st w2 w' := by
  have hs : base ≤ w.heap.size := by
    obtain ⟨_, _, _, _, h4⟩ := h
    exact Nat.le_trans hbase h4.size
  obtain ⟨R, h1, h2⟩ := h.op (q' := q) (p' := workQ [] p i)
  refine (lwork h1 hs hq (fun W _ => lists_none W) i).mono ?_
  rintro e w' ⟨u, rfl, hu, ho⟩
  exact ⟨u, rfl, hu, h2 w' ho⟩
theorem states_solo {n : Nat} (h : LawS p0 base q m p v st w2 w) (hk : p.k = n) (hst : p.st = st) :
    Calls Tryd.prog 20 #[.pointer (some ⟨m, 0, none⟩)] w fun e w' => ∃ A c, e = .returned (.slice A n c) ∧ w'.ownsRow w.heap.size 9 1 (.slice A n c) n (txtC st) ∧ Below w.heap.size w w' := by
  obtain ⟨R, h1, _⟩ := h
  subst hk hst
  refine (lstates h1).mono ?_
  rintro e w' ⟨A, c, rfl, _, h3, h4⟩
  exact ⟨A, c, rfl, h3, h4⟩
theorem worked_solo (h : LawS p0 base q m p v st w2 w) (i : Int) (b : Bool) (hb : (if 0 ≤ i ∧ i < p.k then p.wk.getD i.toNat false else false) = b) :
    Calls Tryd.prog 21 #[.pointer (some ⟨m, 0, none⟩), .int .i64 i] w fun e w' => e = .returned (.bool b) ∧ Below w.heap.size w w' := by
  obtain ⟨R, h1, _⟩ := h
  subst hb
  exact lworked h1 i
theorem flying_solo (h : LawS p0 base q m p v st w2 w) (hq : q ≤ 300) (hf : p.nt.fly = []) :
    Calls Tryd.prog 13 #[.pointer (some ⟨m, 0, none⟩)] w fun e w' => e = .returned (.int .i64 0) ∧ Below w.heap.size w w' := by
  obtain ⟨R, h1, _⟩ := h
  have k := lflying h1 hq
  rw [hf] at k
  exact k
theorem roundN_solo {z : Nat} (h : LawS p0 base q m p v st w2 w) (hr : p.rd = z) :
    Calls Tryd.prog 22 #[.pointer (some ⟨m, 0, none⟩)] w fun e w' => e = .returned (.int .i64 (z : Nat)) ∧ w' = w := by
  obtain ⟨R, h1, _⟩ := h
  subst hr
  exact lroundN h1
theorem own_lies {w : World} {base e n g : Nat} {v : Value} {xs : List Value} (h : w.ownsRow base e 1 v n xs) (hv : v.ownBlock = some g) : base ≤ g ∧ g < w.heap.size := by
  rcases h.2 with ⟨h1, _⟩ | ⟨g', cap, cur, rfl, h2, h3, _⟩
  · subst h1
    simp [Value.ownBlock] at hv
  · have e1 : g' = g := by simpa [Value.ownBlock] using hv
    subst e1
    exact ⟨h2, Whole.lt h3⟩
end
theorem own_open {w : World} {b n c : Nat} {A : Option Addr} {st : List ByteArray} (h : w.ownsRow b 9 1 (.slice A n c) n (txtC st)) (hn : 1 ≤ n) :
    ∃ g cs, A = some ⟨g, 0, none⟩ ∧ b ≤ g ∧ Whole w g 9 cs ∧ n ≤ cs.size ∧ ∀ i, i < n → cs[i]? = some (.string (st.getD i ⟨#[]⟩)) := by
  have hl : st.length = n := by have := h.1; rw [txtC_len] at this; omega
  rcases h.2 with ⟨_, h0⟩ | ⟨g, cap, cur, he, hg, hh, hcap, _, hsz, ht⟩
  · omega
  · injection he with e1 _ _
    refine ⟨g, cur, e1, hg, hh, by omega, fun i hi => ?_⟩
    have h1 := txtC_at (X := st) (i := i) (by omega)
    rw [← ht, List.getElem?_take, if_pos (by omega)] at h1
    simpa using h1
/-- A list that is written over, up to a place. -/
def MineAt (st : List ByteArray) (n g i : Nat) (w : World) : Prop := ∃ cs : Array Value, Whole w g 9 cs ∧ n ≤ cs.size ∧ ∀ j, i ≤ j → j < n → cs[j]? = some (.string (st.getD j ⟨#[]⟩))
theorem MineAt.below {st : List ByteArray} {n g i : Nat} {w w' : World} (h : MineAt st n g i w) (hb : Below w.heap.size w w') : MineAt st n g i w' := by
  obtain ⟨cs, h1, h2, h3⟩ := h
  exact ⟨cs, h1.below hb h1.lt, h2, h3⟩
theorem MineAt.cell {st : List ByteArray} {n g i : Nat} {w : World} (h : MineAt st n g i w) (hi : i < n) : w.cell? ⟨g, i, none⟩ = some (.string (st.getD i ⟨#[]⟩)) := by
  obtain ⟨cs, h1, _, h3⟩ := h
  rw [h1.cell i]
  exact h3 i (Nat.le_refl _) hi
theorem MineAt.free {st : List ByteArray} {n g i : Nat} {w : World} (h : MineAt st n g i w) : w.frozen? ⟨g, i, none⟩ = false := by
  obtain ⟨cs, h1, _, _⟩ := h
  exact h1.free i
theorem MineAt.step {st : List ByteArray} {n g i : Nat} {w : World} (h : MineAt st n g i w) (u : Value) : MineAt st n g (i + 1) (w.setCell ⟨g, i, none⟩ u) := by
  obtain ⟨cs, h1, h2, h3⟩ := h
  refine ⟨_, h1.put i u, by simpa using h2, fun j hj hn => ?_⟩
  rw [Array.getElem?_setIfInBounds_ne (by omega)]
  exact h3 j (by omega) hn
theorem states_first {p0 p : MP} {base q m n : Nat} {v : Value} {st : List ByteArray} {w2 w W : World} {u : ByteArray} (h : LawS p0 base q m p v st w2 w) (hb : Below w.heap.size w W) (hbase : base ≤ w2.heap.size) (hk : p.k = n) (hst : p.st = st) (hn : 1 ≤ n) (hu : st.getD 0 ⟨#[]⟩ = u) :
    Calls Tryd.prog 20 #[.pointer (some ⟨m, 0, none⟩)] W fun e w' => ∃ g cap, e = .returned (.slice (some ⟨g, 0, none⟩) n cap) ∧ w'.cell? ⟨g, 0, none⟩ = some (.string u) ∧ Below w.heap.size w w' := by
  refine (states_solo (h.below hb (h.low hbase)) hk hst).mono ?_
  rintro e w' ⟨A, c, rfl, ho, hb'⟩
  obtain ⟨g, cs, rfl, _, h1, _, h2⟩ := own_open ho hn
  refine ⟨g, c, rfl, ?_, hb.trans (hb'.mono hb.size)⟩
  rw [h1.cell 0, h2 0 hn, hu]
end Go.Proofs.YtlopoddllfkkfaaDoor
