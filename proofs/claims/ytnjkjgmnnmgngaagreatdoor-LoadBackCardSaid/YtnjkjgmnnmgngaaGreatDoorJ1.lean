/- Memory as the walks here speak of it: a block known whole; a row of the call's own, kept. Graphs: pure. Those beside a vertex, and the edges to them: pure. A slice of n numbers. The document's SameInts. A slice that reads as a list; numbers appended. Rows of rows of numbers. Rows of slices: read, and appended to a row of the call's own. Rows of numbers, each in a block of its own. A fault in memory. -/
import Derived.Test.YtnjkjgmnnmgngaaGreatDoorProg
import Derived.WalkKit
import Derived.Below
import Derived.Laws.OwnMore
import Derived.Laws.Rows
import Derived.Deep.Draws
import Derived.Deep.AppendLies
import Derived.Maps.AppendAt
import Derived.OwnWalk
import Derived.OneCell
import Derived.Lib.Hide
import Derived.Test.YtnjkjgmnnmgngaaGreatDoorJ2
import Derived.Deep.LoopGhost
import Derived.Deep.DeepCutAuto
import Derived.Deep.QuietTactic
import Derived.BigQuiet
import Derived.WalkSmall
import Derived.WalkSpells
import Derived.Lib.SliceRun
namespace Go.Proofs.YtnjkjgmnnmgngaaGreatDoor
section
open Go.RowKit

/-- Block g holds just these cells, and none of them is frozen. -/
def Whole (w : World) (g : Nat) (t : TypeId) (cs : Array Value) : Prop := w.heap[g]? = some (.cells cs t (0, 0))
section
variable {w w' : World} {g : Nat} {t : TypeId} {cs : Array Value}
theorem Whole.lt (h : Whole w g t cs) : g < w.heap.size := lt_of_block h
theorem Whole.cell (h : Whole w g t cs) (i : Nat) : w.cell? ⟨g, i, none⟩ = cs[i]? := cell_of_row w g i cs t (0, 0) h
theorem Whole.free (h : Whole w g t cs) (i : Nat) : w.frozen? ⟨g, i, none⟩ = false := frozen_of_row w g i cs t h
theorem Whole.new (w : World) (t : TypeId) (cs : Array Value) : Whole (w.alloc (.cells cs t)) w.heap.size t cs := heap_alloc_new w _
theorem Whole.drewN (h : Whole w g t cs) (n : Nat) : Whole (w.drewN n) g t cs := h
theorem Whole.alloc (h : Whole w g t cs) (o : Obj) : Whole (w.alloc o) g t cs := (Below.heap_alloc w o g h.lt).trans h
theorem Whole.put (h : Whole w g t cs) (i : Nat) (u : Value) : Whole (w.setCell ⟨g, i, none⟩ u) g t (cs.setIfInBounds i u) := by
  unfold Whole at h ⊢
  simp [World.setCell, Array.getElem?_modify, h]
theorem Whole.other (h : Whole w g t cs) {p : Addr} (hp : g ≠ p.block) (u : Value) : Whole (w.setCell p u) g t cs := (Below.heap_setCell w p u g hp).trans h
theorem Whole.below {B : Nat} (h : Whole w g t cs) (hb : Below B w w') (hg : g < B) : Whole w' g t cs := (hb.block g hg).trans h
theorem Whole.grown {row : Option Nat} (h : Whole w g t cs) (hb : w.grownBy w' row) (hg : some g ≠ row) : Whole w' g t cs := (hb.block g h.lt hg).trans h
end

theorem own_below {w w' : World} {base e size n B : Nat} {v : Value} {xs : List Value} (h : w.ownsRow base e size v n xs) (hb : Below B w w') (hB : w.heap.size ≤ B) : w'.ownsRow base e size v n xs := by
  refine ⟨h.1, ?_⟩
  rcases h.2 with hn | ⟨g, cap, cur, rfl, hg, hh, r⟩
  · exact Or.inl hn
  · have hlt : g < w.heap.size := (Array.getElem?_eq_some_iff.1 hh).1
    exact Or.inr ⟨g, cap, cur, rfl, hg, by rw [hb.block g (by omega)]; exact hh, r⟩
theorem own_drewN {w : World} {base e size n : Nat} {v : Value} {xs : List Value} (h : w.ownsRow base e size v n xs) (d : Nat) : (w.drewN d).ownsRow base e size v n xs := h
/-- A row of the call's own lies where another block does not. -/
theorem own_ne {w : World} {base e size n g : Nat} {v : Value} {xs : List Value} {t : TypeId} {cs : Array Value} (h : w.ownsRow base e size v n xs) (hg : Whole w g t cs) (hne : e ≠ t) : v.ownBlock ≠ some g := by
  rcases h.2 with ⟨rfl, _⟩ | ⟨g', cap, cur, rfl, _, hh, _⟩
  · simp [Value.ownBlock]
  · intro he
    have e1 : g' = g := by simpa [Value.ownBlock] using he
    subst e1
    unfold Whole at hg
    rw [hg] at hh
    injection hh with hh
    injection hh with _ ht
    exact hne ht.symm
theorem own_form {w : World} {base e size n : Nat} {v : Value} {xs : List Value} (h : w.ownsRow base e size v n xs) : ∃ A c, v = .slice A n c := by
  rcases h.2 with ⟨rfl, rfl⟩ | ⟨g, cap, cur, rfl, _⟩
  · exact ⟨_, _, rfl⟩
  · exact ⟨_, _, rfl⟩
theorem below_drewN' {B : Nat} {a w : World} (h : Below B a w) (n : Nat) : Below B a (w.drewN n) := ⟨h.os, h.tape, h.output, h.size, h.block⟩

/-- One element more, put into a new block of one cell and appended to a row of the call's own. -/
theorem wpList_app1 {P : Program} (w : World) {ops : Array Oper} {rest : List Oper} {o : Oper} {a : Act} {Q : Exit → Act → World → Prop} (hgd : o.guard = none) (s x : Operand) (t : TypeId)
    (ho : o.op = .call { callee := .builtin .append, args := #[s, x], argTypes := #[t, t] })
    (base : Nat) (e : TypeId) (i : TypeInfo) (z : Value) (bytes : Nat) (ht : P.underlying t = some (.slice e)) (hi : P.info? e = some i) (hz : i.zero = some z)
    (hsize : i.size = 1) (hby : i.bytes = bytes) (hzs : z.cells.size = 1) (v : Value) (n : Nat) (xs : List Value) (hs : a.eval s = v) (hown : w.ownsRow base e 1 v n xs)
    (u : Value) (hu : u.oneCell' = true) (hx : a.eval x = .slice (some ⟨w.heap.size, 0, none⟩) 1 1) (hn : n ≤ 1000000000) (hbytes : bytes ≤ 128) (hbase : base ≤ w.heap.size)
    (h : ∀ (A' : Option Addr) (c' : Nat) w', w'.ownsRow base e 1 (.slice A' (n + 1) c') (n + 1) (xs ++ [u]) → (w.alloc (.cells #[u] e)).grownBy w' v.ownBlock → wpList P ops Q rest (a.put o.dst (.slice A' (n + 1) c')) w') :
    wpList P ops Q (o :: rest) a (w.alloc (.cells #[u] e)) := by
  have hb1 : (n + 1) * bytes ≤ (n + 1) * 128 := Nat.mul_le_mul_left _ hbytes
  refine wpList_append_own _ hgd s x t ho base e i z 1 bytes ht hi hz hsize hby hzs (by decide) v n xs hs (hown.alloc _) ⟨w.heap.size, 0, none⟩ 1 1 [u] hx rfl ?_ ?_ ?_ ?_ ?_ ?_
  · intro j u' hj
    match j, hj with
    | 0, hj => simp at hj; subst hj; simp [Addr.add]
  · intro u' hu'; simp at hu'; subst hu'; exact hu
  · unfold maxLen; omega
  · omega
  · simp; omega
  · intro v' w' hown' hgrow _
    obtain ⟨A', c', rfl⟩ := own_form hown'
    exact h A' c' w' hown' hgrow

section
variable {w w1 a : World} {base e size n B g : Nat} {v u : Value} {xs : List Value} {t : TypeId} {cs : Array Value}
theorem app_below (hb : Below B a w) (hB : B ≤ base) (hbase : base ≤ w.heap.size) (hown : w.ownsRow base e size v n xs) (o : Obj) (hg : (w.alloc o).grownBy w1 v.ownBlock) : Below B a w1 :=
  (hb.alloc (by omega) o).grown hg (by simp; omega) (fun k hk => Nat.le_trans hB (hown.lt k hk).1)
theorem app_whole (hw : Whole w g t cs) (hown : w.ownsRow base e size v n xs) (hne : e ≠ t) (o : Obj) (hg : (w.alloc o).grownBy w1 v.ownBlock) : Whole w1 g t cs :=
  (hw.alloc o).grown hg (fun h => own_ne hown hw hne h.symm)
theorem app_far (hw : Whole w g t cs) (hgB : g < base) (hown : w.ownsRow base e size v n xs) (o : Obj) (hg : (w.alloc o).grownBy w1 v.ownBlock) : Whole w1 g t cs :=
  (hw.alloc o).grown hg (fun h => by have := (hown.lt g h.symm).1; omega)
theorem own_put (hown : w.ownsRow base e size v n xs) {p : Addr} (hne : v.ownBlock ≠ some p.block) (u : Value) : (w.setCell p u).ownsRow base e size v n xs := ownsRow_setCell_other hown hne u
end

/-- A row of the call's own was appended to: only its block, or new ones, have turned. -/
def Grew (w : World) (v : Value) (w' : World) (v' : Value) : Prop := w.grownBy w' v.ownBlock ∧ (v'.ownBlock = v.ownBlock ∨ ∃ g, v'.ownBlock = some g ∧ w.heap.size ≤ g)
theorem Grew.refl (w : World) (v : Value) : Grew w v w v := ⟨World.grownBy.refl w _, Or.inl rfl⟩
theorem Grew.trans {w w1 w2 : World} {v v1 v2 : Value} (h : Grew w v w1 v1) (k : Grew w1 v1 w2 v2) : Grew w v w2 v2 := by
  have hsz := h.1.size
  refine ⟨⟨k.1.os.trans h.1.os, k.1.tape.trans h.1.tape, k.1.output.trans h.1.output, Nat.le_trans hsz k.1.size, fun i hi hne => ?_⟩, ?_⟩
  · refine (k.1.block i (by omega) (fun e => ?_)).trans (h.1.block i hi hne)
    rcases h.2 with h2 | ⟨g, h2, hg⟩
    · rw [h2] at e; exact hne e
    · rw [h2] at e; injection e with e; omega
  · rcases k.2 with k2 | ⟨g, k2, hg⟩
    · rw [k2]; exact h.2
    · exact Or.inr ⟨g, k2, by omega⟩
theorem grown_of_alloc {w w' : World} {o : Obj} {row : Option Nat} (h : (w.alloc o).grownBy w' row) : w.grownBy w' row :=
  ⟨h.os, h.tape, h.output, by have := h.size; simp at this; omega, fun i hi hne => (h.block i (by simp; omega) hne).trans (Below.heap_alloc w o i hi)⟩
theorem grown_of_drewN {w w' : World} {d : Nat} {row : Option Nat} (h : (w.drewN d).grownBy w' row) : w.grownBy w' row := ⟨h.os, h.tape, h.output, h.size, h.block⟩
theorem Grew.of_below {w w' : World} {v : Value} (h : Below w.heap.size w w') : Grew w v w' v := ⟨⟨h.os, h.tape, h.output, h.size, fun i hi _ => h.block i hi⟩, Or.inl rfl⟩
theorem Grew.below {w w' a : World} {v v' : Value} {B base e size n : Nat} {xs : List Value} (h : Grew w v w' v') (hown : w.ownsRow base e size v n xs) (hb : Below B a w) (hB : B ≤ base) (hbase : base ≤ w.heap.size) : Below B a w' :=
  hb.grown h.1 (by omega) (fun k hk => Nat.le_trans hB (hown.lt k hk).1)
theorem Grew.whole {w w' : World} {v v' : Value} {base e size n g : Nat} {xs : List Value} {t : TypeId} {cs : Array Value} (h : Grew w v w' v') (hw : Whole w g t cs) (hown : w.ownsRow base e size v n xs) (hne : e ≠ t) : Whole w' g t cs :=
  hw.grown h.1 (fun he => own_ne hown hw hne he.symm)
theorem Grew.put {w w' : World} {v v' : Value} {g : Nat} (h : Grew w v w' v') (hg : w.heap.size ≤ g) (i : Nat) (u : Value) : Grew w v (w'.setCell ⟨g, i, none⟩ u) v' :=
  ⟨⟨h.1.os, h.1.tape, h.1.output, by simpa [World.setCell] using h.1.size, fun j hj hne => (Below.heap_setCell w' ⟨g, i, none⟩ u j (by simp; omega)).trans (h.1.block j hj hne)⟩, h.2⟩

/-- One element more, put into a new block of one cell and appended to a row of the call's own. -/
theorem wpList_app1g {P : Program} (w : World) {ops : Array Oper} {rest : List Oper} {o : Oper} {a : Act} {Q : Exit → Act → World → Prop} (hgd : o.guard = none) (s x : Operand) (t : TypeId)
    (ho : o.op = .call { callee := .builtin .append, args := #[s, x], argTypes := #[t, t] })
    (base : Nat) (e : TypeId) (i : TypeInfo) (z : Value) (bytes : Nat) (ht : P.underlying t = some (.slice e)) (hi : P.info? e = some i) (hz : i.zero = some z)
    (hsize : i.size = 1) (hby : i.bytes = bytes) (hzs : z.cells.size = 1) (v : Value) (n : Nat) (xs : List Value) (hs : a.eval s = v) (hown : w.ownsRow base e 1 v n xs)
    (u : Value) (hu : u.oneCell' = true) (hx : a.eval x = .slice (some ⟨w.heap.size, 0, none⟩) 1 1) (hn : n ≤ 1000000000) (hbytes : bytes ≤ 128) (hbase : base ≤ w.heap.size)
    (h : ∀ (A' : Option Addr) (c' : Nat) w', w'.ownsRow base e 1 (.slice A' (n + 1) c') (n + 1) (xs ++ [u]) → Grew w v w' (.slice A' (n + 1) c') → wpList P ops Q rest (a.put o.dst (.slice A' (n + 1) c')) w') :
    wpList P ops Q (o :: rest) a (w.alloc (.cells #[u] e)) := by
  have hb1 : (n + 1) * bytes ≤ (n + 1) * 128 := Nat.mul_le_mul_left _ hbytes
  refine wpList_append_own_at _ hgd s x t ho base e i z 1 bytes ht hi hz hsize hby hzs (by decide) v n xs hs (hown.alloc _) ⟨w.heap.size, 0, none⟩ 1 1 [u] hx rfl ?_ ?_ ?_ ?_ ?_ ?_
  · intro j u' hj
    match j, hj with
    | 0, hj => simp at hj; subst hj; simp [Addr.add]
  · intro u' hu'; simp at hu'; subst hu'; exact hu
  · unfold maxLen; omega
  · omega
  · simp; omega
  · intro v' w' hown' hgrow _ hloc
    obtain ⟨A', c', rfl⟩ := own_form hown'
    refine h A' c' w' hown' ⟨grown_of_alloc hgrow, ?_⟩
    rcases hloc with hl | hl
    · exact Or.inl hl
    · exact Or.inr ⟨_, hl, by simp⟩
end

section
/-- An edge with its lesser vertex first. -/
def ris (e : Int × Int) : Int × Int := (min e.1 e.2, max e.1 e.2)
/-- Ahead of another one? -/
def ltE (a b : Int × Int) : Prop := a.1 < b.1 ∨ (a.1 = b.1 ∧ a.2 < b.2)
instance (a b : Int × Int) : Decidable (ltE a b) := by unfold ltE; infer_instance
theorem ltE_trans {a b c : Int × Int} (h : ltE a b) (k : ltE b c) : ltE a c := by unfold ltE at *; omega
theorem ltE_irrefl (a : Int × Int) : ¬ ltE a a := by unfold ltE; omega
theorem ltE_total {a b : Int × Int} (h : ¬ ltE a b) (k : ¬ ltE b a) : a = b := by
  unfold ltE at *
  exact Prod.ext (by omega) (by omega)
def RisingE (S : List (Int × Int)) : Prop := S.Pairwise ltE
theorem RisingE.nodup {S : List (Int × Int)} (h : RisingE S) : S.Nodup := List.Pairwise.imp (fun h e => by subst e; exact ltE_irrefl _ h) h
theorem risingE_eq {A B : List (Int × Int)} (ha : RisingE A) (hb : RisingE B) (h : A.Perm B) : A = B :=
  List.Perm.eq_of_pairwise (le := ltE) (fun _ _ _ _ h1 h2 => absurd (ltE_trans h1 h2) (ltE_irrefl _)) ha hb h
/-- How many are ahead of one, from the left. -/
def lowerE : List (Int × Int) → Int × Int → Nat
  | [], _ => 0
  | a :: t, e => if ltE a e then lowerE t e + 1 else 0
theorem lowerE_le : ∀ (S : List (Int × Int)) (e : Int × Int), lowerE S e ≤ S.length
  | [], _ => Nat.le_refl _
  | a :: t, e => by
    rw [lowerE]
    split
    · have := lowerE_le t e; simp; omega
    · simp
def insE (S : List (Int × Int)) (e : Int × Int) : List (Int × Int) := S.take (lowerE S e) ++ [e] ++ S.drop (lowerE S e)
theorem insE_perm (S : List (Int × Int)) (e : Int × Int) : (insE S e).Perm (e :: S) := by
  unfold insE
  have h : (S.take (lowerE S e) ++ [e] ++ S.drop (lowerE S e)).Perm ([e] ++ (S.take (lowerE S e) ++ S.drop (lowerE S e))) := by
    rw [← List.append_assoc]
    exact List.Perm.append_right _ List.perm_append_comm
  rw [List.take_append_drop] at h
  exact h
theorem insE_cons (a : Int × Int) (t : List (Int × Int)) (e : Int × Int) : insE (a :: t) e = if ltE a e then a :: insE t e else e :: a :: t := by
  unfold insE
  rw [lowerE]
  split <;> simp
theorem insE_rising : ∀ {S : List (Int × Int)} {e : Int × Int}, RisingE S → e ∉ S → RisingE (insE S e)
  | [], e, _, _ => by simp [insE, lowerE, RisingE]
  | a :: t, e, h, hn => by
    rw [insE_cons]
    have h' := List.pairwise_cons.1 h
    have hne : e ≠ a := fun x => hn (by simp [x])
    split
    · rename_i hlt
      refine List.pairwise_cons.2 ⟨fun x hx => ?_, insE_rising h'.2 (fun x => hn (by simp [x]))⟩
      rcases List.mem_cons.1 ((insE_perm t e).mem_iff.1 hx) with rfl | hx
      · exact hlt
      · exact h'.1 x hx
    · rename_i hlt
      have hea : ltE e a := by
        by_cases h2 : ltE e a
        · exact h2
        · exact absurd (ltE_total h2 hlt) hne
      refine List.pairwise_cons.2 ⟨fun x hx => ?_, h⟩
      rcases List.mem_cons.1 hx with rfl | hx
      · exact hea
      · exact ltE_trans hea (h'.1 x hx)
/-- All edges, the lesser vertex first, in order. -/
def sortE (E : List (Int × Int)) : List (Int × Int) := E.foldl (fun S e => insE S (ris e)) []
theorem sortE_snoc (E : List (Int × Int)) (e : Int × Int) : sortE (E ++ [e]) = insE (sortE E) (ris e) := by simp [sortE]
theorem sortE_perm : ∀ (n : Nat) (E : List (Int × Int)), E.length = n → (sortE E).Perm (E.map ris)
  | 0, E, h => by
    have : E = [] := List.eq_nil_of_length_eq_zero h
    subst this
    exact List.Perm.refl _
  | n + 1, E, h => by
    have hne : E ≠ [] := fun e => by simp [e] at h
    have hd := List.dropLast_concat_getLast hne
    rw [← hd, sortE_snoc, List.map_append]
    have ih := sortE_perm n E.dropLast (by simp [h])
    exact (insE_perm _ _).trans ((ih.cons _).trans (by simpa using (List.perm_append_comm (l₁ := [ris (E.getLast hne)]) (l₂ := E.dropLast.map ris))))
theorem sortE_rising : ∀ (n : Nat) (E : List (Int × Int)), E.length = n → (E.map ris).Nodup → RisingE (sortE E)
  | 0, E, h, _ => by
    have : E = [] := List.eq_nil_of_length_eq_zero h
    subst this
    exact List.Pairwise.nil
  | n + 1, E, h, hn => by
    have hne : E ≠ [] := fun e => by simp [e] at h
    have hd := List.dropLast_concat_getLast hne
    rw [← hd, List.map_append, List.nodup_append] at hn
    rw [← hd, sortE_snoc]
    refine insE_rising (sortE_rising n E.dropLast (by simp [h]) hn.1) (fun hx => ?_)
    have := (sortE_perm n E.dropLast (by simp [h])).mem_iff.1 hx
    exact hn.2.2 _ this _ (by simp) rfl
/-- Whatever is in order and has just these edges. -/
theorem sorted_eq {E D : List (Int × Int)} (hn : (E.map ris).Nodup) (hp : D.Perm (E.map ris)) (hs : D.Pairwise (fun a b => ¬ ltE b a)) : D = sortE E := by
  have hr : RisingE D := by
    have hd : D.Nodup := hp.nodup_iff.2 hn
    refine List.Pairwise.imp₂ (R := fun a b => ¬ ltE b a) (S := fun a b => a ≠ b) (fun a b h1 h2 => ?_) hs hd
    by_cases h : ltE a b
    · exact h
    · exact absurd (ltE_total h h1) h2
  exact risingE_eq hr (sortE_rising _ E rfl hn) (hp.trans (sortE_perm _ E rfl).symm)

/-- Those beside a vertex, edge by edge. -/
def nearL (S : List (Int × Int)) (v : Int) : List Int := S.filterMap fun e => if e.1 = v then some e.2 else if e.2 = v then some e.1 else none
/-- The numbers of the edges at a vertex. -/
def atL (S : List (Int × Int)) (v : Int) : List Int := ((List.range S.length).filter fun i => decide ((S.getD i (0, 0)).1 = v ∨ (S.getD i (0, 0)).2 = v)).map fun (i : Nat) => (i : Int)
theorem nearL_snoc (S : List (Int × Int)) (e : Int × Int) (v : Int) : nearL (S ++ [e]) v = nearL S v ++ (if e.1 = v then [e.2] else if e.2 = v then [e.1] else []) := by
  unfold nearL
  rw [List.filterMap_append]
  congr 1
  by_cases h1 : e.1 = v
  · simp [h1]
  · by_cases h2 : e.2 = v
    · simp [h1, h2]
    · simp [h1, h2]
theorem atL_snoc (S : List (Int × Int)) (e : Int × Int) (v : Int) : atL (S ++ [e]) v = atL S v ++ (if e.1 = v ∨ e.2 = v then [(S.length : Int)] else []) := by
  unfold atL
  rw [List.length_append, List.length_singleton, List.range_succ, List.filter_append, List.map_append]
  congr 1
  · congr 1
    refine List.filter_congr fun i hi => ?_
    have hi := List.mem_range.1 hi
    have e1 : (S ++ [e]).getD i (0, 0) = S.getD i (0, 0) := by simp [List.getD, List.getElem?_append_left hi]
    rw [e1]
  · by_cases h : e.1 = v ∨ e.2 = v
    · simp [h]
    · simp [h]
theorem near_at_len (S : List (Int × Int)) (v : Int) : ∀ (n : Nat), S.length = n → (nearL S v).length = (atL S v).length := by
  intro n
  induction n generalizing S with
  | zero =>
    intro h
    have : S = [] := List.eq_nil_of_length_eq_zero h
    subst this
    rfl
  | succ n ih =>
    intro h
    have hne : S ≠ [] := fun e => by simp [e] at h
    have hd := List.dropLast_concat_getLast hne
    rw [← hd, nearL_snoc, atL_snoc, List.length_append, List.length_append, ih S.dropLast (by simp [h])]
    congr 1
    by_cases h1 : (S.getLast hne).1 = v
    · simp [h1]
    · by_cases h2 : (S.getLast hne).2 = v <;> simp [h1, h2]
end

section
/-- Edges of a graph: in order, the lesser vertex first. -/
structure Fine (S : List (Int × Int)) : Prop where
  rising : RisingE S
  less : ∀ e, e ∈ S → e.1 < e.2
/-- An edge's number, or -1. -/
def idL (S : List (Int × Int)) (a b : Int) : Int := if ris (a, b) ∈ S then (S.idxOf (ris (a, b)) : Nat) else -1
theorem near_mem {S : List (Int × Int)} (h : Fine S) {a b : Int} : b ∈ nearL S a ↔ ris (a, b) ∈ S := by
  unfold nearL
  rw [List.mem_filterMap]
  constructor
  · rintro ⟨e, he, h1⟩
    have hl := h.less e he
    have : ris (a, b) = e := by
      unfold ris
      by_cases h2 : e.1 = a
      · rw [if_pos h2] at h1
        injection h1 with h1
        exact Prod.ext (by simp only; omega) (by simp only; omega)
      · rw [if_neg h2] at h1
        by_cases h3 : e.2 = a
        · rw [if_pos h3] at h1
          injection h1 with h1
          exact Prod.ext (by simp only; omega) (by simp only; omega)
        · rw [if_neg h3] at h1; cases h1
    rw [this]; exact he
  · intro he
    have hl := h.less _ he
    unfold ris at hl
    simp only at hl
    refine ⟨_, he, ?_⟩
    unfold ris
    simp only
    by_cases h2 : min a b = a
    · rw [if_pos h2]; congr 1; omega
    · rw [if_neg h2, if_pos (by omega)]; congr 1; omega
theorem near_rising {S : List (Int × Int)} (h : Fine S) (a : Int) : (nearL S a).Pairwise (· < ·) := by
  unfold nearL
  rw [List.pairwise_filterMap]
  refine List.Pairwise.imp_of_mem (fun {e f} he hf hlt x hx y hy => ?_) h.rising
  have l1 := h.less e he
  have l2 := h.less f hf
  unfold ltE at hlt
  by_cases h1 : e.1 = a
  · simp only [h1, if_true] at hx
    by_cases h2 : f.1 = a
    · simp only [h2, if_true] at hy
      injection hx with hx; injection hy with hy; omega
    · rw [if_neg h2] at hy
      by_cases h3 : f.2 = a
      · rw [if_pos h3] at hy; injection hx with hx; injection hy with hy; omega
      · rw [if_neg h3] at hy; cases hy
  · rw [if_neg h1] at hx
    by_cases h4 : e.2 = a
    · rw [if_pos h4] at hx
      by_cases h2 : f.1 = a
      · simp only [h2, if_true] at hy
        injection hx with hx; injection hy with hy; omega
      · rw [if_neg h2] at hy
        by_cases h3 : f.2 = a
        · rw [if_pos h3] at hy; injection hx with hx; injection hy with hy; omega
        · rw [if_neg h3] at hy; cases hy
    · rw [if_neg h4] at hx; cases hx
/-- The i-th of those beside a vertex is at the i-th of its edges. -/
theorem near_at (a : Int) : ∀ (n : Nat) (S : List (Int × Int)), S.length = n → ∀ (i : Nat) (x k : Int), (nearL S a)[i]? = some x → (atL S a)[i]? = some k → ∃ (j : Nat) (e : Int × Int), k = j ∧ S[j]? = some e ∧ ((e.1 = a ∧ e.2 = x) ∨ (e.2 = a ∧ e.1 = x))
  | 0, S, h, i, x, k, h1, _ => by
    have : S = [] := List.eq_nil_of_length_eq_zero h
    subst this
    simp [nearL] at h1
  | n + 1, S, h, i, x, k, h1, h2 => by
    have hne : S ≠ [] := fun e => by simp [e] at h
    have hd := List.dropLast_concat_getLast hne
    have hl : S.dropLast.length = n := by simp [h]
    have hll := near_at_len S.dropLast a n hl
    rw [← hd, nearL_snoc] at h1
    rw [← hd, atL_snoc] at h2
    rcases Nat.lt_or_ge i (nearL S.dropLast a).length with hi | hi
    · rw [List.getElem?_append_left hi] at h1
      rw [List.getElem?_append_left (by omega)] at h2
      obtain ⟨j, e, h3, h4, h5⟩ := near_at a n S.dropLast hl i x k h1 h2
      refine ⟨j, e, h3, ?_, h5⟩
      rw [← hd, List.getElem?_append_left (List.getElem?_eq_some_iff.1 h4).1]
      exact h4
    · rw [List.getElem?_append_right hi] at h1
      rw [List.getElem?_append_right (by omega), ← hll] at h2
      refine ⟨n, S.getLast hne, ?_, ?_, ?_⟩
      · by_cases h3 : (S.getLast hne).1 = a ∨ (S.getLast hne).2 = a
        · rw [if_pos h3] at h2
          have := List.mem_of_getElem? h2
          simp at this
          omega
        · rw [if_neg h3] at h2; simp at h2
      · have e1 : (S.dropLast ++ [S.getLast hne])[n]? = some (S.getLast hne) := by
          rw [List.getElem?_append_right (by omega), hl]
          simp
        rwa [hd] at e1
      · by_cases h3 : (S.getLast hne).1 = a
        · rw [if_pos h3] at h1
          have := List.mem_of_getElem? h1
          simp at this
          exact Or.inl ⟨h3, this.symm⟩
        · rw [if_neg h3] at h1
          by_cases h4 : (S.getLast hne).2 = a
          · rw [if_pos h4] at h1
            have := List.mem_of_getElem? h1
            simp at this
            exact Or.inr ⟨h4, this.symm⟩
          · rw [if_neg h4] at h1; simp at h1
theorem count_at {M : List Int} (h : M.Pairwise (· < ·)) {x : Int} (hx : x ∈ M) : M[M.countP (· < x)]? = some x := by
  induction M with
  | nil => simp at hx
  | cons a t ih =>
    have h' := List.pairwise_cons.1 h
    rw [List.countP_cons]
    rcases List.mem_cons.1 hx with rfl | hx
    · have : t.countP (· < x) = 0 := by
        rw [List.countP_eq_zero]
        intro y hy
        have := h'.1 y hy
        simp; omega
      rw [this]
      simp
    · have := h'.1 x hx
      simp only [this, decide_true, if_true]
      rw [List.getElem?_cons_succ]
      exact ih h'.2 hx
/-- What Id finds. -/
theorem id_found {S : List (Int × Int)} (h : Fine S) {a b : Int} (hb : b ∈ nearL S a) : (atL S a)[(nearL S a).countP (· < b)]? = some (idL S a b) := by
  have h1 := count_at (near_rising h a) hb
  have hi := (List.getElem?_eq_some_iff.1 h1).1
  have hl := near_at_len S a S.length rfl
  have h2 : (atL S a)[(nearL S a).countP (· < b)]? = some ((atL S a)[(nearL S a).countP (· < b)]'(by omega)) := List.getElem?_eq_getElem (by omega)
  obtain ⟨j, e, h3, h4, h5⟩ := near_at a S.length S rfl _ b _ h1 h2
  have he : e ∈ S := List.mem_of_getElem? h4
  have hl := h.less e he
  have hr : ris (a, b) = e := by
    unfold ris
    rcases h5 with ⟨h6, h7⟩ | ⟨h6, h7⟩
    · exact Prod.ext (by simp only; omega) (by simp only; omega)
    · exact Prod.ext (by simp only; omega) (by simp only; omega)
  rw [h2, h3]
  unfold idL
  rw [hr, if_pos he]
  have hj := (List.getElem?_eq_some_iff.1 h4)
  obtain ⟨hj1, hj2⟩ := hj
  have : S.idxOf e = j := by
    rw [← hj2]
    exact List.Nodup.idxOf_getElem h.rising.nodup j hj1
  rw [this]
end

section
open Go.RowKit

/-- A slice of n numbers Z 0 .. in a world. -/
def IntsV (w : World) (v : Value) (n : Nat) (Z : Nat → Int) : Prop :=
  (n = 0 ∧ ∃ (ao : Option Addr) (cap : Nat), v = .slice ao 0 cap) ∨ (0 < n ∧ ∃ b off cap : Nat, v = .slice (some ⟨b, off, none⟩) n cap ∧ ∀ i, i < n → w.cell? ⟨b, off + i, none⟩ = some (.int .i64 (Z i)))
theorem IntsV.below {w w' : World} {v : Value} {n : Nat} {Z : Nat → Int} (h : IntsV w v n Z) {B : Nat} (hb : Below B w w') (hB : w.heap.size ≤ B) : IntsV w' v n Z := by
  rcases h with h | ⟨h0, b, off, cap, rfl, hc⟩
  · exact Or.inl h
  · refine Or.inr ⟨h0, b, off, cap, rfl, fun i hi => ?_⟩
    have hl : b < w.heap.size := World.block_lt_of_cell? _ _ (hc i hi)
    exact (hb.cell (p := ⟨b, off + i, none⟩) (Nat.lt_of_lt_of_le hl hB)).trans (hc i hi)
theorem IntsV.form {w : World} {v : Value} {n : Nat} {Z : Nat → Int} (h : IntsV w v n Z) : ∃ A c, v = .slice A n c := by
  rcases h with ⟨rfl, A, c, rfl⟩ | ⟨_, b, off, c, rfl, _⟩
  · exact ⟨_, _, rfl⟩
  · exact ⟨_, _, rfl⟩
theorem IntsV.pos {w : World} {A : Option Addr} {c n : Nat} {Z : Nat → Int} (h : IntsV w (.slice A n c) n Z) {i : Nat} (hi : i < n) : ∃ b off, A = some ⟨b, off, none⟩ ∧ ∀ j, j < n → w.cell? ⟨b, off + j, none⟩ = some (.int .i64 (Z j)) := by
  rcases h with ⟨rfl, _⟩ | ⟨_, b, off, c, e, hc⟩
  · omega
  · injection e with e1 e2 e3
    exact ⟨b, off, e1, hc⟩
end

section
open Go.RowKit

/-- Are the first k numbers the same? -/
def eqUpto (Z Y : Nat → Int) : Nat → Bool
  | 0 => true
  | k + 1 => eqUpto Z Y k && (Z k == Y k)
theorem eqUpto_iff {Z Y : Nat → Int} : ∀ {n : Nat}, eqUpto Z Y n = true ↔ ∀ i, i < n → Z i = Y i
  | 0 => by simp [eqUpto]
  | n + 1 => by
    rw [eqUpto, Bool.and_eq_true, eqUpto_iff, beq_iff_eq]
    constructor
    · rintro ⟨h1, h2⟩ i hi
      rcases (by omega : i < n ∨ i = n) with h | rfl
      · exact h1 i h
      · exact h2
    · intro h
      exact ⟨fun i hi => h i (by omega), h n (by omega)⟩
theorem eqUpto_no {Z Y : Nat → Int} {n k : Nat} (hk : k < n) (h : Z k ≠ Y k) : eqUpto Z Y n = false := by
  cases he : eqUpto Z Y n with
  | false => rfl
  | true => exact absurd (eqUpto_iff.1 he k hk) h
def sameI (Z : Nat → Int) (n : Nat) (Y : Nat → Int) (m : Nat) : Bool := decide (n = m) && eqUpto Z Y n
end

section
open Go.RowKit

/-- A slice that reads as a list. -/
def SeqV (w : World) (v : Value) (L : List Int) : Prop := IntsV w v L.length (fun i => L.getD i 0)
theorem SeqV.below {w w' : World} {v : Value} {L : List Int} (h : SeqV w v L) {B : Nat} (hb : Below B w w') (hB : w.heap.size ≤ B) : SeqV w' v L := IntsV.below h hb hB
theorem seqV_of {w : World} {v : Value} {n : Nat} {Z : Nat → Int} (h : IntsV w v n Z) : SeqV w v ((List.range n).map Z) := by
  unfold SeqV
  rcases h with ⟨rfl, A, c, rfl⟩ | ⟨h0, b, off, c, rfl, hc⟩
  · exact Or.inl ⟨by simp, _, _, rfl⟩
  · refine Or.inr ⟨by simpa using h0, b, off, c, by simp, fun i hi => ?_⟩
    simp at hi
    rw [hc i hi]
    simp [List.getD, hi]
theorem seqV_nil (w : World) (A : Option Addr) (c : Nat) : SeqV w (.slice A 0 c) [] := Or.inl ⟨rfl, _, _, rfl⟩

theorem Tryz.infoInt6 : (Tryz.prog.info? 3).map (fun i => (i.zero, i.size, i.bytes)) = some (some (.int .i64 0), 1, 8) := by kernel_rfl
def intCells (L : List Int) : List Value := L.map (Value.int .i64)
theorem intCells_app (A B : List Int) : intCells (A ++ B) = intCells A ++ intCells B := by simp [intCells]
theorem addr_plus (b o j : Nat) : (⟨b, o, none⟩ : Addr).add j = ⟨b, o + j, none⟩ := by unfold Addr.add; split <;> simp_all
theorem seq_cells {w : World} {b off n c : Nat} {L : List Int} (h : ∀ i, i < L.length → w.cell? ⟨b, off + i, none⟩ = some (.int .i64 (L.getD i 0))) (_hn : n = L.length) (_c : n ≤ c) : ∀ j u, (intCells L)[j]? = some u → w.cell? ((⟨b, off, none⟩ : Addr).add j) = some u := by
  intro j u hj
  have hjl : j < L.length := by
    rcases Nat.lt_or_ge j L.length with h1 | h1
    · exact h1
    · rw [List.getElem?_eq_none (by simpa [intCells] using h1)] at hj; cases hj
  rw [addr_plus, h j hjl]
  simp [intCells, hjl] at hj
  simp [List.getD, hjl, hj]

/-- Numbers behind a row of the call's own. -/
theorem wpList_appInts {P : Program} (w : World) {ops : Array Oper} {rest : List Oper} {o : Oper} {a : Act} {Q : Exit → Act → World → Prop} (hgd : o.guard = none) (s x : Operand) (t : TypeId)
    (ho : o.op = .call { callee := .builtin .append, args := #[s, x], argTypes := #[t, t] })
    (base : Nat) (i : TypeInfo) (ht : P.underlying t = some (.slice 3)) (hi : P.info? 3 = some i) (hz : i.zero = some (.int .i64 0))
    (hsize : i.size = 1) (hby : i.bytes = 8) (v : Value) (n : Nat) (xs : List Value) (hs : a.eval s = v) (hown : w.ownsRow base 3 1 v n xs)
    (u : Value) (l : List Int) (hx : a.eval x = u) (hu : SeqV w u l) (hn : n + l.length ≤ 1000000000) (hbase : base ≤ w.heap.size)
    (h : ∀ (A' : Option Addr) (c' : Nat) w', w'.ownsRow base 3 1 (.slice A' (n + l.length) c') (n + l.length) (xs ++ intCells l) → Grew w v w' (.slice A' (n + l.length) c') → wpList P ops Q rest (a.put o.dst (.slice A' (n + l.length) c')) w') :
    wpList P ops Q (o :: rest) a w := by
  obtain ⟨A, c, rfl⟩ := IntsV.form hu
  have key : ∀ ad : Addr, A = some ad → wpList P ops Q (o :: rest) a w := by
    intro ad hA
    subst hA
    refine wpList_append_own_at _ hgd s x t ho base 3 i (.int .i64 0) 1 8 ht hi hz hsize hby rfl (by decide) v n xs hs hown ad l.length c (intCells l) hx (by simp [intCells]) ?_ (fun u hu => by simp [intCells] at hu; obtain ⟨z, _, rfl⟩ := hu; rfl) (by unfold maxLen; omega) (by omega) hbase ?_
    · rcases hu with ⟨h0, _⟩ | ⟨_, b, off, c', e, hc⟩
      · intro j u hj
        rw [List.eq_nil_of_length_eq_zero h0] at hj
        simp [intCells] at hj
      · injection e with e1 e2 e3
        injection e1 with e1
        subst e1
        exact seq_cells (c := l.length) hc rfl (Nat.le_refl _)
    · intro v' w' hown' hgrow _ hloc
      obtain ⟨A', c', rfl⟩ := own_form hown'
      refine h A' c' w' hown' ⟨hgrow, ?_⟩
      rcases hloc with hl | hl
      · exact Or.inl hl
      · exact Or.inr ⟨_, hl, Nat.le_refl _⟩
  rcases A with _ | ad
  · have hl0 : l = [] := by
      rcases hu with ⟨h0, _⟩ | ⟨_, b, off, c', e, _⟩
      · exact List.eq_nil_of_length_eq_zero h0
      · cases e
    subst hl0
    obtain ⟨A', c', rfl⟩ := own_form hown
    refine wpList_plain hgd fun K hK => ?_
    have hr : (Builtin.append_ #[t, t] o.type #[.slice A' n c', .slice none 0 c]).run P w = .ok (.slice A' n c') w := by
      rcases hown.2 with ⟨h1, h2⟩ | ⟨g, cap, cur, h1, _, _, hnc, _⟩
      · injection h1 with e1 e2 e3
        subst e1 e2 e3
        simp [Builtin.append_, run_underlying ht, sizeOf, typeInfo, hi, Builtin.lenOf, Builtin.firstCells]
      · injection h1 with e1 e2 e3
        subst e1 e3
        simp [Builtin.append_, run_underlying ht, sizeOf, typeInfo, hi, Builtin.lenOf, Builtin.firstCells, hnc, storeCells]
    unfold Oper.wp execOp
    simp only [ho, resolve, invoke, builtin, Sem.run_bind, Sem.run_pure, Result.andThen_ok, List.map_toArray, List.map_cons, List.map_nil, hs, hx, List.length_nil, hr]
    exact hK _ _ (h A' c' w (by simpa [intCells] using hown) (Grew.refl _ _))
  · exact key ad rfl
theorem own_seq {w : World} {base n : Nat} {v : Value} {L : List Int} (h : w.ownsRow base 3 1 v n (intCells L)) : SeqV w v L := by
  have hn : L.length = n := by have := h.1; simp [intCells] at this; omega
  subst hn
  have h0 := h
  unfold SeqV
  rcases h.2 with ⟨rfl, h1⟩ | ⟨g, cap, cur, rfl, _, hh, hcap, _⟩
  · exact Or.inl ⟨h1, _, _, rfl⟩
  · rcases Nat.eq_zero_or_pos L.length with h3 | h3
    · exact Or.inl ⟨h3, _, _, by rw [h3]⟩
    · refine Or.inr ⟨h3, g, 0, cap, rfl, fun i hi => ?_⟩
      rw [Nat.zero_add, h0.cellAt i (by omega)]
      simp [intCells, List.getD, hi]

/-- A list in a slice whose capacity bears it. -/
def SeqC (w : World) (v : Value) (L : List Int) : Prop := SeqV w v L ∧ ∃ A c, v = .slice A L.length c ∧ L.length ≤ c
theorem SeqC.below {w w' : World} {v : Value} {L : List Int} (h : SeqC w v L) {B : Nat} (hb : Below B w w') (hB : w.heap.size ≤ B) : SeqC w' v L := ⟨h.1.below hb hB, h.2⟩
theorem own_seqC {w : World} {base n : Nat} {v : Value} {L : List Int} (h : w.ownsRow base 3 1 v n (intCells L)) : SeqC w v L := by
  have hn : L.length = n := by have := h.1; simp [intCells] at this; omega
  refine ⟨own_seq h, ?_⟩
  subst hn
  rcases h.2 with ⟨rfl, h1⟩ | ⟨g, cap, cur, rfl, _, hh, hcap, _⟩
  · exact ⟨_, _, by rw [h1], by omega⟩
  · exact ⟨_, _, rfl, hcap⟩
end

section
open Go.RowKit

theorem Tryz.infoRow : (Tryz.prog.info? 33).map (fun i => (i.zero, i.size, i.bytes)) = some (some (.slice none 0 0), 1, 24) := by kernel_rfl

/-- Two rows of unlike elements lie apart. -/
theorem own_apart {w : World} {b b' e e' s s' n n' : Nat} {v v' : Value} {xs xs' : List Value} (h : w.ownsRow b e s v n xs) (k : w.ownsRow b' e' s' v' n' xs') (hne : e ≠ e') : v.ownBlock = none ∨ v.ownBlock ≠ v'.ownBlock := by
  rcases h.2 with ⟨rfl, _⟩ | ⟨g, cap, cur, rfl, _, hh, _⟩
  · exact Or.inl rfl
  · refine Or.inr ?_
    rcases k.2 with ⟨rfl, _⟩ | ⟨g', cap', cur', rfl, _, hh', _⟩
    · simp [Value.ownBlock]
    · intro e1
      have e2 : g = g' := by simpa [Value.ownBlock] using e1
      subst e2
      rw [hh] at hh'
      injection hh' with hh'
      injection hh' with _ ht
      exact hne ht
theorem own_whole {w : World} {b e s n g : Nat} {v : Value} {xs : List Value} {t : TypeId} {cs : Array Value} (h : w.ownsRow b e s v n xs) (hg : Whole w g t cs) (hne : e ≠ t) : v.ownBlock = none ∨ v.ownBlock ≠ some g := Or.inr (own_ne h hg hne)

/-- Rows of numbers, in a row of their own. -/
def RowsOwn (w : World) (base : Nat) (v : Value) (C : List (List Int)) : Prop :=
  ∃ us : List Value, w.ownsRow base 33 1 v C.length us ∧ ∀ (i : Nat) (u : Value) (L : List Int), us[i]? = some u → C[i]? = some L → w.ownsRow base 3 1 u L.length (intCells L)
theorem RowsOwn.nil (w : World) (base : Nat) : RowsOwn w base (.slice none 0 0) [] := ⟨[], World.ownsRow_nil w base _ 1, fun i u L h => by simp at h⟩
theorem RowsOwn.form {w : World} {base : Nat} {v : Value} {C : List (List Int)} (h : RowsOwn w base v C) : ∃ A c, v = .slice A C.length c := by
  obtain ⟨us, h, _⟩ := h
  exact own_form h
theorem RowsOwn.kept {w w' : World} {base g : Nat} {v : Value} {C : List (List Int)} {t : TypeId} {cs : Array Value} (h : RowsOwn w base v C) (hw : w.grownBy w' (some g)) (hg : Whole w g t cs) (h1 : 33 ≠ t) (h2 : 3 ≠ t) : RowsOwn w' base v C := by
  obtain ⟨us, h, hr⟩ := h
  exact ⟨us, h.kept hw (own_whole h hg h1), fun i u L hu hL => (hr i u L hu hL).kept hw (own_whole (hr i u L hu hL) hg h2)⟩
theorem RowsOwn.below {w w' : World} {base B : Nat} {v : Value} {C : List (List Int)} (h : RowsOwn w base v C) (hb : Below B w w') (hB : w.heap.size ≤ B) : RowsOwn w' base v C := by
  obtain ⟨us, h, hr⟩ := h
  exact ⟨us, own_below h hb hB, fun i u L hu hL => own_below (hr i u L hu hL) hb hB⟩
theorem RowsOwn.more {w w' : World} {base : Nat} {v v' u : Value} {C : List (List Int)} {L : List Int} {us : List Value} (h : w.ownsRow base 33 1 v C.length us) (hr : ∀ (i : Nat) (u : Value) (L : List Int), us[i]? = some u → C[i]? = some L → w.ownsRow base 3 1 u L.length (intCells L))
    (hu : w.ownsRow base 3 1 u L.length (intCells L)) (h' : w'.ownsRow base 33 1 v' (C.length + 1) (us ++ [u])) (hg : Grew w v w' v') : RowsOwn w' base v' (C ++ [L]) := by
  have hne : 3 ≠ 33 := by decide
  have hl : us.length = C.length := by have := h.1; simpa using this
  refine ⟨us ++ [u], by simpa using h', fun i x M hx hM => ?_⟩
  rcases Nat.lt_or_ge i C.length with hi | hi
  · rw [List.getElem?_append_left (by omega)] at hx hM
    have := hr i x M hx hM
    exact this.kept hg.1 (own_apart this h hne)
  · rw [List.getElem?_append_right (by omega)] at hx hM
    rcases (by omega : i = C.length ∨ C.length < i) with rfl | h1
    · rw [hl, Nat.sub_self] at hx
      rw [Nat.sub_self] at hM
      simp at hx hM
      subst hx hM
      exact hu.kept hg.1 (own_apart hu h hne)
    · rw [List.getElem?_eq_none (by simp; omega)] at hx; cases hx

/-- Lists of numbers, as a reader sees them. -/
def ListsV (w : World) (v : Value) (C : List (List Int)) : Prop :=
  ∃ us : List Value, us.length = C.length ∧ (∀ (i : Nat) (u : Value) (L : List Int), us[i]? = some u → C[i]? = some L → SeqC w u L) ∧
    ((C = [] ∧ ∃ (ao : Option Addr) (cap : Nat), v = .slice ao 0 cap) ∨ (0 < C.length ∧ ∃ b off cap : Nat, v = .slice (some ⟨b, off, none⟩) C.length cap ∧ ∀ i, i < C.length → w.cell? ⟨b, off + i, none⟩ = us[i]?))
theorem RowsOwn.lists {w : World} {base : Nat} {v : Value} {C : List (List Int)} (h : RowsOwn w base v C) : ListsV w v C := by
  obtain ⟨us, h, hr⟩ := h
  have hl : us.length = C.length := by have := h.1; simpa using this
  refine ⟨us, hl, fun i u L hu hL => own_seqC (hr i u L hu hL), ?_⟩
  have h0 := h
  rcases h.2 with ⟨rfl, h1⟩ | ⟨g, cap, cur, rfl, _, hh, hcap, _⟩
  · exact Or.inl ⟨List.eq_nil_of_length_eq_zero h1, _, _, rfl⟩
  · rcases Nat.eq_zero_or_pos C.length with h3 | h3
    · exact Or.inl ⟨List.eq_nil_of_length_eq_zero h3, _, _, by rw [h3]⟩
    · refine Or.inr ⟨h3, g, 0, cap, rfl, fun i hi => ?_⟩
      rw [Nat.zero_add, h0.cellAt i (by omega)]
theorem ListsV.below {w w' : World} {v : Value} {C : List (List Int)} (h : ListsV w v C) {B : Nat} (hb : Below B w w') (hB : w.heap.size ≤ B) : ListsV w' v C := by
  obtain ⟨us, hl, hr, h⟩ := h
  refine ⟨us, hl, fun i u L hu hL => (hr i u L hu hL).below hb hB, ?_⟩
  rcases h with h | ⟨h0, b, off, cap, rfl, hc⟩
  · exact Or.inl h
  · refine Or.inr ⟨h0, b, off, cap, rfl, fun i hi => ?_⟩
    have h1 := hc i hi
    rw [List.getElem?_eq_getElem (by omega)] at h1 ⊢
    exact (hb.cell (p := ⟨b, off + i, none⟩) (Nat.lt_of_lt_of_le (World.block_lt_of_cell? _ _ h1) hB)).trans h1
theorem ListsV.form {w : World} {v : Value} {C : List (List Int)} (h : ListsV w v C) : ∃ A c, v = .slice A C.length c := by
  obtain ⟨us, hl, hr, h⟩ := h
  rcases h with ⟨rfl, A, c, rfl⟩ | ⟨_, b, off, c, rfl, _⟩
  · exact ⟨_, _, rfl⟩
  · exact ⟨_, _, rfl⟩
theorem ListsV.pos {w : World} {A : Option Addr} {n c : Nat} {C : List (List Int)} (h : ListsV w (.slice A n c) C) {i : Nat} (hi : i < C.length) : ∃ b off u, A = some ⟨b, off, none⟩ ∧ w.cell? ⟨b, off + i, none⟩ = some u ∧ SeqC w u C[i] := by
  obtain ⟨us, hl, hr, h⟩ := h
  rcases h with ⟨rfl, _⟩ | ⟨_, b, off, c, e, hc⟩
  · simp at hi
  · injection e with e1 e2 e3
    have h1 := hc i hi
    rw [List.getElem?_eq_getElem (by omega)] at h1
    exact ⟨b, off, _, e1, h1, hr i _ _ (List.getElem?_eq_getElem (by omega)) (List.getElem?_eq_getElem hi)⟩
end

section
open Go.RowKit

/-- A slice whose cells are these. -/
def ValsV (w : World) (v : Value) (us : List Value) : Prop :=
  (us = [] ∧ ∃ (ao : Option Addr) (cap : Nat), v = .slice ao 0 cap) ∨ (0 < us.length ∧ ∃ b off cap : Nat, v = .slice (some ⟨b, off, none⟩) us.length cap ∧ ∀ i, i < us.length → w.cell? ⟨b, off + i, none⟩ = us[i]?)
theorem ValsV.below {w w' : World} {v : Value} {us : List Value} (h : ValsV w v us) {B : Nat} (hb : Below B w w') (hB : w.heap.size ≤ B) : ValsV w' v us := by
  rcases h with h | ⟨h0, b, off, cap, rfl, hc⟩
  · exact Or.inl h
  · refine Or.inr ⟨h0, b, off, cap, rfl, fun i hi => ?_⟩
    have h1 := hc i hi
    rw [List.getElem?_eq_getElem hi] at h1 ⊢
    exact (hb.cell (p := ⟨b, off + i, none⟩) (Nat.lt_of_lt_of_le (World.block_lt_of_cell? _ _ h1) hB)).trans h1
theorem own_vals {w : World} {base n e : Nat} {v : Value} {us : List Value} (h : w.ownsRow base e 1 v n us) : ValsV w v us := by
  have hl : us.length = n := by have := h.1; simpa using this
  subst hl
  have h0 := h
  rcases h.2 with ⟨rfl, h1⟩ | ⟨g, cap, cur, rfl, _, hh, hcap, _⟩
  · exact Or.inl ⟨List.eq_nil_of_length_eq_zero h1, _, _, rfl⟩
  · rcases Nat.eq_zero_or_pos us.length with h3 | h3
    · exact Or.inl ⟨List.eq_nil_of_length_eq_zero h3, _, _, by rw [h3]⟩
    · refine Or.inr ⟨h3, g, 0, cap, rfl, fun i hi => ?_⟩
      rw [Nat.zero_add, h0.cellAt i (by omega)]
theorem vals_take {w : World} {A : Option Addr} {n c : Nat} {us : List Value} (h : ValsV w (.slice A n c) us) (a : Nat) (ha : a ≤ n) : ValsV w (.slice A a c) (us.take a) := by
  rcases h with ⟨rfl, ao, cap, e⟩ | ⟨h0, b, off, cap, e, hc⟩
  · injection e with e1 e2 e3
    have : a = 0 := by omega
    subst this
    exact Or.inl ⟨rfl, _, _, rfl⟩
  · injection e with e1 e2 e3
    subst e1 e2
    rcases Nat.eq_zero_or_pos a with h1 | h1
    · subst h1; exact Or.inl ⟨rfl, _, _, rfl⟩
    · have hl : (us.take a).length = a := by rw [List.length_take]; omega
      refine Or.inr ⟨by omega, b, off, c, by rw [hl], fun i hi => ?_⟩
      rw [hc i (by omega), List.getElem?_take_of_lt (by omega)]
theorem vals_drop {w : World} {b off n c : Nat} {us : List Value} (h : ValsV w (.slice (some ⟨b, off, none⟩) n c) us) (a : Nat) (_ha : a ≤ n) : ValsV w (.slice (some ⟨b, off + a, none⟩) (n - a) (c - a)) (us.drop a) := by
  rcases h with ⟨rfl, ao, cap, e⟩ | ⟨h0, b', off', cap, e, hc⟩
  · injection e with e1 e2 e3
    subst e2
    exact Or.inl ⟨by simp, _, _, by rw [Nat.zero_sub]⟩
  · injection e with e1 e2 e3
    injection e1 with e1
    injection e1 with e1 e4
    subst e1 e4 e2
    have hl : (us.drop a).length = us.length - a := List.length_drop
    rcases Nat.eq_zero_or_pos (us.length - a) with h1 | h1
    · exact Or.inl ⟨List.eq_nil_of_length_eq_zero (by omega), _, _, by rw [h1]⟩
    · refine Or.inr ⟨by omega, b, off + a, c - a, by rw [hl], fun i hi => ?_⟩
      rw [Nat.add_assoc, hc (a + i) (by omega), List.getElem?_drop]

theorem wpList_appVals {P : Program} (w : World) {ops : Array Oper} {rest : List Oper} {o : Oper} {a : Act} {Q : Exit → Act → World → Prop} (hgd : o.guard = none) (s x : Operand) (t e : TypeId) (z : Value) (bytes : Nat)
    (ho : o.op = .call { callee := .builtin .append, args := #[s, x], argTypes := #[t, t] })
    (base : Nat) (i : TypeInfo) (ht : P.underlying t = some (.slice e)) (hi : P.info? e = some i) (hz : i.zero = some z)
    (hsize : i.size = 1) (hby : i.bytes = bytes) (hzs : z.cells.size = 1) (hbytes : bytes ≤ 128) (v : Value) (n : Nat) (xs : List Value) (hs : a.eval s = v) (hown : w.ownsRow base e 1 v n xs)
    (u : Value) (l : List Value) (hx : a.eval x = u) (hu : ValsV w u l) (h1 : ∀ y, y ∈ l → y.oneCell' = true) (hn : n + l.length ≤ 1000000000) (hbase : base ≤ w.heap.size)
    (h : ∀ (A' : Option Addr) (c' : Nat) w', w'.ownsRow base e 1 (.slice A' (n + l.length) c') (n + l.length) (xs ++ l) → Grew w v w' (.slice A' (n + l.length) c') → wpList P ops Q rest (a.put o.dst (.slice A' (n + l.length) c')) w') :
    wpList P ops Q (o :: rest) a w := by
  have hb1 : (n + l.length) * bytes ≤ (n + l.length) * 128 := Nat.mul_le_mul_left _ hbytes
  have key : ∀ (ad : Addr) (c : Nat), u = .slice (some ad) l.length c → (∀ j y, l[j]? = some y → w.cell? (ad.add j) = some y) → wpList P ops Q (o :: rest) a w := by
    intro ad c hA hc
    subst hA
    refine wpList_append_own_at _ hgd s x t ho base e i z 1 bytes ht hi hz hsize hby hzs (by decide) v n xs hs hown ad l.length c l hx (by simp) hc h1 (by unfold maxLen; omega) (by omega) hbase ?_
    intro v' w' hown' hgrow _ hloc
    obtain ⟨A', c', rfl⟩ := own_form hown'
    refine h A' c' w' hown' ⟨hgrow, ?_⟩
    rcases hloc with hl | hl
    · exact Or.inl hl
    · exact Or.inr ⟨_, hl, Nat.le_refl _⟩
  rcases hu with ⟨rfl, ao, cap, rfl⟩ | ⟨_, b, off, cap, rfl, hc⟩
  · rcases ao with _ | ad
    · obtain ⟨A', c', rfl⟩ := own_form hown
      refine wpList_plain hgd fun K hK => ?_
      have hr : (Builtin.append_ #[t, t] o.type #[.slice A' n c', .slice none 0 cap]).run P w = .ok (.slice A' n c') w := by
        rcases hown.2 with ⟨h1', h2⟩ | ⟨g, cap', cur, h1', _, _, hnc, _⟩
        · injection h1' with e1 e2 e3
          subst e1 e2 e3
          simp [Builtin.append_, run_underlying ht, sizeOf, typeInfo, hi, Builtin.lenOf, Builtin.firstCells]
        · injection h1' with e1 e2 e3
          subst e1 e3
          simp [Builtin.append_, run_underlying ht, sizeOf, typeInfo, hi, Builtin.lenOf, Builtin.firstCells, hnc, storeCells]
      unfold Oper.wp execOp
      simp only [ho, resolve, invoke, builtin, Sem.run_bind, Sem.run_pure, Result.andThen_ok, List.map_toArray, List.map_cons, List.map_nil, hs, hx, hr]
      exact hK _ _ (h A' c' w (by simpa using hown) (Grew.refl _ _))
    · exact key ad cap rfl (fun j y hj => by simp at hj)
  · refine key _ cap rfl fun j y hj => ?_
    have hjl : j < l.length := by
      rcases Nat.lt_or_ge j l.length with h2 | h2
      · exact h2
      · rw [List.getElem?_eq_none h2] at hj; cases hj
    rw [addr_plus, hc j hjl, hj]
theorem own_base {w : World} {b b' e s n : Nat} {v : Value} {xs : List Value} (h : w.ownsRow b e s v n xs) (hb : b' ≤ b) : w.ownsRow b' e s v n xs := by
  refine ⟨h.1, ?_⟩
  rcases h.2 with h1 | ⟨g, cap, cur, h1, h2, h3⟩
  · exact Or.inl h1
  · exact Or.inr ⟨g, cap, cur, h1, by omega, h3⟩
end

section
open Go.RowKit

/-- Rows of numbers, no two of which lie in one block. -/
structure Fam (w : World) (base : Nat) (us : List Value) (C : List (List Int)) : Prop where
  len : us.length = C.length
  row : ∀ (i : Nat) (u : Value) (L : List Int), us[i]? = some u → C[i]? = some L → w.ownsRow base 3 1 u L.length (intCells L)
  apart : ∀ (i j : Nat) (u v : Value), i ≠ j → us[i]? = some u → us[j]? = some v → u.ownBlock = none ∨ u.ownBlock ≠ v.ownBlock
section
variable {w w' : World} {base : Nat} {us : List Value} {C : List (List Int)}
theorem Fam.made (w : World) (base n : Nat) : Fam w base (List.replicate n (.slice none 0 0)) (List.replicate n []) :=
  ⟨by simp, fun i u L hu hL => by
    have h1 := List.getElem?_eq_some_iff.1 hu
    have h2 := List.getElem?_eq_some_iff.1 hL
    obtain ⟨_, h1⟩ := h1
    obtain ⟨_, h2⟩ := h2
    simp at h1 h2
    subst h1 h2
    exact World.ownsRow_nil w base _ 1, fun i j u v _ hu _ => by
    obtain ⟨_, h1⟩ := List.getElem?_eq_some_iff.1 hu
    simp at h1
    subst h1
    exact Or.inl rfl⟩
theorem Fam.kept {r : Option Nat} (h : Fam w base us C) (hg : w.grownBy w' r) (hr : ∀ (i : Nat) (u : Value), us[i]? = some u → u.ownBlock = none ∨ u.ownBlock ≠ r) : Fam w' base us C :=
  ⟨h.len, fun i u L hu hL => (h.row i u L hu hL).kept hg (hr i u hu), h.apart⟩
theorem Fam.below {B : Nat} (h : Fam w base us C) (hb : Below B w w') (hB : w.heap.size ≤ B) : Fam w' base us C :=
  ⟨h.len, fun i u L hu hL => own_below (h.row i u L hu hL) hb hB, h.apart⟩
theorem Fam.at {i : Nat} (h : Fam w base us C) (hi : i < C.length) : ∃ u, us[i]? = some u ∧ w.ownsRow base 3 1 u C[i].length (intCells C[i]) := by
  have hl : i < us.length := by rw [h.len]; exact hi
  exact ⟨us[i], List.getElem?_eq_getElem hl, h.row i _ _ (List.getElem?_eq_getElem hl) (List.getElem?_eq_getElem hi)⟩
theorem Fam.whole {g : Nat} {t : TypeId} {cs : Array Value} (h : Fam w base us C) (hg : Whole w g t cs) (ht : 3 ≠ t) : ∀ (i : Nat) (u : Value), us[i]? = some u → u.ownBlock = none ∨ u.ownBlock ≠ some g := fun i u hu => by
  have hi : i < us.length := (List.getElem?_eq_some_iff.1 hu).1
  have hl : i < C.length := by rw [← h.len]; exact hi
  exact own_whole (h.row i u _ hu (List.getElem?_eq_getElem hl)) hg ht
/-- A number appended to one of the rows. -/
theorem Fam.app {i : Nat} {u u' : Value} {L M : List Int} (h : Fam w base us C) (hu : us[i]? = some u) (_hL : C[i]? = some L) (hg : Grew w u w' u') (hown : w'.ownsRow base 3 1 u' M.length (intCells M)) : Fam w' base (us.set i u') (C.set i M) := by
  have hi : i < us.length := (List.getElem?_eq_some_iff.1 hu).1
  have lt : ∀ (j : Nat) (v : Value) (k : Nat), us[j]? = some v → v.ownBlock = some k → k < w.heap.size := fun j v k hv hk => by
    have hj : j < us.length := (List.getElem?_eq_some_iff.1 hv).1
    have hl : j < C.length := by rw [← h.len]; exact hj
    exact ((h.row j v _ hv (List.getElem?_eq_getElem hl)).lt k hk).2
  refine ⟨by simp [h.len], fun j v K hv hK => ?_, fun j k v x hjk hv hx => ?_⟩
  · by_cases hj : i = j
    · subst hj
      rw [List.getElem?_set_self hi] at hv
      rw [List.getElem?_set_self (by rw [← h.len]; exact hi)] at hK
      injection hv with hv
      injection hK with hK
      subst hv hK
      exact hown
    · rw [List.getElem?_set_ne hj] at hv hK
      exact (h.row j v K hv hK).kept hg.1 (h.apart j i v u (fun e => hj e.symm) hv hu)
  · by_cases h1 : i = j
    · subst h1
      rw [List.getElem?_set_self hi] at hv
      rw [List.getElem?_set_ne hjk] at hx
      injection hv with hv
      subst hv
      rcases hg.2 with h2 | ⟨b, h2, h3⟩
      · rw [h2]
        exact h.apart i k u x hjk hu hx
      · refine Or.inr (fun e => ?_)
        rw [h2] at e
        have := lt k x b hx e.symm
        omega
    · rw [List.getElem?_set_ne h1] at hv
      by_cases h2 : i = k
      · subst h2
        rw [List.getElem?_set_self hi] at hx
        injection hx with hx
        subst hx
        rcases hg.2 with h3 | ⟨b, h3, h4⟩
        · rw [h3]
          exact h.apart j i v u hjk hv hu
        · by_cases h5 : v.ownBlock = none
          · exact Or.inl h5
          · refine Or.inr (fun e => ?_)
            rw [h3] at e
            have := lt j v b hv e
            omega
      · rw [List.getElem?_set_ne h2] at hx
        exact h.apart j k v x hjk hv hx
end
end

section
open Go.RowKit

/-- A fault of a code at a place. -/
def FaultAt (c p : Int) (w : World) (v : Value) : Prop := ∃ (b : Nat) (s : ByteArray), v = .iface 60 (.pointer (some ⟨b, 0, none⟩)) ∧ Whole w b 63 #[.int .i64 c, .int .i64 p, .string s] ∧ s.size ≤ 100
theorem FaultAt.below {c p : Int} {w w' : World} {v : Value} (h : FaultAt c p w v) {B : Nat} (hb : Below B w w') (hB : w.heap.size ≤ B) : FaultAt c p w' v := by
  obtain ⟨b, s, rfl, hw, hs⟩ := h
  exact ⟨b, s, rfl, hw.below hb (by have := hw.lt; omega), hs⟩
theorem code_f7 {c p : Int} {w : World} {v : Value} (h : FaultAt c p w v) (hg : ErrT w) : Calls Tryz.prog 10 #[v] w fun e w' => e = .returned (.int .i64 c) ∧ Below w.heap.size w w' := by
  obtain ⟨b, s, rfl, hw, _⟩ := h
  exact code_hit b c w hg (by rw [hw.cell 0]; rfl)
end
end Go.Proofs.YtnjkjgmnnmgngaaGreatDoor
