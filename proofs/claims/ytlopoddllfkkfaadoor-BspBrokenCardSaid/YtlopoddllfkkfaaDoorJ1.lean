/- An argument of a row as a walk takes it: a slice of integers. Memory as the walks here speak of it: a block known whole; a row of the call's own, kept. A slice of n numbers. Arguments: small numbers; a slice of numbers as IntsV. An argument of a row as a walk takes it: a slice of structs of two integers. -/
import Derived.Test.YtlopoddllfkkfaaDoorProg
import Derived.ProofKit
import Derived.OpenShut
import Derived.WalkKit
import Derived.Below
import Derived.Laws.OwnMore
import Derived.Laws.Rows
import Derived.Deep.Draws
import Derived.Deep.AppendLies
import Derived.Maps.AppendAt
import Derived.OwnWalk
import Derived.OneCell
import Derived.Lib.Hide
import Derived.Deep.Slices
import Derived.Deep.Fields
namespace Go.Proofs.YtlopoddllfkkfaaDoor
section
open Go.ChangeShapes Go.WideShapes Go.RowKit

theorem wf_i64 {n : Int} (h : (Lit.int .i64 n).wf = true) : -9223372036854775808 ≤ n ∧ n ≤ 9223372036854775807 := bounds_i64 h

/-- A slice of int64 (or int) that came in: nil; empty; or numbers in a block. -/
theorem ints_view {P : Program} {H : Type} {enc : TypeId × Value → H} {W : World} {base : Nat} {v : Value} {d : DataW H} {ps : List MemPlace} {t e b0 : Nat} {r : Reach} (ht : P.underlying t = some (.slice e)) (he : P.underlying e = some (.int .i64)) (hc : P.cellsOf e = 1)
    (hv : Value.okWide P W r b0 t v) (h : DataW.Trod enc P W base (fun _ => true) true t v d ps) :
    v = .slice none 0 0 ∨ (∃ (a : Addr) (cap : Nat), v = .slice (some a) 0 cap ∧ cap ≤ 9223372036854775807) ∨
    ∃ (b off len cap : Nat) (Z : Nat → Int), v = .slice (some ⟨b, off, none⟩) len cap ∧ 0 < len ∧ len ≤ cap ∧ cap ≤ 9223372036854775807 ∧ (∀ i, i < len → W.cell? ⟨b, off + i, none⟩ = some (.int .i64 (Z i))) ∧ ∀ i, -9223372036854775808 ≤ Z i ∧ Z i ≤ 9223372036854775807 := by
  obtain ⟨a0, len, cap, rfl⟩ := okWide_slice ht hv
  obtain ⟨fuel, hf⟩ := h
  rcases open_ints ht he hc hf with ⟨hcs, hx⟩ | ⟨a, len', cap', zs, hcs, _, hl, hm, hz, hx, hcell, hwz⟩
  · simp [Value.cells] at hcs
    obtain ⟨rfl, rfl, rfl⟩ := hcs
    exact Or.inl rfl
  · simp [Value.cells] at hcs
    obtain ⟨rfl, rfl, rfl⟩ := hcs
    unfold maxLen at hm
    simp only [if_true] at hz
    rcases Nat.eq_zero_or_pos len with rfl | hpos
    · exact Or.inr (Or.inl ⟨a, cap, rfl, hm⟩)
    · obtain ⟨b, off, spot⟩ := a
      have hspot : spot = none := by simpa [Addr.add] using World.cell?_spot (hcell 0 (by omega))
      subst hspot
      refine Or.inr (Or.inr ⟨b, off, len, cap, fun i => zs.getD i 0, rfl, hpos, hl, hm, fun i hi => by rw [← add_plain]; exact hcell i (by omega), fun i => ?_⟩)
      rcases Nat.lt_or_ge i zs.length with h | h
      · have e1 : zs.getD i 0 = zs[i] := by simp [List.getD, h]
        show -9223372036854775808 ≤ zs.getD i 0 ∧ zs.getD i 0 ≤ 9223372036854775807
        rw [e1]
        exact bounds_i64 (hwz _ (List.getElem_mem h))
      · show -9223372036854775808 ≤ zs.getD i 0 ∧ zs.getD i 0 ≤ 9223372036854775807
        rw [show zs.getD i 0 = 0 by simp [List.getD, h]]
        decide
end

section
open Go.RowKit

/-- Block g holds just these cells, and none of them is frozen. -/
def Whole (w : World) (g : Nat) (t : TypeId) (cs : Array Value) : Prop := w.heap[g]? = some (.cells cs t (0, 0))
section
variable {w w' : World} {g : Nat} {t : TypeId} {cs : Array Value}
theorem Whole.lt (h : Whole w g t cs) : g < w.heap.size := lt_of_block h
theorem Whole.cell (h : Whole w g t cs) (i : Nat) : w.cell? ⟨g, i, none⟩ = cs[i]? := cell_of_row w g i cs t (0, 0) h
theorem Whole.free (h : Whole w g t cs) (i : Nat) : w.frozen? ⟨g, i, none⟩ = false := frozen_of_row w g i cs t h
theorem Whole.new (w : World) (t : TypeId) (cs : Array Value) : Whole (w.alloc (.cells cs t)) w.heap.size t cs := heap_alloc_new w _
theorem Whole.drewN (h : Whole w g t cs) (n : Nat) : Whole (w.drewN n) g t cs := h
theorem Whole.alloc (h : Whole w g t cs) (o : Obj) : Whole (w.alloc o) g t cs := (Below.heap_alloc w o g h.lt).trans h
theorem Whole.put (h : Whole w g t cs) (i : Nat) (u : Value) : Whole (w.setCell ⟨g, i, none⟩ u) g t (cs.setIfInBounds i u) := by
  unfold Whole at h ⊢
  simp [World.setCell, Array.getElem?_modify, h]
theorem Whole.other (h : Whole w g t cs) {p : Addr} (hp : g ≠ p.block) (u : Value) : Whole (w.setCell p u) g t cs := (Below.heap_setCell w p u g hp).trans h
theorem Whole.below {B : Nat} (h : Whole w g t cs) (hb : Below B w w') (hg : g < B) : Whole w' g t cs := (hb.block g hg).trans h
theorem Whole.grown {row : Option Nat} (h : Whole w g t cs) (hb : w.grownBy w' row) (hg : some g ≠ row) : Whole w' g t cs := (hb.block g h.lt hg).trans h
end

theorem own_below {w w' : World} {base e size n B : Nat} {v : Value} {xs : List Value} (h : w.ownsRow base e size v n xs) (hb : Below B w w') (hB : w.heap.size ≤ B) : w'.ownsRow base e size v n xs := by
  refine ⟨h.1, ?_⟩
  rcases h.2 with hn | ⟨g, cap, cur, rfl, hg, hh, r⟩
  · exact Or.inl hn
  · have hlt : g < w.heap.size := (Array.getElem?_eq_some_iff.1 hh).1
    exact Or.inr ⟨g, cap, cur, rfl, hg, by rw [hb.block g (by omega)]; exact hh, r⟩
theorem own_drewN {w : World} {base e size n : Nat} {v : Value} {xs : List Value} (h : w.ownsRow base e size v n xs) (d : Nat) : (w.drewN d).ownsRow base e size v n xs := h
/-- A row of the call's own lies where another block does not. -/
theorem own_ne {w : World} {base e size n g : Nat} {v : Value} {xs : List Value} {t : TypeId} {cs : Array Value} (h : w.ownsRow base e size v n xs) (hg : Whole w g t cs) (hne : e ≠ t) : v.ownBlock ≠ some g := by
  rcases h.2 with ⟨rfl, _⟩ | ⟨g', cap, cur, rfl, _, hh, _⟩
  · simp [Value.ownBlock]
  · intro he
    have e1 : g' = g := by simpa [Value.ownBlock] using he
    subst e1
    unfold Whole at hg
    rw [hg] at hh
    injection hh with hh
    injection hh with _ ht
    exact hne ht.symm
theorem own_form {w : World} {base e size n : Nat} {v : Value} {xs : List Value} (h : w.ownsRow base e size v n xs) : ∃ A c, v = .slice A n c := by
  rcases h.2 with ⟨rfl, rfl⟩ | ⟨g, cap, cur, rfl, _⟩
  · exact ⟨_, _, rfl⟩
  · exact ⟨_, _, rfl⟩
theorem below_drewN' {B : Nat} {a w : World} (h : Below B a w) (n : Nat) : Below B a (w.drewN n) := ⟨h.os, h.tape, h.output, h.size, h.block⟩

/-- One element more, put into a new block of one cell and appended to a row of the call's own. -/
theorem wpList_app1 {P : Program} (w : World) {ops : Array Oper} {rest : List Oper} {o : Oper} {a : Act} {Q : Exit → Act → World → Prop} (hgd : o.guard = none) (s x : Operand) (t : TypeId)
    (ho : o.op = .call { callee := .builtin .append, args := #[s, x], argTypes := #[t, t] })
    (base : Nat) (e : TypeId) (i : TypeInfo) (z : Value) (bytes : Nat) (ht : P.underlying t = some (.slice e)) (hi : P.info? e = some i) (hz : i.zero = some z)
    (hsize : i.size = 1) (hby : i.bytes = bytes) (hzs : z.cells.size = 1) (v : Value) (n : Nat) (xs : List Value) (hs : a.eval s = v) (hown : w.ownsRow base e 1 v n xs)
    (u : Value) (hu : u.oneCell' = true) (hx : a.eval x = .slice (some ⟨w.heap.size, 0, none⟩) 1 1) (hn : n ≤ 1000000000) (hbytes : bytes ≤ 128) (hbase : base ≤ w.heap.size)
    (h : ∀ (A' : Option Addr) (c' : Nat) w', w'.ownsRow base e 1 (.slice A' (n + 1) c') (n + 1) (xs ++ [u]) → (w.alloc (.cells #[u] e)).grownBy w' v.ownBlock → wpList P ops Q rest (a.put o.dst (.slice A' (n + 1) c')) w') :
    wpList P ops Q (o :: rest) a (w.alloc (.cells #[u] e)) := by
  have hb1 : (n + 1) * bytes ≤ (n + 1) * 128 := Nat.mul_le_mul_left _ hbytes
  refine wpList_append_own _ hgd s x t ho base e i z 1 bytes ht hi hz hsize hby hzs (by decide) v n xs hs (hown.alloc _) ⟨w.heap.size, 0, none⟩ 1 1 [u] hx rfl ?_ ?_ ?_ ?_ ?_ ?_
  · intro j u' hj
    match j, hj with
    | 0, hj => simp at hj; subst hj; simp [Addr.add]
  · intro u' hu'; simp at hu'; subst hu'; exact hu
  · unfold maxLen; omega
  · omega
  · simp; omega
  · intro v' w' hown' hgrow _
    obtain ⟨A', c', rfl⟩ := own_form hown'
    exact h A' c' w' hown' hgrow

section
variable {w w1 a : World} {base e size n B g : Nat} {v u : Value} {xs : List Value} {t : TypeId} {cs : Array Value}
theorem app_below (hb : Below B a w) (hB : B ≤ base) (hbase : base ≤ w.heap.size) (hown : w.ownsRow base e size v n xs) (o : Obj) (hg : (w.alloc o).grownBy w1 v.ownBlock) : Below B a w1 :=
  (hb.alloc (by omega) o).grown hg (by simp; omega) (fun k hk => Nat.le_trans hB (hown.lt k hk).1)
theorem app_whole (hw : Whole w g t cs) (hown : w.ownsRow base e size v n xs) (hne : e ≠ t) (o : Obj) (hg : (w.alloc o).grownBy w1 v.ownBlock) : Whole w1 g t cs :=
  (hw.alloc o).grown hg (fun h => own_ne hown hw hne h.symm)
theorem app_far (hw : Whole w g t cs) (hgB : g < base) (hown : w.ownsRow base e size v n xs) (o : Obj) (hg : (w.alloc o).grownBy w1 v.ownBlock) : Whole w1 g t cs :=
  (hw.alloc o).grown hg (fun h => by have := (hown.lt g h.symm).1; omega)
theorem own_put (hown : w.ownsRow base e size v n xs) {p : Addr} (hne : v.ownBlock ≠ some p.block) (u : Value) : (w.setCell p u).ownsRow base e size v n xs := ownsRow_setCell_other hown hne u
end

/-- A row of the call's own was appended to: only its block, or new ones, have turned. -/
def Grew (w : World) (v : Value) (w' : World) (v' : Value) : Prop := w.grownBy w' v.ownBlock ∧ (v'.ownBlock = v.ownBlock ∨ ∃ g, v'.ownBlock = some g ∧ w.heap.size ≤ g)
theorem Grew.refl (w : World) (v : Value) : Grew w v w v := ⟨World.grownBy.refl w _, Or.inl rfl⟩
theorem Grew.trans {w w1 w2 : World} {v v1 v2 : Value} (h : Grew w v w1 v1) (k : Grew w1 v1 w2 v2) : Grew w v w2 v2 := by
  have hsz := h.1.size
  refine ⟨⟨k.1.os.trans h.1.os, k.1.tape.trans h.1.tape, k.1.output.trans h.1.output, Nat.le_trans hsz k.1.size, fun i hi hne => ?_⟩, ?_⟩
  · refine (k.1.block i (by omega) (fun e => ?_)).trans (h.1.block i hi hne)
    rcases h.2 with h2 | ⟨g, h2, hg⟩
    · rw [h2] at e; exact hne e
    · rw [h2] at e; injection e with e; omega
  · rcases k.2 with k2 | ⟨g, k2, hg⟩
    · rw [k2]; exact h.2
    · exact Or.inr ⟨g, k2, by omega⟩
theorem grown_of_alloc {w w' : World} {o : Obj} {row : Option Nat} (h : (w.alloc o).grownBy w' row) : w.grownBy w' row :=
  ⟨h.os, h.tape, h.output, by have := h.size; simp at this; omega, fun i hi hne => (h.block i (by simp; omega) hne).trans (Below.heap_alloc w o i hi)⟩
theorem grown_of_drewN {w w' : World} {d : Nat} {row : Option Nat} (h : (w.drewN d).grownBy w' row) : w.grownBy w' row := ⟨h.os, h.tape, h.output, h.size, h.block⟩
theorem Grew.of_below {w w' : World} {v : Value} (h : Below w.heap.size w w') : Grew w v w' v := ⟨⟨h.os, h.tape, h.output, h.size, fun i hi _ => h.block i hi⟩, Or.inl rfl⟩
theorem Grew.below {w w' a : World} {v v' : Value} {B base e size n : Nat} {xs : List Value} (h : Grew w v w' v') (hown : w.ownsRow base e size v n xs) (hb : Below B a w) (hB : B ≤ base) (hbase : base ≤ w.heap.size) : Below B a w' :=
  hb.grown h.1 (by omega) (fun k hk => Nat.le_trans hB (hown.lt k hk).1)
theorem Grew.whole {w w' : World} {v v' : Value} {base e size n g : Nat} {xs : List Value} {t : TypeId} {cs : Array Value} (h : Grew w v w' v') (hw : Whole w g t cs) (hown : w.ownsRow base e size v n xs) (hne : e ≠ t) : Whole w' g t cs :=
  hw.grown h.1 (fun he => own_ne hown hw hne he.symm)
theorem Grew.put {w w' : World} {v v' : Value} {g : Nat} (h : Grew w v w' v') (hg : w.heap.size ≤ g) (i : Nat) (u : Value) : Grew w v (w'.setCell ⟨g, i, none⟩ u) v' :=
  ⟨⟨h.1.os, h.1.tape, h.1.output, by simpa [World.setCell] using h.1.size, fun j hj hne => (Below.heap_setCell w' ⟨g, i, none⟩ u j (by simp; omega)).trans (h.1.block j hj hne)⟩, h.2⟩

/-- One element more, put into a new block of one cell and appended to a row of the call's own. -/
theorem wpList_app1g {P : Program} (w : World) {ops : Array Oper} {rest : List Oper} {o : Oper} {a : Act} {Q : Exit → Act → World → Prop} (hgd : o.guard = none) (s x : Operand) (t : TypeId)
    (ho : o.op = .call { callee := .builtin .append, args := #[s, x], argTypes := #[t, t] })
    (base : Nat) (e : TypeId) (i : TypeInfo) (z : Value) (bytes : Nat) (ht : P.underlying t = some (.slice e)) (hi : P.info? e = some i) (hz : i.zero = some z)
    (hsize : i.size = 1) (hby : i.bytes = bytes) (hzs : z.cells.size = 1) (v : Value) (n : Nat) (xs : List Value) (hs : a.eval s = v) (hown : w.ownsRow base e 1 v n xs)
    (u : Value) (hu : u.oneCell' = true) (hx : a.eval x = .slice (some ⟨w.heap.size, 0, none⟩) 1 1) (hn : n ≤ 1000000000) (hbytes : bytes ≤ 128) (hbase : base ≤ w.heap.size)
    (h : ∀ (A' : Option Addr) (c' : Nat) w', w'.ownsRow base e 1 (.slice A' (n + 1) c') (n + 1) (xs ++ [u]) → Grew w v w' (.slice A' (n + 1) c') → wpList P ops Q rest (a.put o.dst (.slice A' (n + 1) c')) w') :
    wpList P ops Q (o :: rest) a (w.alloc (.cells #[u] e)) := by
  have hb1 : (n + 1) * bytes ≤ (n + 1) * 128 := Nat.mul_le_mul_left _ hbytes
  refine wpList_append_own_at _ hgd s x t ho base e i z 1 bytes ht hi hz hsize hby hzs (by decide) v n xs hs (hown.alloc _) ⟨w.heap.size, 0, none⟩ 1 1 [u] hx rfl ?_ ?_ ?_ ?_ ?_ ?_
  · intro j u' hj
    match j, hj with
    | 0, hj => simp at hj; subst hj; simp [Addr.add]
  · intro u' hu'; simp at hu'; subst hu'; exact hu
  · unfold maxLen; omega
  · omega
  · simp; omega
  · intro v' w' hown' hgrow _ hloc
    obtain ⟨A', c', rfl⟩ := own_form hown'
    refine h A' c' w' hown' ⟨grown_of_alloc hgrow, ?_⟩
    rcases hloc with hl | hl
    · exact Or.inl hl
    · exact Or.inr ⟨_, hl, by simp⟩
end

section
open Go.RowKit

/-- A slice of n numbers Z 0 .. in a world. -/
def IntsV (w : World) (v : Value) (n : Nat) (Z : Nat → Int) : Prop :=
  (n = 0 ∧ ∃ (ao : Option Addr) (cap : Nat), v = .slice ao 0 cap) ∨ (0 < n ∧ ∃ b off cap : Nat, v = .slice (some ⟨b, off, none⟩) n cap ∧ ∀ i, i < n → w.cell? ⟨b, off + i, none⟩ = some (.int .i64 (Z i)))
theorem IntsV.below {w w' : World} {v : Value} {n : Nat} {Z : Nat → Int} (h : IntsV w v n Z) {B : Nat} (hb : Below B w w') (hB : w.heap.size ≤ B) : IntsV w' v n Z := by
  rcases h with h | ⟨h0, b, off, cap, rfl, hc⟩
  · exact Or.inl h
  · refine Or.inr ⟨h0, b, off, cap, rfl, fun i hi => ?_⟩
    have hl : b < w.heap.size := World.block_lt_of_cell? _ _ (hc i hi)
    exact (hb.cell (p := ⟨b, off + i, none⟩) (Nat.lt_of_lt_of_le hl hB)).trans (hc i hi)
theorem IntsV.form {w : World} {v : Value} {n : Nat} {Z : Nat → Int} (h : IntsV w v n Z) : ∃ A c, v = .slice A n c := by
  rcases h with ⟨rfl, A, c, rfl⟩ | ⟨_, b, off, c, rfl, _⟩
  · exact ⟨_, _, rfl⟩
  · exact ⟨_, _, rfl⟩
theorem IntsV.pos {w : World} {A : Option Addr} {c n : Nat} {Z : Nat → Int} (h : IntsV w (.slice A n c) n Z) {i : Nat} (hi : i < n) : ∃ b off, A = some ⟨b, off, none⟩ ∧ ∀ j, j < n → w.cell? ⟨b, off + j, none⟩ = some (.int .i64 (Z j)) := by
  rcases h with ⟨rfl, _⟩ | ⟨_, b, off, c, e, hc⟩
  · omega
  · injection e with e1 e2 e3
    exact ⟨b, off, e1, hc⟩
end

section
open Go.ChangeShapes Go.WideShapes Go.RowKit

theorem nat_u8 {n : Int} (h : (Lit.int .u8 n).wf = true) : ∃ k : Nat, n = (k : Int) ∧ k < 256 := by
  have hb := bounds_u8 h
  exact ⟨n.toNat, by omega, by omega⟩
theorem nat_u16 {n : Int} (h : (Lit.int .u16 n).wf = true) : ∃ k : Nat, n = (k : Int) ∧ k < 65536 := by
  have hb := bounds_u16 h
  exact ⟨n.toNat, by omega, by omega⟩
theorem rng0 : -9223372036854775808 ≤ (0 : Int) ∧ (0 : Int) ≤ 9223372036854775807 := by decide
/-- A slice of int (or int64) that came in. -/
theorem intsV_view {P : Program} {H : Type} {enc : TypeId × Value → H} {W : World} {base : Nat} {v : Value} {d : DataW H} {ps : List MemPlace} {t e b0 : Nat} {r : Reach} (ht : P.underlying t = some (.slice e)) (he : P.underlying e = some (.int .i64)) (hc : P.cellsOf e = 1)
    (hv : Value.okWide P W r b0 t v) (h : DataW.Trod enc P W base (fun _ => true) true t v d ps) : ∃ (n : Nat) (Z : Nat → Int), IntsV W v n Z ∧ n ≤ 9223372036854775807 ∧ ∀ i, -9223372036854775808 ≤ Z i ∧ Z i ≤ 9223372036854775807 := by
  rcases ints_view ht he hc hv h with rfl | ⟨ad, cap, rfl, _⟩ | ⟨bl, off, len, cap, Z, rfl, l0, l1, l2, hcell, hz⟩
  · exact ⟨0, fun _ => 0, Or.inl ⟨rfl, _, _, rfl⟩, by decide, fun _ => rng0⟩
  · exact ⟨0, fun _ => 0, Or.inl ⟨rfl, _, _, rfl⟩, by decide, fun _ => rng0⟩
  · exact ⟨len, Z, Or.inr ⟨l0, bl, off, cap, rfl, hcell⟩, by omega, hz⟩
end

section
open Go.ChangeShapes Go.WideShapes Go.RowKit Go.Deep

theorem pairs_view {P : Program} {H : Type} {enc : TypeId × Value → H} {W : World} {base : Nat} {v : Value} {d : DataW H} {ps : List MemPlace} {t e b0 : Nat} {r : Reach} {f0 f1 : Field} (ht : P.underlying t = some (.slice e)) (he : P.underlying e = some (.struct #[f0, f1]))
    (hone : oneCellFields P #[f0, f1] = true) (hC : P.cellsOf e = 2) (k0 : P.underlying f0.type = some (.int .i64)) (k1 : P.underlying f1.type = some (.int .i64))
    (hv : Value.okWide P W r b0 t v) (h : DataW.Trod enc P W base (fun _ => true) true t v d ps) :
    v = .slice none 0 0 ∨ (∃ (a : Addr) (cap : Nat), v = .slice (some a) 0 cap ∧ cap ≤ 9223372036854775807) ∨
    ∃ (b off len cap : Nat) (F T : Nat → Int), v = .slice (some ⟨b, off, none⟩) len cap ∧ 0 < len ∧ len ≤ cap ∧ cap ≤ 9223372036854775807 ∧ (∀ i, i < len → W.cell? ⟨b, off + i * 2, none⟩ = some (.int .i64 (F i)) ∧ W.cell? ⟨b, off + i * 2 + 1, none⟩ = some (.int .i64 (T i))) ∧ (∀ i, -9223372036854775808 ≤ F i ∧ F i ≤ 9223372036854775807) ∧ ∀ i, -9223372036854775808 ≤ T i ∧ T i ≤ 9223372036854775807 := by
  obtain ⟨a0, len, cap, rfl⟩ := okWide_slice ht hv
  obtain ⟨fuel, hf⟩ := h
  rcases open_slice ht hf with ⟨hcs, _⟩ | ⟨a, len', cap', m, n, D, Pl, hcs, _, hl, hm, hmm, _, hi⟩
  · simp [Value.cells] at hcs
    obtain ⟨rfl, rfl, rfl⟩ := hcs
    exact Or.inl rfl
  · simp [Value.cells] at hcs
    obtain ⟨rfl, rfl, rfl⟩ := hcs
    unfold maxLen at hm
    simp only [if_true] at hmm
    rcases Nat.eq_zero_or_pos len with rfl | hpos
    · exact Or.inr (Or.inl ⟨a, cap, rfl, hm⟩)
    · have cellsAt : ∀ i, i < cap → ∃ x y : Int, W.cell? (a.add (i * 2)) = some (.int .i64 x) ∧ W.cell? (a.add (i * 2 + 1)) = some (.int .i64 y) ∧ (-9223372036854775808 ≤ x ∧ x ≤ 9223372036854775807) ∧ (-9223372036854775808 ≤ y ∧ y ≤ 9223372036854775807) := by
        intro i hlt
        obtain ⟨cs', hc, ht'⟩ := hi i (by omega)
        rw [hC] at hc
        obtain ⟨ys, n', hn', hy, hlen, hyl, hfld⟩ := DataW.trod_struct he ht'
        obtain ⟨_, hcl, hat⟩ := World.cells?_some hc
        match cs', hcl with
        | [c0, c1], _ =>
          have g0 := hfld 0 f0 rfl
          have g1 := hfld 1 f1 rfl
          obtain ⟨o0, z0⟩ := hone_of hone 0 f0 rfl
          obtain ⟨o1, z1⟩ := hone_of hone 1 f1 rfl
          rw [o0, z0] at g0
          rw [o1, z1] at g1
          have y0 : ys[0]? = some (ys[0]'(by rw [hyl]; simp)) := List.getElem?_eq_getElem _
          have y1 : ys[1]? = some (ys[1]'(by rw [hyl]; simp)) := List.getElem?_eq_getElem _
          rw [y0] at g0
          rw [y1] at g1
          obtain ⟨x, ex, _, wx⟩ := DataW.trod_int k0 g0
          obtain ⟨y, ey, _, wy⟩ := DataW.trod_int k1 g1
          have a0 := hat 0 (by simp)
          have a1 := hat 1 (by simp)
          simp at ex ey
          subst ex ey
          refine ⟨x, y, ?_, ?_, bounds_i64 wx, bounds_i64 wy⟩
          · simpa [Go.Deep.add_add] using a0
          · simpa [Go.Deep.add_add] using a1
      obtain ⟨b, off, spot⟩ := a
      obtain ⟨x, y, hx, _⟩ := cellsAt 0 (by omega)
      have hspot : spot = none := by simpa [Addr.add] using World.cell?_spot hx
      subst hspot
      refine Or.inr (Or.inr ⟨b, off, len, cap, fun i => if h : i < cap then (cellsAt i h).choose else 0, fun i => if h : i < cap then (cellsAt i h).choose_spec.choose else 0, rfl, hpos, hl, hm, fun i hlt => ?_, fun i => ?_, fun i => ?_⟩)
      · have hi' : i < cap := by omega
        have e := (cellsAt i hi').choose_spec.choose_spec
        simp only [dif_pos hi']
        rw [Nat.add_assoc, ← add_plain, ← add_plain]
        exact ⟨e.1, e.2.1⟩
      · by_cases hi' : i < cap
        · have e := (cellsAt i hi').choose_spec.choose_spec
          simp only [dif_pos hi']
          exact e.2.2.1
        · simp only [dif_neg hi']; decide
      · by_cases hi' : i < cap
        · have e := (cellsAt i hi').choose_spec.choose_spec
          simp only [dif_pos hi']
          exact e.2.2.2
        · simp only [dif_neg hi']; decide
end
end Go.Proofs.YtlopoddllfkkfaaDoor
