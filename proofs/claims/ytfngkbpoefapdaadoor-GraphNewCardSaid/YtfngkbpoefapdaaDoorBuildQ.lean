/- build: what its walk uses. -/
import Derived.Test.YtfngkbpoefapdaaDoorCmpE
import Derived.Test.YtfngkbpoefapdaaDoorNew2
import Derived.Test.YtfngkbpoefapdaaDoorRws
import Derived.Test.YtfngkbpoefapdaaDoorRef04P
import Derived.Test.YtfngkbpoefapdaaDoorEdgesOwn
namespace Go.Proofs.YtfngkbpoefapdaaDoor
open Go.RowKit

/-- The four parts of a graph, laid. -/
def BuildCut (n m : Nat) (w : World) (vl x : Value) (wx : World) : Prop :=
  ∃ g eb nb ab : Nat, x = .pointer (some ⟨g, 0, none⟩) ∧ Whole wx g 73 #[vl, .slice (some ⟨eb, 0, none⟩) m m, .slice (some ⟨nb, 0, none⟩) n n, .slice (some ⟨ab, 0, none⟩) n n] ∧
    Whole wx eb 47 (madeCells #[.int .i64 0, .int .i64 0] (m * 2)) ∧ Whole wx nb 22 (madeCells #[.slice none 0 0] n) ∧ Whole wx ab 22 (madeCells #[.slice none 0 0] n) ∧
    nb ≠ ab ∧ w.heap.size ≤ g ∧ w.heap.size ≤ eb ∧ w.heap.size ≤ nb ∧ w.heap.size ≤ ab ∧ Below w.heap.size w wx

theorem four_laid (W : World) (t1 t2 t3 t4 : TypeId) (c1 c2 c3 c4 : Array Value) :
    Whole (((((W.alloc (.cells c1 t1)).alloc (.cells c2 t2)).alloc (.cells c3 t3)).alloc (.cells c4 t4)).drew) W.heap.size t1 c1 ∧
    Whole (((((W.alloc (.cells c1 t1)).alloc (.cells c2 t2)).alloc (.cells c3 t3)).alloc (.cells c4 t4)).drew) (W.heap.size + 1) t2 c2 ∧
    Whole (((((W.alloc (.cells c1 t1)).alloc (.cells c2 t2)).alloc (.cells c3 t3)).alloc (.cells c4 t4)).drew) (W.heap.size + 1 + 1) t3 c3 ∧
    Whole (((((W.alloc (.cells c1 t1)).alloc (.cells c2 t2)).alloc (.cells c3 t3)).alloc (.cells c4 t4)).drew) (W.heap.size + 1 + 1 + 1) t4 c4 ∧
    Below W.heap.size W (((((W.alloc (.cells c1 t1)).alloc (.cells c2 t2)).alloc (.cells c3 t3)).alloc (.cells c4 t4)).drew) := by
  have h1 := Whole.new W t1 c1
  have h2 := Whole.new (W.alloc (.cells c1 t1)) t2 c2
  have h3 := Whole.new ((W.alloc (.cells c1 t1)).alloc (.cells c2 t2)) t3 c3
  have h4 := Whole.new (((W.alloc (.cells c1 t1)).alloc (.cells c2 t2)).alloc (.cells c3 t3)) t4 c4
  rw [World.size_alloc] at h2
  rw [World.size_alloc, World.size_alloc] at h3
  rw [World.size_alloc, World.size_alloc, World.size_alloc] at h4
  exact ⟨(((h1.alloc _).alloc _).alloc _).drewN 1, ((h2.alloc _).alloc _).drewN 1, (h3.alloc _).drewN 1, h4.drewN 1, below_drewN' (((((Below.refl _ _).alloc (Nat.le_refl _) _).alloc (by simp) _).alloc (by simp; omega) _).alloc (by simp; omega) _) 1⟩
theorem Whole.ne {w : World} {g g' : Nat} {t t' : TypeId} {cs cs' : Array Value} (h : Whole w g t cs) (k : Whole w g' t' cs') (ht : t ≠ t') : g ≠ g' := by
  rintro rfl
  unfold Whole at h k
  rw [h] at k
  injection k with k
  injection k with _ k
  exact ht k
/-- The first loop's round: an edge stored. -/
theorem build_round1 {W V w3 : World} {g eb nb ab k : Nat} {E : List (Int × Int)} {x y lo hi : Int} {cg cn ca : Array Value} (hG : Whole V g 73 cg) (hE : Whole V eb 47 (ecells (filled E k))) (hN : Whole V nb 22 cn) (hA : Whole V ab 22 ca)
    (hB : Below W.heap.size W V) (he1 : W.heap.size ≤ eb) (hk : k < E.length) (hek : E.getD k (0, 0) = (x, y)) (hlo : min x y = lo) (hhi : max x y = hi) (hb3 : Below V.heap.size V w3) :
    let w5 := (w3.setCell ⟨eb, k * 2, none⟩ (.int .i64 lo)).setCell ⟨eb, k * 2 + 1, none⟩ (.int .i64 hi)
    Whole w5 g 73 cg ∧ Whole w5 eb 47 (ecells (filled E (k + 1))) ∧ Whole w5 nb 22 cn ∧ Whole w5 ab 22 ca ∧ Below W.heap.size W w5 := by
  have hge : g ≠ eb := hG.ne hE (by decide)
  have hne : nb ≠ eb := hN.ne hE (by decide)
  have hae : ab ≠ eb := hA.ne hE (by decide)
  have hE3 := hE.below hb3 hE.lt
  have hset := ecells_set (filled E k) k (lo, hi) (by rw [filled_len (by omega)]; exact hk)
  have hris : (lo, hi) = ris E[k] := by
    rw [show E[k] = (x, y) by rw [← hek]; simp [List.getD, hk]]
    unfold ris; rw [hlo, hhi]
  rw [hris, filled_set hk, ← hris] at hset
  have h5 := (hE3.put (k * 2) (.int .i64 lo)).put (k * 2 + 1) (.int .i64 hi)
  refine ⟨((hG.below hb3 hG.lt).other (p := ⟨eb, k * 2, none⟩) hge _).other (p := ⟨eb, k * 2 + 1, none⟩) hge _, ?_, ((hN.below hb3 hN.lt).other (p := ⟨eb, k * 2, none⟩) hne _).other (p := ⟨eb, k * 2 + 1, none⟩) hne _, ((hA.below hb3 hA.lt).other (p := ⟨eb, k * 2, none⟩) hae _).other (p := ⟨eb, k * 2 + 1, none⟩) hae _, (((hB.trans (hb3.mono hB.size))).setCell he1 _).setCell he1 _⟩
  have e2 : ((ecells (filled E k)).setIfInBounds (k * 2) (.int .i64 lo)).setIfInBounds (k * 2 + 1) (.int .i64 hi) = ecells (filled E (k + 1)) := hset
  rw [e2] at h5
  exact h5

/-- A graph whose rows are being grown; an edge lies in a box. -/
structure St (W0 V : World) (g eb nb ab xb n : Nat) (cg ce cx : Array Value) (C : List (List Int)) : Prop where
  rws : Rws V W0.heap.size nb ab n C
  len : C.length = n + n
  g : Whole V g 73 cg
  e : Whole V eb 47 ce
  x : Whole V xb 47 cx
  bel : Below W0.heap.size W0 V
  hn : W0.heap.size ≤ nb
  ha : W0.heap.size ≤ ab
  ne : nb ≠ ab
section
variable {W0 V w1 : World} {g eb nb ab xb n i q : Nat} {cg ce cx : Array Value} {C : List (List Int)} {M : List Int}
theorem grew_lies {V w1 : World} {o : Obj} {A : Option Addr} {q c gg cap : Nat} (hgrow : ((V.alloc o).drew).grownBy w1 (Value.slice A q c).ownBlock) (hat : (Value.slice A q c).ownBlock = some gg ∨ gg = V.heap.size + 1) : Grew V.drew (.slice A q c) w1 (.slice (some ⟨gg, 0, none⟩) (q + 1) cap) := by
  refine ⟨⟨hgrow.os, hgrow.tape, hgrow.output, Nat.le_trans (by show V.heap.size ≤ (V.alloc o).heap.size; simp) hgrow.size, (grown_of_alloc (o := o) (grown_of_drewN (d := 1) hgrow)).block⟩, ?_⟩
  rcases hat with h1 | h1
  · exact Or.inl (by rw [h1]; rfl)
  · exact Or.inr ⟨gg, rfl, by show V.heap.size ≤ gg; omega⟩
theorem St.near_step (h : St W0 V g eb nb ab xb n cg ce cx C) (hi : i < n) (_hM : C[i]? = some M) {u u' : Value} {N : List Int} (hown : V.ownsRow W0.heap.size 3 1 u q (intCells M)) (hcell : V.cell? ⟨nb, i, none⟩ = some u)
    (hown1 : w1.ownsRow W0.heap.size 3 1 u' N.length (intCells N)) (hgd : Grew V.drew u w1 u') :
    w1.cell? ⟨nb, i, none⟩ = some u ∧ w1.frozen? ⟨nb, i, none⟩ = false ∧ St W0 (w1.setCell ⟨nb, i, none⟩ u') g eb nb ab xb n cg ce cx (C.set i N) := by
  have hg : Grew V u w1 u' := ⟨grown_of_drewN (d := 1) hgd.1, hgd.2⟩
  have hne : ∀ t, 3 ≠ t → ∀ {b : Nat} {cs : Array Value}, Whole V b t cs → Whole w1 b t cs := fun t ht b cs hb => hg.whole hb hown ht
  obtain ⟨us, r1, r2, r3⟩ := h.rws
  have hr := h.rws.near_put h.ne h.len hi (N := N) hcell hg hown1
  refine ⟨by rw [(hne _ (by decide) r1).cell, ← r1.cell]; exact hcell, (hne _ (by decide) r1).free _, hr, by rw [List.length_set, h.len], (hne _ (by decide) h.g).other (p := ⟨nb, i, none⟩) (h.g.ne r1 (by decide)) _, (hne _ (by decide) h.e).other (p := ⟨nb, i, none⟩) (h.e.ne r1 (by decide)) _, (hne _ (by decide) h.x).other (p := ⟨nb, i, none⟩) (h.x.ne r1 (by decide)) _,
    (hg.below hown h.bel (Nat.le_refl _) h.bel.size).setCell h.hn _, h.hn, h.ha, h.ne⟩
theorem St.at_step (h : St W0 V g eb nb ab xb n cg ce cx C) (hi : i < n) (_hM : C[n + i]? = some M) {u u' : Value} {N : List Int} (hown : V.ownsRow W0.heap.size 3 1 u q (intCells M)) (hcell : V.cell? ⟨ab, i, none⟩ = some u)
    (hown1 : w1.ownsRow W0.heap.size 3 1 u' N.length (intCells N)) (hgd : Grew V.drew u w1 u') :
    w1.cell? ⟨ab, i, none⟩ = some u ∧ w1.frozen? ⟨ab, i, none⟩ = false ∧ St W0 (w1.setCell ⟨ab, i, none⟩ u') g eb nb ab xb n cg ce cx (C.set (n + i) N) := by
  have hg : Grew V u w1 u' := ⟨grown_of_drewN (d := 1) hgd.1, hgd.2⟩
  have hne : ∀ t, 3 ≠ t → ∀ {b : Nat} {cs : Array Value}, Whole V b t cs → Whole w1 b t cs := fun t ht b cs hb => hg.whole hb hown ht
  obtain ⟨us, r1, r2, r3⟩ := h.rws
  have hr := h.rws.at_put h.ne h.len hi (N := N) hcell hg hown1
  refine ⟨by rw [(hne _ (by decide) r2).cell, ← r2.cell]; exact hcell, (hne _ (by decide) r2).free _, hr, by rw [List.length_set, h.len], (hne _ (by decide) h.g).other (p := ⟨ab, i, none⟩) (h.g.ne r2 (by decide)) _, (hne _ (by decide) h.e).other (p := ⟨ab, i, none⟩) (h.e.ne r2 (by decide)) _, (hne _ (by decide) h.x).other (p := ⟨ab, i, none⟩) (h.x.ne r2 (by decide)) _,
    (hg.below hown h.bel (Nat.le_refl _) h.bel.size).setCell h.ha _, h.hn, h.ha, h.ne⟩
end
end Go.Proofs.YtfngkbpoefapdaaDoor
