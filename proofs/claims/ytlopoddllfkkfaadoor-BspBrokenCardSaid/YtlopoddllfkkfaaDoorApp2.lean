/- append(append([]T{}, X...), y), stored at its region's end: whatever order is drawn. -/
import Derived.Test.YtlopoddllfkkfaaDoorReads5
import Derived.Deep.AppendLies
import Derived.Deep.AppendSrc
namespace Go.Proofs.YtlopoddllfkkfaaDoor
open Go.RowKit

/-- A slice that reads as cells of m elements. -/
def RowAt (w : World) (size : Nat) (u : Value) (m : Nat) (cs : List Value) : Prop :=
  ∃ A c, u = .slice A m c ∧ cs.length = m * size ∧ (m = 0 ∨ ∃ b off, A = some ⟨b, off, none⟩ ∧ ∀ j, j < cs.length → w.cell? ⟨b, off + j, none⟩ = cs[j]?)
theorem RowAt.below {w w' : World} {size : Nat} {u : Value} {m : Nat} {cs : List Value} {B : Nat} (h : RowAt w size u m cs) (hb : Below B w w') (hB : w.heap.size ≤ B) : RowAt w' size u m cs := by
  obtain ⟨A, c, rfl, hl, h⟩ := h
  refine ⟨A, c, rfl, hl, ?_⟩
  rcases h with h | ⟨b, off, rfl, h⟩
  · exact Or.inl h
  · refine Or.inr ⟨b, off, rfl, fun j hj => ?_⟩
    have h1 := h j hj
    rw [← h1]
    rw [List.getElem?_eq_getElem hj] at h1
    have hlt := World.block_lt_of_cell? _ _ h1
    exact hb.cell (p := ⟨b, off + j, none⟩) (Nat.lt_of_lt_of_le hlt hB)
theorem RowAt.kept {w w' : World} {size : Nat} {u : Value} {m : Nat} {cs : List Value} {row : Option Nat} (h : RowAt w size u m cs) (hg : w.grownBy w' row) (hne : u.ownBlock ≠ row) : RowAt w' size u m cs := by
  obtain ⟨A, c, rfl, hl, h⟩ := h
  refine ⟨A, c, rfl, hl, ?_⟩
  rcases h with h | ⟨b, off, rfl, h⟩
  · exact Or.inl h
  · refine Or.inr ⟨b, off, rfl, fun j hj => ?_⟩
    have h1 := h j hj
    rw [← h1]
    rw [List.getElem?_eq_getElem hj] at h1
    exact World.cell?_of_block (a := ⟨b, off + j, none⟩) (hg.block b (World.block_lt_of_cell? _ _ h1) hne)
theorem RowAt.new (w : World) (e : TypeId) (size : Nat) (cs : List Value) (hl : cs.length = size) : RowAt (w.alloc (.cells cs.toArray e)) size (.slice (some ⟨w.heap.size, 0, none⟩) 1 1) 1 cs := by
  refine ⟨_, 1, rfl, by rw [hl, Nat.one_mul], Or.inr ⟨w.heap.size, 0, rfl, fun j _ => ?_⟩⟩
  rw [Nat.zero_add, (Whole.new w e cs.toArray).cell j]
  simp

section
variable {P : Program}
/-- Elements behind a row of the call's own: the run. -/
theorem run_appRow (w : World) (t ty e : TypeId) (base : Nat) (i : TypeInfo) (z : Value) (size bytes : Nat) (ht : P.underlying t = some (.slice e)) (hi : P.info? e = some i) (hz : i.zero = some z)
    (hsize : i.size = size) (hby : i.bytes = bytes) (hzs : z.cells.size = size) (hsz : 0 < size) (hbytes : bytes ≤ 128) (v : Value) (n : Nat) (xs : List Value) (hown : w.ownsRow base e size v n xs)
    (u : Value) (m : Nat) (cs : List Value) (hu : RowAt w size u m cs) (h1 : ∀ c ∈ cs, c.oneCell' = true) (hn : n + m ≤ 1000000) (hbase : base ≤ w.heap.size) :
    ∃ A' c' w', (Builtin.append_ #[t, t] ty #[v, u]).run P w = .ok (.slice A' (n + m) c') w' ∧ w'.ownsRow base e size (.slice A' (n + m) c') (n + m) (xs ++ cs) ∧ w.grownBy w' v.ownBlock := by
  obtain ⟨A, c, rfl, hl, hu⟩ := hu
  rcases A with _ | ad
  · have hm0 : m = 0 := by
      rcases hu with h0 | ⟨b, off, e, _⟩
      · exact h0
      · cases e
    subst hm0
    obtain rfl : cs = [] := List.eq_nil_of_length_eq_zero (by omega)
    obtain ⟨A', c', rfl⟩ := own_form hown
    have hr : (Builtin.append_ #[t, t] ty #[.slice A' n c', .slice none 0 c]).run P w = .ok (.slice A' n c') w := by
      rcases hown.2 with ⟨h1, h2⟩ | ⟨g, cap, cur, h1, _, _, hnc, _⟩
      · injection h1 with e1 e2 e3
        subst e1 e2 e3
        simp [Builtin.append_, run_underlying ht, sizeOf, typeInfo, hi, Builtin.lenOf, Builtin.firstCells]
      · injection h1 with e1 e2 e3
        subst e1 e3
        simp [Builtin.append_, run_underlying ht, sizeOf, typeInfo, hi, Builtin.lenOf, Builtin.firstCells, hnc, storeCells]
    exact ⟨A', c', w, hr, by simpa using hown, (Grew.refl w (.slice A' n c')).1⟩
  · obtain ⟨v', w', hr, h2, h3, _⟩ := run_append_own_at (P := P) w base t ty e i z size bytes ht hi hz hsize hby hzs hsz v n xs hown ad m c cs hl
      (by
        rcases hu with h0 | ⟨b, off, e, hc⟩
        · subst h0
          obtain rfl : cs = [] := List.eq_nil_of_length_eq_zero (by omega)
          intro j u hj
          simp at hj
        · injection e with e
          subst e
          intro j u hj
          have hjl : j < cs.length := (List.getElem?_eq_some_iff.1 hj).1
          rw [← hj, ← hc j hjl, show (⟨b, off, none⟩ : Addr).add j = ⟨b, off + j, none⟩ by unfold Addr.add; split <;> simp_all]) h1 (by unfold maxLen; omega) (by
        have : (n + m) * bytes ≤ 1000000 * 128 := Nat.mul_le_mul hn hbytes
        omega) hbase
    obtain ⟨A', c', rfl⟩ := own_form h2
    exact ⟨A', c', w', hr, h2, h3⟩
/-- At a step. -/
theorem wp_appRow {o : Oper} {a : Act} {w : World} {K : Act → World → Prop} {Q : Exit → Act → World → Prop} (s x : Operand) (t e : TypeId)
    (ho : o.op = .call { callee := .builtin .append, args := #[s, x], argTypes := #[t, t] }) (base : Nat) (i : TypeInfo) (z : Value) (size bytes : Nat) (ht : P.underlying t = some (.slice e)) (hi : P.info? e = some i) (hz : i.zero = some z)
    (hsize : i.size = size) (hby : i.bytes = bytes) (hzs : z.cells.size = size) (hsz : 0 < size) (hbytes : bytes ≤ 128) (v : Value) (n : Nat) (xs : List Value) (hs : a.eval s = v) (hown : w.ownsRow base e size v n xs)
    (u : Value) (m : Nat) (cs : List Value) (hx : a.eval x = u) (hu : RowAt w size u m cs) (h1 : ∀ c ∈ cs, c.oneCell' = true) (hn : n + m ≤ 1000000) (hbase : base ≤ w.heap.size)
    (h : ∀ A' c' w', w'.ownsRow base e size (.slice A' (n + m) c') (n + m) (xs ++ cs) → w.grownBy w' v.ownBlock → K (a.put o.dst (.slice A' (n + m) c')) w') : Oper.wp P o a w K Q := by
  obtain ⟨A', c', w', hr, h2, h3⟩ := run_appRow (P := P) w t o.type e base i z size bytes ht hi hz hsize hby hzs hsz hbytes v n xs hown u m cs hu h1 hn hbase
  unfold Oper.wp execOp
  simp only [ho, resolve, invoke, builtin, Sem.run_bind, Sem.run_pure, Result.andThen_ok, List.map_toArray, List.map_cons, List.map_nil, hs, hx, hr]
  exact h A' c' w' h2 h3
theorem wp_slice0 {o : Oper} {a : Act} {w w' : World} {K : Act → World → Prop} {Q : Exit → Act → World → Prop} {t : TypeId} {v : Value} (ho : o.op = .buildSlice t 0 #[]) (hr : (Instr.buildSlice t 0 #[]).run P w = .ok v w') (h : K (a.put o.dst v) w') : Oper.wp P o a w K Q := by
  unfold Oper.wp execOp
  simp only [ho]
  simp [hr]
  exact h
theorem wp_slice1 {o : Oper} {a : Act} {w w' : World} {K : Act → World → Prop} {Q : Exit → Act → World → Prop} {t : TypeId} {v y : Value} {x : Operand} (ho : o.op = .buildSlice t 1 #[(0, x)]) (hx : a.eval x = y) (hr : (Instr.buildSlice t 1 #[(0, y)]).run P w = .ok v w') (h : K (a.put o.dst v) w') : Oper.wp P o a w K Q := by
  unfold Oper.wp execOp
  simp only [ho]
  simp [hx, hr]
  exact h
end
theorem put_comm (a : Act) {i j : Nat} (h : i ≠ j) (u v : Value) : (a.put (some i) u).put (some j) v = (a.put (some j) v).put (some i) u := by
  unfold Act.put
  simp only
  rw [Array.setIfInBounds_comm _ _ h]
theorem eval_put_same (a : Act) {i : Nat} (h : i < a.tmps.size) (v : Value) : (a.put (some i) v).eval (.tmp i) = v := by
  unfold Act.put Act.eval
  simp [Array.getD, h]
theorem eval_put_ne (a : Act) {i j : Nat} (h : i ≠ j) (v : Value) : (a.put (some i) v).eval (.tmp j) = a.eval (.tmp j) := by
  unfold Act.put Act.eval
  simp only [Array.getD_eq_getD_getElem?, Array.getElem?_setIfInBounds_ne h]
theorem size_put2 (a : Act) (i : Option Nat) (v : Value) : (a.put i v).tmps.size = a.tmps.size := by
  unfold Act.put
  split <;> simp

section
variable {P : Program} {ops : Array Oper} {Q : Exit → Act → World → Prop} {md : Region.Mode} {S : World → Prop} {κ : Nat}
theorem until_op {f i : Nat} {o : Oper} {listed : Array Bool} {a : Act} {w : World} (ho : ops[i]? = some o) (hg : o.guard = none)
    (h : Oper.wp P o a w (fun a' w' => S w' ∧ Until P md ops Q κ S f (listed.setIfInBounds i true) a' w') Q) :
    wpOp P ops Q i (fun a' w' => (i ≠ κ → listed.getD κ true = false → S w') ∧ Until P md ops Q κ S f (listed.setIfInBounds i true) a' w') a w := by
  unfold wpOp
  simp only [ho]
  rw [if_pos (by simp [Region.wanted, hg])]
  exact Or.inl (Oper.wp_mono (fun _ _ h => ⟨fun _ _ => h.1, h.2⟩) h)
theorem until_two {f i j : Nat} {oi oj : Oper} {listed : Array Bool} {a : Act} {w : World} (hr : Region.ready md ops listed = [i, j]) (hi : ops[i]? = some oi) (hgi : oi.guard = none) (hj : ops[j]? = some oj) (hgj : oj.guard = none)
    (h1 : Oper.wp P oi a w (fun a' w' => S w' ∧ Until P md ops Q κ S f (listed.setIfInBounds i true) a' w') Q)
    (h2 : Oper.wp P oj a w (fun a' w' => S w' ∧ Until P md ops Q κ S f (listed.setIfInBounds j true) a' w') Q) : Until P md ops Q κ S (f + 1) listed a w := by
  refine ⟨fun h0 => (by rw [hr] at h0; cases h0), fun k hk => ?_⟩
  rw [hr] at hk
  simp only [List.mem_cons, List.not_mem_nil, or_false] at hk
  rcases hk with rfl | rfl
  · exact until_op hi hgi h1
  · exact until_op hj hgj h2
theorem until_alone {f i : Nat} {o : Oper} {listed : Array Bool} {a : Act} {w : World} (hr : Region.ready md ops listed = [i]) (ho : ops[i]? = some o) (hg : o.guard = none)
    (h : Oper.wp P o a w (fun a' w' => S w' ∧ Until P md ops Q κ S f (listed.setIfInBounds i true) a' w') Q) : Until P md ops Q κ S (f + 1) listed a w :=
  until_one hr ho hg (Oper.wp_mono (fun _ _ h => ⟨fun _ _ => h.1, h.2⟩) h)
/-- What is ready, one path or another. -/
def app2B (md : Region.Mode) (ops : Array Oper) (R : List Nat) (ie ia il ib ij ik : Nat) : Bool :=
  let L := fun p => listAll p (listAll R (Array.replicate ops.size false))
  (Region.ready md ops (L []) == [ie, il]) && (Region.ready md ops (L [ie]) == [ia, il]) && (Region.ready md ops (L [il]) == [ie]) && (Region.ready md ops (L [ie, ia]) == [il]) && (Region.ready md ops (L [ie, il]) == [ia]) && (Region.ready md ops (L [il, ie]) == [ia]) &&
  ([[ie, ia, il], [ie, il, ia], [il, ie, ia]].all fun p => (Region.ready md ops (L p) == [ib]) && (Region.ready md ops (L (p ++ [ib])) == [ij]) && (Region.ready md ops (L (p ++ [ib, ij])) == [ik]) && (Region.ready md ops (L (p ++ [ib, ij, ik])) == []))
theorem app2B_spec {R : List Nat} {ie ia il ib ij ik : Nat} (h : app2B md ops R ie ia il ib ij ik = true) :
    (Region.ready md ops (listAll R (Array.replicate ops.size false)) = [ie, il] ∧ Region.ready md ops ((listAll R (Array.replicate ops.size false)).setIfInBounds ie true) = [ia, il] ∧ Region.ready md ops ((listAll R (Array.replicate ops.size false)).setIfInBounds il true) = [ie] ∧
    Region.ready md ops (((listAll R (Array.replicate ops.size false)).setIfInBounds ie true).setIfInBounds ia true) = [il] ∧ Region.ready md ops (((listAll R (Array.replicate ops.size false)).setIfInBounds ie true).setIfInBounds il true) = [ia] ∧ Region.ready md ops (((listAll R (Array.replicate ops.size false)).setIfInBounds il true).setIfInBounds ie true) = [ia]) ∧
    (∀ p ∈ [[ie, ia, il], [ie, il, ia], [il, ie, ia]], Region.ready md ops (listAll p (listAll R (Array.replicate ops.size false))) = [ib] ∧ Region.ready md ops ((listAll p (listAll R (Array.replicate ops.size false))).setIfInBounds ib true) = [ij] ∧ Region.ready md ops (((listAll p (listAll R (Array.replicate ops.size false))).setIfInBounds ib true).setIfInBounds ij true) = [ik] ∧ Region.ready md ops ((((listAll p (listAll R (Array.replicate ops.size false))).setIfInBounds ib true).setIfInBounds ij true).setIfInBounds ik true) = []) := by
  unfold app2B at h
  simp only [Bool.and_eq_true, beq_iff_eq, List.all_eq_true] at h
  obtain ⟨⟨⟨⟨⟨⟨h1, h2⟩, h3⟩, h4⟩, h5⟩, h6⟩, h7⟩ := h
  refine ⟨⟨h1, h2, h3, h4, h5, h6⟩, fun p hp => ?_⟩
  obtain ⟨⟨⟨q1, q2⟩, q3⟩, q4⟩ := h7 p hp
  have la : ∀ (p q : List Nat) (l : Array Bool), listAll (p ++ q) l = listAll q (listAll p l) := by
    intro p
    induction p with
    | nil => intro q l; rfl
    | cons i t ih => intro q l; exact ih q _
  rw [la] at q2 q3 q4
  exact ⟨q1, q2, q3, q4⟩
set_option maxHeartbeats 800000 in
/-- Behind the reads: the two literals, the two appends, the store, in every order there is. -/
theorem until_app2 {R : List Nat} {ie ia il ib ij ik de da dl tx ty : Nat} {dbo : Option Nat} {oe oa ol ob oj ok : Oper} {w : World} {a : Act} (hB : app2B md ops R ie ia il ib ij ik = true)
    (e1 : ops[ie]? = some oe) (e2 : ops[ia]? = some oa) (e3 : ops[il]? = some ol) (e4 : ops[ib]? = some ob) (e6 : ops[ij]? = some oj) (e5 : ops[ik]? = some ok) (g1 : oe.guard = none) (g2 : oa.guard = none) (g3 : ol.guard = none) (g4 : ob.guard = none) (g6 : oj.guard = none) (g5 : ok.guard = none)
    (ts te : TypeId) (i : TypeInfo) (z : Value) (size bytes : Nat) (ht : P.underlying ts = some (.slice te)) (hi : P.info? te = some i) (hz : i.zero = some z)
    (hsize : i.size = size) (hby : i.bytes = bytes) (hzs : z.cells.size = size) (hsz : 0 < size) (hbytes : bytes ≤ 128)
    (oe1 : oe.op = .buildSlice ts 0 #[]) (oe2 : oe.dst = some de) (oa1 : oa.op = .call { callee := .builtin .append, args := #[.tmp de, .tmp tx], argTypes := #[ts, ts] }) (oa2 : oa.dst = some da)
    (ol1 : ol.op = .buildSlice ts 1 #[(0, .tmp ty)]) (ol2 : ol.dst = some dl) (ob1 : ob.op = .call { callee := .builtin .append, args := #[.tmp da, .tmp dl], argTypes := #[ts, ts] }) (ob2 : ob.dst = dbo)
    (nel : de ≠ dl) (nal : da ≠ dl) (nex : de ≠ tx) (nlx : dl ≠ tx) (ney : de ≠ ty) (nay : da ≠ ty) (hde : de < a.tmps.size) (hda : da < a.tmps.size) (hdl : dl < a.tmps.size)
    {u y : Value} {m : Nat} {cs ys : List Value} (hx : a.eval (.tmp tx) = u) (hy : a.eval (.tmp ty) = y) (hu : RowAt w size u m cs) (hc1 : ∀ c ∈ cs, c.oneCell' = true) (hy1 : ∀ c ∈ ys, c.oneCell' = true) (hys : ys.length = size) (hm : m + 1 ≤ 1000000)
    (hr0 : ∀ W : World, (Instr.buildSlice ts 0 #[]).run P W = .ok (.slice (some ⟨W.heap.size, 0, none⟩) 0 0) (W.alloc (.cells #[] te)))
    (hr1 : ∀ W : World, (Instr.buildSlice ts 1 #[(0, y)]).run P W = .ok (.slice (some ⟨W.heap.size, 0, none⟩) 1 1) (W.alloc (.cells ys.toArray te)))
    (hS : ∀ W, Below w.heap.size w W → S W)
    (h : ∀ ve va vl A' c' w', w'.ownsRow w.heap.size te size (.slice A' (m + 1) c') (m + 1) (cs ++ ys) → Below w.heap.size w w' → Oper.wp P oj ((((a.put (some de) ve).put (some da) va).put (some dl) vl).put dbo (.slice A' (m + 1) c')) w' (fun a2 w2 => S w2 ∧ Oper.wp P ok a2 w2 (fun a' w'' => Q .normal a' w'') Q) Q)
    (hk : κ = ik) : Until P md ops Q κ S 6 (listAll R (Array.replicate ops.size false)) a w := by
  subst hk
  obtain ⟨⟨r1, r2, r3, r4, r5, r6⟩, r7⟩ := app2B_spec hB
  have own0 : ∀ W, Below w.heap.size w W → (W.alloc (.cells #[] te)).ownsRow w.heap.size te size (.slice (some ⟨W.heap.size, 0, none⟩) 0 0) 0 [] := fun W hW => World.ownsRow_lit (size := size) W #[] 0 hW.size (by decide) (by simp)
  have tail : ∀ (p : List Nat), p ∈ [[ie, ia, il], [ie, il, ia], [il, ie, ia]] → ∀ (ve va vl : Value) (W : World), Below w.heap.size w W → W.ownsRow w.heap.size te size va m cs → RowAt W size vl 1 ys →
      Until P md ops Q κ S 3 (listAll p (listAll R (Array.replicate ops.size false))) (((a.put (some de) ve).put (some da) va).put (some dl) vl) W := by
    intro p hp ve va vl W hW ho hl
    obtain ⟨q1, q2, q3, q4⟩ := r7 p hp
    refine until_alone q1 e4 g4 ?_
    refine wp_appRow (P := P) (.tmp da) (.tmp dl) ts te ob1 w.heap.size i z size bytes ht hi hz hsize hby hzs hsz hbytes va m cs ?_ ho vl 1 ys ?_ hl hy1 hm hW.size ?_
    · rw [eval_put_ne _ (Ne.symm nal), eval_put_same _ (by rw [size_put2]; exact hda)]
    · rw [eval_put_same _ (by rw [size_put2, size_put2]; exact hdl)]
    intro A' c' w' ho' hg
    have hb' : Below w.heap.size w w' := hW.grown hg hW.size (fun k hk => (ho.lt k hk).1)
    refine ⟨hS _ hb', until_alone q2 e6 g6 ?_⟩
    rw [ob2]
    refine Oper.wp_mono (fun a2 w2 h2 => ⟨h2.1, until_one q3 e5 g5 ?_⟩) (h ve va vl A' c' w' ho' hb')
    exact Oper.wp_mono (fun a' w'' hq => ⟨fun h0 => absurd rfl h0, q4, hq⟩) h2.2
  refine until_two r1 e1 g1 e3 g3 ?_ ?_
  · refine wp_slice0 oe1 (hr0 w) ?_
    have hb1 : Below w.heap.size w (w.alloc (.cells #[] te)) := (Below.refl _ _).alloc (Nat.le_refl _) _
    have ho1 := own0 w (Below.refl _ _)
    rw [oe2]
    refine ⟨hS _ hb1, until_two r2 e2 g2 e3 g3 ?_ ?_⟩
    · refine wp_appRow (P := P) (.tmp de) (.tmp tx) ts te oa1 w.heap.size i z size bytes ht hi hz hsize hby hzs hsz hbytes _ 0 [] ?_ ho1 u m cs ?_ (hu.below hb1 (Nat.le_refl _)) hc1 (by omega) hb1.size ?_
      · exact eval_put_same _ hde _
      · rw [eval_put_ne _ nex]; exact hx
      intro A2 c2 w2 ho2 hg2
      rw [Nat.zero_add, List.nil_append] at ho2
      have hb2 : Below w.heap.size w w2 := hb1.grown hg2 hb1.size (fun k hk => (ho1.lt k hk).1)
      refine ⟨hS _ hb2, until_alone r4 e3 g3 ?_⟩
      refine wp_slice1 ol1 (y := y) ?_ (hr1 w2) ?_
      · rw [oa2, eval_put_ne _ nay, eval_put_ne _ ney]; exact hy
      have hb3 := hb2.alloc hb2.size (.cells ys.toArray te)
      refine ⟨hS _ hb3, ?_⟩
      rw [oa2, ol2]
      exact tail [ie, ia, il] (by simp) _ _ _ _ hb3 (by rw [Nat.zero_add]; exact ho2.alloc _) (RowAt.new w2 te size ys hys)
    · refine wp_slice1 ol1 (y := y) ?_ (hr1 _) ?_
      · rw [eval_put_ne _ ney]; exact hy
      have hb2 := hb1.alloc hb1.size (.cells ys.toArray te)
      refine ⟨hS _ hb2, until_alone r5 e2 g2 ?_⟩
      rw [ol2]
      refine wp_appRow (P := P) (.tmp de) (.tmp tx) ts te oa1 w.heap.size i z size bytes ht hi hz hsize hby hzs hsz hbytes _ 0 [] ?_ (ho1.alloc _) u m cs ?_ (hu.below hb2 (Nat.le_refl _)) hc1 (by omega) hb2.size ?_
      · rw [eval_put_ne _ (Ne.symm nel)]; exact eval_put_same _ hde _
      · rw [eval_put_ne _ nlx, eval_put_ne _ nex]; exact hx
      intro A2 c2 w2 ho2 hg2
      rw [Nat.zero_add, List.nil_append] at ho2
      have hb3 : Below w.heap.size w w2 := hb2.grown hg2 hb2.size (fun k hk => (ho1.lt k hk).1)
      have hl3 : RowAt w2 size (.slice (some ⟨(w.alloc (.cells #[] te)).heap.size, 0, none⟩) 1 1) 1 ys :=
        (RowAt.new (w.alloc (.cells #[] te)) te size ys hys).kept hg2 (by simp [Value.ownBlock])
      refine ⟨hS _ hb3, ?_⟩
      rw [oa2, put_comm _ (Ne.symm nal)]
      exact tail [ie, il, ia] (by simp) _ _ _ _ hb3 (by rw [Nat.zero_add]; exact ho2) hl3
  · refine wp_slice1 ol1 (y := y) hy (hr1 w) ?_
    have hb1 : Below w.heap.size w (w.alloc (.cells ys.toArray te)) := (Below.refl _ _).alloc (Nat.le_refl _) _
    refine ⟨hS _ hb1, until_alone r3 e1 g1 ?_⟩
    refine wp_slice0 oe1 (hr0 _) ?_
    have hb2 := hb1.alloc hb1.size (.cells #[] te)
    have ho2 := own0 _ hb1
    refine ⟨hS _ hb2, until_alone r6 e2 g2 ?_⟩
    rw [ol2, oe2]
    refine wp_appRow (P := P) (.tmp de) (.tmp tx) ts te oa1 w.heap.size i z size bytes ht hi hz hsize hby hzs hsz hbytes _ 0 [] ?_ ho2 u m cs ?_ (hu.below hb2 (Nat.le_refl _)) hc1 (by omega) hb2.size ?_
    · exact eval_put_same _ (by rw [size_put2]; exact hde) _
    · rw [eval_put_ne _ nex, eval_put_ne _ nlx]; exact hx
    intro A2 c2 w2 ho3 hg2
    rw [Nat.zero_add, List.nil_append] at ho3
    have hb3 : Below w.heap.size w w2 := hb2.grown hg2 hb2.size (fun k hk => (ho2.lt k hk).1)
    have hl2 : RowAt ((w.alloc (.cells ys.toArray te)).alloc (.cells #[] te)) size (.slice (some ⟨w.heap.size, 0, none⟩) 1 1) 1 ys :=
      (RowAt.new w te size ys hys).below (B := (w.alloc (.cells ys.toArray te)).heap.size) ((Below.refl _ _).alloc (Nat.le_refl _) _) (Nat.le_refl _)
    have hl3 : RowAt w2 size (.slice (some ⟨w.heap.size, 0, none⟩) 1 1) 1 ys := hl2.kept hg2 (by simp [Value.ownBlock])
    refine ⟨hS _ hb3, ?_⟩
    rw [oa2, put_comm _ (Ne.symm nel), put_comm _ (Ne.symm nal)]
    exact tail [il, ie, ia] (by simp) _ _ _ _ hb3 (by rw [Nat.zero_add]; exact ho3) hl3
/-- Reads; then append(append([]T{}, X...), y), stored. -/
theorem region_app2 {id : Nat} {l : List Oper} {a : Act} {w : World} (R : List Nat) (ik : Nat) (hm : P.follows .mixedOrders = true) (hs : Region.noSelect l.toArray = true) (S : World → Prop) (hS : S w.drew)
    (hB : readsB .any l.toArray ik R (Array.replicate l.toArray.size false) = true) (hsz : l.toArray.size = 6 + R.length)
    (h : Reads P l.toArray Q S (fun a' => Until P .any l.toArray Q ik S 6 (listAll R (Array.replicate l.toArray.size false)) a' w.drew) R a) : (Code.region id l.toArray true).wp P Q a w := by
  refine wp_region_any hm (Until.any (κ := ik) (S := S) ?_)
  rw [hsz]
  refine until_reads (f := 6) hs hS R _ a (by rw [← hsz]; exact hB) ?_
  rw [← hsz]
  exact h
end
end Go.Proofs.YtlopoddllfkkfaaDoor
