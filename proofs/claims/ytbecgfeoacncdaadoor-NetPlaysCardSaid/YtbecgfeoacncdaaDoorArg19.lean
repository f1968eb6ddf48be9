/- An argument of law 19 as a walk takes it: a slice of calls. -/
import Derived.Test.YtbecgfeoacncdaaDoorView
import Derived.Test.YtbecgfeoacncdaaDoorFar19
import Derived.Deep.Slices
import Derived.Deep.Fields
namespace Go.Proofs.YtbecgfeoacncdaaDoor
open Go.ChangeShapes Go.WideShapes Go.RowKit Go.Deep

theorem acts_view {P : Program} {H : Type} {enc : TypeId × Value → H} {W : World} {base : Nat} {v : Value} {d : DataW H} {ps : List MemPlace} {t e b0 : Nat} {r : Reach} {f0 f1 f2 f3 : Field} (ht : P.underlying t = some (.slice e)) (he : P.underlying e = some (.struct #[f0, f1, f2, f3]))
    (hone : oneCellFields P #[f0, f1, f2, f3] = true) (hC : P.cellsOf e = 4) (k0 : P.underlying f0.type = some (.int .i64)) (k1 : P.underlying f1.type = some (.int .i64)) (k2 : P.underlying f2.type = some (.int .i64)) (k3 : P.underlying f3.type = some .string)
    (hv : Value.okWide P W r b0 t v) (h : DataW.Trod enc P W base (fun _ => true) true t v d ps) :
    ∃ S : List Let, LetsAt W v S ∧ S.length ≤ 9223372036854775807 ∧ ∀ l ∈ S, In64 l.f ∧ In64 l.t ∧ In64 l.s := by
  obtain ⟨a0, len, cap, rfl⟩ := okWide_slice ht hv
  obtain ⟨fuel, hf⟩ := h
  rcases open_slice ht hf with ⟨hcs, _⟩ | ⟨a, len', cap', m, n, D, Pl, hcs, _, hl, hm, hmm, _, hi⟩
  · simp [Value.cells] at hcs
    obtain ⟨rfl, rfl, rfl⟩ := hcs
    exact ⟨[], LetsAt.nil W, Nat.zero_le _, fun l hl => by simp at hl⟩
  · simp [Value.cells] at hcs
    obtain ⟨rfl, rfl, rfl⟩ := hcs
    unfold maxLen at hm
    simp only [if_true] at hmm
    rcases Nat.eq_zero_or_pos len with rfl | hpos
    · exact ⟨[], ⟨_, cap, rfl, Nat.zero_le _, Or.inl rfl⟩, Nat.zero_le _, fun l hl => by simp at hl⟩
    · have cellsAt : ∀ i, i < cap → ∃ l : Let, (∀ j, j < 4 → W.cell? (a.add (i * 4 + j)) = (letC l)[j]?) ∧ In64 l.f ∧ In64 l.t ∧ In64 l.s := by
        intro i hlt
        obtain ⟨cs', hc, ht'⟩ := hi i (by omega)
        rw [hC] at hc
        obtain ⟨ys, n', hn', hy, hlen, hyl, hfld⟩ := DataW.trod_struct he ht'
        obtain ⟨_, hcl, hat⟩ := World.cells?_some hc
        match cs', hcl with
        | [c0, c1, c2, c3], _ =>
          have g0 := hfld 0 f0 rfl
          have g1 := hfld 1 f1 rfl
          have g2 := hfld 2 f2 rfl
          have g3 := hfld 3 f3 rfl
          obtain ⟨o0, z0⟩ := hone_of hone 0 f0 rfl
          obtain ⟨o1, z1⟩ := hone_of hone 1 f1 rfl
          obtain ⟨o2, z2⟩ := hone_of hone 2 f2 rfl
          obtain ⟨o3, z3⟩ := hone_of hone 3 f3 rfl
          rw [o0, z0] at g0
          rw [o1, z1] at g1
          rw [o2, z2] at g2
          rw [o3, z3] at g3
          have y0 : ys[0]? = some (ys[0]'(by rw [hyl]; simp)) := List.getElem?_eq_getElem _
          have y1 : ys[1]? = some (ys[1]'(by rw [hyl]; simp)) := List.getElem?_eq_getElem _
          have y2 : ys[2]? = some (ys[2]'(by rw [hyl]; simp)) := List.getElem?_eq_getElem _
          have y3 : ys[3]? = some (ys[3]'(by rw [hyl]; simp)) := List.getElem?_eq_getElem _
          rw [y0] at g0
          rw [y1] at g1
          rw [y2] at g2
          rw [y3] at g3
          obtain ⟨x, ex, _, wx⟩ := DataW.trod_int k0 g0
          obtain ⟨y, ey, _, wy⟩ := DataW.trod_int k1 g1
          obtain ⟨z, ez, _, wz⟩ := DataW.trod_int k2 g2
          obtain ⟨s, es, _, _⟩ := DataW.trod_string k3 g3
          have a0 := hat 0 (by simp)
          have a1 := hat 1 (by simp)
          have a2 := hat 2 (by simp)
          have a3 := hat 3 (by simp)
          simp at ex ey ez es
          subst ex ey ez es
          refine ⟨⟨x, y, z, s⟩, fun j hj => ?_, bounds_i64 wx, bounds_i64 wy, bounds_i64 wz⟩
          match j, hj with
          | 0, _ => simpa [Go.Deep.add_add, letC] using a0
          | 1, _ => simpa [Go.Deep.add_add, letC] using a1
          | 2, _ => simpa [Go.Deep.add_add, letC] using a2
          | 3, _ => simpa [Go.Deep.add_add, letC] using a3
      obtain ⟨b, off, spot⟩ := a
      obtain ⟨l0, hx, _⟩ := cellsAt 0 (by omega)
      have hspot : spot = none := by
        have := hx 0 (by omega)
        simpa [Addr.add] using World.cell?_spot this
      subst hspot
      have hlen : ((List.range len).map fun i => if h : i < cap then (cellsAt i h).choose else letZ).length = len := by simp
      have hget : ∀ i (hi : i < len), ((List.range len).map fun i => if h : i < cap then (cellsAt i h).choose else letZ)[i]'(by rw [hlen]; exact hi) = (cellsAt i (by omega)).choose := fun i hi => by
        rw [List.getElem_map, List.getElem_range, dif_pos (show i < cap by omega)]
      refine ⟨(List.range len).map fun i => if h : i < cap then (cellsAt i h).choose else letZ, ⟨_, cap, by rw [hlen], by rw [hlen]; exact hl, Or.inr ⟨b, off, rfl, fun j hj => ?_⟩⟩, by rw [hlen]; omega, fun l hl => ?_⟩
      · rw [hlen] at hj
        have hi' : j / 4 < len := by omega
        have e := (cellsAt (j / 4) (by omega)).choose_spec.1 (j % 4) (Nat.mod_lt _ (by omega))
        have e2 := letsC_at ((List.range len).map fun i => if h : i < cap then (cellsAt i h).choose else letZ) (j / 4) (j % 4) (by rw [hlen]; exact hi') (Nat.mod_lt _ (by omega))
        rw [hget _ hi', ← e] at e2
        rw [show j / 4 * 4 + j % 4 = j by omega] at e2
        rw [e2, add_plain]
      · obtain ⟨i, hi, rfl⟩ := List.mem_iff_getElem.1 hl
        rw [hlen] at hi
        rw [hget i hi]
        exact (cellsAt i (by omega)).choose_spec.2
set_option maxRecDepth 100000 in
theorem acts_arg {H : Type} {enc : TypeId × Value → H} {W : World} {base b0 : Nat} {r : Reach} {v : Value} {d : DataW H} {ps : List MemPlace} (hv : Value.okWide Tryd.prog W r b0 22 v) (h : DataW.Trod enc Tryd.prog W base (fun _ => true) true 22 v d ps) :
    ∃ S : List Let, LetsAt W v S ∧ S.length ≤ 9223372036854775807 ∧ ∀ l ∈ S, In64 l.f ∧ In64 l.t ∧ In64 l.s :=
  acts_view Tryd.underlying22 Tryd.underlying37 (by kernel_rfl) (by kernel_rfl) Tryd.underlying3 Tryd.underlying3 Tryd.underlying3 Tryd.underlying9 hv h
end Go.Proofs.YtbecgfeoacncdaaDoor
