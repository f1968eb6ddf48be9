/- An argument of a row as a walk takes it: a slice of items. -/
import Derived.Test.YtkpoeahnlldpgaaDoorItems
namespace Go.Proofs.YtkpoeahnlldpgaaDoor
open Go.ChangeShapes Go.WideShapes Go.RowKit Go.Deep

section
variable {H : Type} {enc : TypeId × Value → H} {P : Program} {w : World} {base : Nat} {spare : Nat → Bool} {held : Bool}
theorem open_slice_fields {t e : TypeId} {fs : Array Field} {fuel : Nat} {cs : List Value} {x : DataW H × List MemPlace} (ht : P.underlying t = some (.slice e)) (he : P.underlying e = some (.struct fs))
    (hone : oneCellFields P fs = true) (hC : P.cellsOf e = fs.size) (h : DataW.trod enc P w base spare held fuel t cs = some x) :
    (cs = [.slice none 0 0] ∧ x = (.nil, [])) ∨
    ∃ (a : Addr) (len cap m : Nat), cs = [.slice (some a) len cap] ∧ len ≤ cap ∧ cap ≤ maxLen ∧ m = (if spare a.block then cap else len) ∧
      ∀ i, i < m → ∃ n : Nat, ∀ (j : Nat) (f : Field), fs[j]? = some f → ∃ (v : Value) (y : DataW H × List MemPlace), w.cell? (a.add (i * fs.size + j)) = some v ∧ DataW.trod enc P w base spare held n f.type [v] = some y := by
  rcases open_slice ht h with h0 | ⟨a, len, cap, m, n, D, Pl, hcs, _, hl, hm, hmm, _, hi⟩
  · exact .inl h0
  · refine .inr ⟨a, len, cap, m, hcs, hl, hm, hmm, fun i him => ?_⟩
    obtain ⟨cs', hc, ht'⟩ := hi i him
    rw [hC] at hc
    obtain ⟨ys, n', hn', hy, hlen, hyl, hf⟩ := DataW.trod_struct he ht'
    obtain ⟨_, hcl, hat⟩ := World.cells?_some hc
    refine ⟨n', fun j f hj => ?_⟩
    obtain ⟨ho, hk⟩ := hone_of hone j f hj
    have hjl : j < fs.size := (Array.getElem?_eq_some_iff.1 hj).1
    have hcell := hat j hjl
    have hv : cs'[j]? = some (cs'[j]'(by omega)) := List.getElem?_eq_getElem (by omega)
    have h1 := hf j f hj
    rw [ho, hk] at h1
    have hone' : (cs'.drop j).take 1 = [cs'[j]'(by omega)] := by
      rw [List.drop_eq_getElem_cons (by omega)]
      rfl
    rw [hone'] at h1
    have hys : ys[j]? = some (ys[j]'(by omega)) := List.getElem?_eq_getElem (by omega)
    refine ⟨_, _, ?_, h1.trans hys⟩
    rw [← Go.Deep.add_add, hcell, hv]
end

theorem zero_rng : -9223372036854775808 ≤ (0 : Int) ∧ (0 : Int) ≤ 9223372036854775807 := by decide
/-- A slice of numbers within what came in. -/
theorem ints_in {P : Program} {H : Type} {enc : TypeId × Value → H} {W : World} {base fuel : Nat} {v : Value} {x : DataW H × List MemPlace} {t e : TypeId} (ht : P.underlying t = some (.slice e)) (he : P.underlying e = some (.int .i64)) (hc : P.cellsOf e = 1)
    (hf : DataW.trod enc P W base (fun _ => true) true fuel t [v] = some x) : ∃ (n : Nat) (Z : Nat → Int), IntsV W v n Z ∧ ∀ i, -9223372036854775808 ≤ Z i ∧ Z i ≤ 9223372036854775807 := by
  rcases open_ints ht he hc hf with ⟨hcs, hx⟩ | ⟨a, len, cap, zs, hcs, _, hl, hm, hz, hx, hcell, hwz⟩
  · simp at hcs
    subst hcs
    exact ⟨0, fun _ => 0, Or.inl ⟨rfl, _, _, rfl⟩, fun _ => zero_rng⟩
  · simp at hcs
    subst hcs
    simp only [if_true] at hz
    rcases Nat.eq_zero_or_pos len with rfl | hpos
    · exact ⟨0, fun _ => 0, Or.inl ⟨rfl, _, _, rfl⟩, fun _ => zero_rng⟩
    · obtain ⟨b, off, spot⟩ := a
      have hspot : spot = none := by simpa [Addr.add] using World.cell?_spot (hcell 0 (by omega))
      subst hspot
      refine ⟨len, fun i => zs.getD i 0, Or.inr ⟨hpos, b, off, cap, rfl, fun i hi => by rw [← add_plain]; exact hcell i (by omega)⟩, fun i => ?_⟩
      rcases Nat.lt_or_ge i zs.length with h | h
      · have e1 : zs.getD i 0 = zs[i] := by simp [List.getD, h]
        show -9223372036854775808 ≤ zs.getD i 0 ∧ zs.getD i 0 ≤ 9223372036854775807
        rw [e1]
        exact bounds_i64 (hwz _ (List.getElem_mem h))
      · show -9223372036854775808 ≤ zs.getD i 0 ∧ zs.getD i 0 ≤ 9223372036854775807
        rw [show zs.getD i 0 = 0 by simp [List.getD, h]]
        decide

/-- Numbers as Go has them. -/
def ItemOk (x : ItemR) : Prop := (-9223372036854775808 ≤ x.K ∧ x.K ≤ 9223372036854775807) ∧ (-9223372036854775808 ≤ x.N ∧ x.N ≤ 9223372036854775807) ∧ ∀ i, -9223372036854775808 ≤ x.Z i ∧ x.Z i ≤ 9223372036854775807
def item0 : ItemR := ⟨0, 0, ⟨#[]⟩, .slice none 0 0, 0, fun _ => 0⟩
theorem item0_ok : ItemOk item0 := ⟨by decide, by decide, fun _ => zero_rng⟩

theorem items_view {P : Program} {H : Type} {enc : TypeId × Value → H} {W : World} {base : Nat} {v : Value} {d : DataW H} {ps : List MemPlace} {t e b0 t3 e3 : Nat} {r : Reach} {f0 f1 f2 f3 : Field} (ht : P.underlying t = some (.slice e)) (he : P.underlying e = some (.struct #[f0, f1, f2, f3]))
    (hone : oneCellFields P #[f0, f1, f2, f3] = true) (hC : P.cellsOf e = 4) (k0 : P.underlying f0.type = some (.int .i64)) (k1 : P.underlying f1.type = some (.int .i64)) (k2 : P.underlying f2.type = some .string) (k3 : f3.type = t3) (k4 : P.underlying t3 = some (.slice e3)) (k5 : P.underlying e3 = some (.int .i64)) (k6 : P.cellsOf e3 = 1)
    (hv : Value.okWide P W r b0 t v) (h : DataW.Trod enc P W base (fun _ => true) true t v d ps) : ∃ (n : Nat) (I : Nat → ItemR), ItemsV W v n I ∧ ∀ i, ItemOk (I i) := by
  obtain ⟨a0, len0, cap0, rfl⟩ := okWide_slice ht hv
  obtain ⟨fuel, hf⟩ := h
  rcases open_slice_fields ht he hone hC hf with ⟨hcs, _⟩ | ⟨a, len, cap, m, hcs, hl, hm, hmm, hi⟩
  · simp [Value.cells] at hcs
    obtain ⟨rfl, rfl, rfl⟩ := hcs
    exact ⟨0, fun _ => item0, ⟨fun i h => by omega, Or.inl ⟨rfl, _, _, rfl⟩⟩, fun _ => item0_ok⟩
  · simp [Value.cells] at hcs
    obtain ⟨rfl, rfl, rfl⟩ := hcs
    simp only [if_true] at hmm
    subst hmm
    rcases Nat.eq_zero_or_pos len0 with rfl | hpos
    · exact ⟨0, fun _ => item0, ⟨fun i h => by omega, Or.inl ⟨rfl, _, _, rfl⟩⟩, fun _ => item0_ok⟩
    · have each : ∀ i, i < m → ∃ x : ItemR, (W.cell? (a.add (i * 4)) = some (.int .i64 x.K) ∧ W.cell? (a.add (i * 4 + 1)) = some (.int .i64 x.N) ∧ W.cell? (a.add (i * 4 + 2)) = some (.string x.S) ∧ W.cell? (a.add (i * 4 + 3)) = some x.u) ∧ IntsV W x.u x.li x.Z ∧ ItemOk x := by
        intro i hlt
        obtain ⟨n, hfld⟩ := hi i hlt
        obtain ⟨v0, y0, c0, g0⟩ := hfld 0 f0 rfl
        obtain ⟨v1, y1, c1, g1⟩ := hfld 1 f1 rfl
        obtain ⟨v2, y2, c2, g2⟩ := hfld 2 f2 rfl
        obtain ⟨v3, y3, c3, g3⟩ := hfld 3 f3 rfl
        obtain ⟨K, eK, _, wK⟩ := DataW.trod_int k0 g0
        obtain ⟨N, eN, _, wN⟩ := DataW.trod_int k1 g1
        obtain ⟨S, eS, _, _⟩ := DataW.trod_string k2 g2
        rw [k3] at g3
        obtain ⟨li, Z, hu, hz⟩ := ints_in k4 k5 k6 g3
        simp at eK eN eS
        subst eK eN eS
        exact ⟨⟨K, N, S, v3, li, Z⟩, ⟨c0, c1, c2, c3⟩, hu, bounds_i64 wK, bounds_i64 wN, hz⟩
      obtain ⟨b, off, spot⟩ := a
      obtain ⟨x, ⟨hx, _⟩, _⟩ := each 0 (by omega)
      have hspot : spot = none := by simpa [Addr.add] using World.cell?_spot hx
      subst hspot
      refine ⟨len0, fun i => if h : i < m then (each i h).choose else item0, ⟨fun i hlt => ?_, Or.inr ⟨hpos, b, off, m, rfl, fun i hlt => ?_⟩⟩, fun i => ?_⟩
      · have hi' : i < m := by omega
        have e := (each i hi').choose_spec
        simp only [dif_pos hi']
        exact e.2.1
      · have hi' : i < m := by omega
        have e := (each i hi').choose_spec
        simp only [dif_pos hi']
        rw [Nat.add_assoc, Nat.add_assoc, Nat.add_assoc, ← add_plain, ← add_plain, ← add_plain, ← add_plain]
        exact e.1
      · by_cases hi' : i < m
        · have e := (each i hi').choose_spec
          simp only [dif_pos hi']
          exact e.2.2
        · simp only [dif_neg hi']
          exact item0_ok
end Go.Proofs.YtkpoeahnlldpgaaDoor
