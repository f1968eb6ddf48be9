/- A slice of numbers that came in, as a list. Arguments of layers 13 and 14: lists of numbers, with their bounds. -/
import Derived.Test.YtgphdngfbcjmcaaGreatDoorSeq
import Derived.Test.YtgphdngfbcjmcaaGreatDoorJV
import Derived.Test.YtgphdngfbcjmcaaGreatDoorRowsOwn
namespace Go.Proofs.YtgphdngfbcjmcaaGreatDoor
section
open Go.ChangeShapes Go.WideShapes Go.RowKit

set_option maxRecDepth 100000 in
theorem seq_arg {H : Type} {enc : TypeId × Value → H} {W : World} {base b0 : Nat} {r : Reach} {v : Value} {d : DataW H} {ps : List MemPlace} (hv : Value.okWide Tryz.prog W r b0 23 v) (h : DataW.Trod enc Tryz.prog W base (fun _ => true) true 23 v d ps) : ∃ L, SeqV W v L := by
  rcases ints_view Tryz.underlying23 Tryz.underlying3 (by kernel_rfl) hv h with rfl | ⟨a, cap, rfl, _⟩ | ⟨b, off, len, cap, Z, rfl, h0, _, _, hc, _⟩
  · exact ⟨[], Or.inl ⟨rfl, _, _, rfl⟩⟩
  · exact ⟨[], Or.inl ⟨rfl, _, _, rfl⟩⟩
  · exact ⟨_, seqV_of (Or.inr ⟨h0, b, off, cap, rfl, hc⟩)⟩
set_option maxRecDepth 100000 in
theorem seq_argB {H : Type} {enc : TypeId × Value → H} {W : World} {base b0 : Nat} {r : Reach} {v : Value} {d : DataW H} {ps : List MemPlace} (hv : Value.okWide Tryz.prog W r b0 23 v) (h : DataW.Trod enc Tryz.prog W base (fun _ => true) true 23 v d ps) : ∃ L : List Int, SeqV W v L ∧ L.length ≤ 9223372036854775807 := by
  rcases ints_view Tryz.underlying23 Tryz.underlying3 (by kernel_rfl) hv h with rfl | ⟨a, cap, rfl, _⟩ | ⟨b, off, len, cap, Z, rfl, h0, h1, h2, hc, _⟩
  · exact ⟨[], Or.inl ⟨rfl, _, _, rfl⟩, Nat.zero_le _⟩
  · exact ⟨[], Or.inl ⟨rfl, _, _, rfl⟩, Nat.zero_le _⟩
  · refine ⟨_, seqV_of (Or.inr ⟨h0, b, off, cap, rfl, hc⟩), ?_⟩
    simp
    omega
end

section
open Go.ChangeShapes Go.WideShapes Go.RowKit Go.Deep

/-- A slice of int in a cell of a slice that came in. -/
theorem cell_ints {P : Program} {H : Type} {enc : TypeId × Value → H} {W : World} {base fuel : Nat} {x : DataW H × List MemPlace} {t e : Nat} {c0 : Value} (ht : P.underlying t = some (.slice e)) (he : P.underlying e = some (.int .i64)) (hc : P.cellsOf e = 1)
    (h : DataW.trod enc P W base (fun _ => true) true fuel t [c0] = some x) : ∃ L : List Int, SeqC W c0 L ∧ L.length ≤ 9223372036854775807 := by
  rcases open_ints ht he hc h with ⟨hcs, hx⟩ | ⟨a, len, cap, zs, hcs, _, hl, hm, hz, hx, hcell, hwz⟩
  · obtain rfl := (List.cons.inj hcs).1
    exact ⟨[], ⟨Or.inl ⟨rfl, _, _, rfl⟩, _, _, rfl, Nat.le_refl _⟩, Nat.zero_le _⟩
  · obtain rfl := (List.cons.inj hcs).1
    simp only [if_true] at hz
    have hlen : (zs.take len).length = len := by rw [List.length_take]; omega
    refine ⟨zs.take len, ⟨?_, some a, cap, by rw [hlen], by rw [hlen]; exact hl⟩, by rw [hlen]; have : maxLen = 9223372036854775807 := rfl; omega⟩
    rcases Nat.eq_zero_or_pos len with rfl | hpos
    · exact Or.inl ⟨hlen, _, _, rfl⟩
    · obtain ⟨b, off, spot⟩ := a
      have hspot : spot = none := by simpa [Addr.add] using World.cell?_spot (hcell 0 (by omega))
      subst hspot
      refine Or.inr ⟨by rw [hlen]; exact hpos, b, off, cap, by rw [hlen], fun i hi => ?_⟩
      rw [hlen] at hi
      have h1 := hcell i (by omega)
      rw [add_plain] at h1
      rw [h1]
      have e1 : (zs.take len).getD i 0 = zs.getD i 0 := by simp [List.getD, hi]
      show _ = some (Value.int IntKind.i64 ((zs.take len).getD i 0))
      rw [e1]
theorem lists_view {P : Program} {H : Type} {enc : TypeId × Value → H} {W : World} {base : Nat} {v : Value} {d : DataW H} {ps : List MemPlace} {t e f b0 : Nat} {r : Reach} (ht : P.underlying t = some (.slice e)) (he : P.underlying e = some (.slice f)) (hf' : P.underlying f = some (.int .i64)) (hC : P.cellsOf e = 1) (hc : P.cellsOf f = 1)
    (hv : Value.okWide P W r b0 t v) (h : DataW.Trod enc P W base (fun _ => true) true t v d ps) : ∃ C : List (List Int), ListsV W v C ∧ C.length ≤ 9223372036854775807 ∧ ∀ l ∈ C, l.length ≤ 9223372036854775807 := by
  obtain ⟨a0, len, cap, rfl⟩ := okWide_slice ht hv
  obtain ⟨fuel, hf⟩ := h
  rcases open_slice ht hf with ⟨hcs, _⟩ | ⟨a, len', cap', m, n, D, Pl, hcs, _, hl, hm, hmm, _, hi⟩
  · simp [Value.cells] at hcs
    obtain ⟨rfl, rfl, rfl⟩ := hcs
    exact ⟨[], ⟨[], rfl, fun i u L hu _ => by simp at hu, Or.inl ⟨rfl, _, _, rfl⟩⟩, Nat.zero_le _, fun l hl => by simp at hl⟩
  · simp [Value.cells] at hcs
    obtain ⟨rfl, rfl, rfl⟩ := hcs
    simp only [if_true] at hmm
    rcases Nat.eq_zero_or_pos len with rfl | hpos
    · exact ⟨[], ⟨[], rfl, fun i u L hu _ => by simp at hu, Or.inl ⟨rfl, _, _, rfl⟩⟩, Nat.zero_le _, fun l hl => by simp at hl⟩
    · have cellsAt : ∀ i, i < cap → ∃ u L, W.cell? (a.add i) = some u ∧ SeqC W u L ∧ L.length ≤ 9223372036854775807 := by
        intro i hlt
        obtain ⟨cs', hcc, ht'⟩ := hi i (by omega)
        rw [hC, Nat.mul_one] at hcc
        obtain ⟨_, hcl, hat⟩ := World.cells?_some hcc
        match cs', hcl with
        | [c0], _ =>
          obtain ⟨L, hL⟩ := cell_ints he hf' hc ht'
          refine ⟨c0, L, ?_, hL⟩
          have := hat 0 (by simp)
          simpa [Go.Deep.add_add] using this
      obtain ⟨b, off, spot⟩ := a
      obtain ⟨u0, L0, hx, _⟩ := cellsAt 0 (by omega)
      have hspot : spot = none := by simpa [Addr.add] using World.cell?_spot hx
      subst hspot
      obtain ⟨U, Ls, hUL⟩ : ∃ (U : Nat → Value) (Ls : Nat → List Int), ∀ i, i < cap → W.cell? ⟨b, off + i, none⟩ = some (U i) ∧ SeqC W (U i) (Ls i) ∧ (Ls i).length ≤ 9223372036854775807 := by
        have hall : ∀ i, ∃ u L, i < cap → W.cell? ⟨b, off + i, none⟩ = some u ∧ SeqC W u L ∧ L.length ≤ 9223372036854775807 := fun i => by
          by_cases hic : i < cap
          · obtain ⟨u, L, h1, h2⟩ := cellsAt i hic
            exact ⟨u, L, fun _ => ⟨by rw [← add_plain]; exact h1, h2⟩⟩
          · exact ⟨.nilIface, [], fun h => absurd h hic⟩
        exact ⟨fun i => (hall i).choose, fun i => (hall i).choose_spec.choose, fun i hi => (hall i).choose_spec.choose_spec hi⟩
      refine ⟨(List.range len).map Ls, ⟨(List.range len).map U, by simp, fun i u L hu hL => ?_, Or.inr ⟨by simpa using hpos, b, off, cap, by simp, fun i hi => ?_⟩⟩, by have : maxLen = 9223372036854775807 := rfl; simp; omega, fun l hl => ?_⟩
      · have hil : i < len := by
          have := List.getElem?_eq_some_iff.1 hu
          simpa using this.1
        simp [hil] at hu hL
        rw [← hu, ← hL]
        exact (hUL i (by omega)).2.1
      · have hil : i < len := by simpa using hi
        rw [(hUL i (by omega)).1]
        simp [hil]
      · simp only [List.mem_map, List.mem_range] at hl
        obtain ⟨i, hi, rfl⟩ := hl
        exact (hUL i (by omega)).2.2
set_option maxRecDepth 100000 in
theorem lists_arg {H : Type} {enc : TypeId × Value → H} {W : World} {base b0 : Nat} {r : Reach} {v : Value} {d : DataW H} {ps : List MemPlace} (hv : Value.okWide Tryz.prog W r b0 22 v) (h : DataW.Trod enc Tryz.prog W base (fun _ => true) true 22 v d ps) : ∃ C : List (List Int), ListsV W v C ∧ C.length ≤ 9223372036854775807 ∧ ∀ l ∈ C, l.length ≤ 9223372036854775807 :=
  lists_view Tryz.underlying22 Tryz.underlying23 Tryz.underlying3 (by kernel_rfl) (by kernel_rfl) hv h
end
end Go.Proofs.YtgphdngfbcjmcaaGreatDoor
