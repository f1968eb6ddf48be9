/- Arguments of layer 20 as a walk takes them: lists of numbers; acts; small texts. -/
import Derived.Test.YtlopoddllfkkfaaDoorJ1
import Derived.SliceStrings
import Derived.Test.YtlopoddllfkkfaaDoorBspS
namespace Go.Proofs.YtlopoddllfkkfaaDoor
open Go.ChangeShapes Go.WideShapes Go.RowKit Go.Deep

/-- A slice of int in a cell of a slice that came in. -/
theorem cell_ints {P : Program} {H : Type} {enc : TypeId × Value → H} {W : World} {base fuel : Nat} {x : DataW H × List MemPlace} {t e : Nat} {c0 : Value} (ht : P.underlying t = some (.slice e)) (he : P.underlying e = some (.int .i64)) (hc : P.cellsOf e = 1)
    (h : DataW.trod enc P W base (fun _ => true) true fuel t [c0] = some x) : ∃ L : List Int, SeqC W c0 L := by
  rcases open_ints ht he hc h with ⟨hcs, hx⟩ | ⟨a, len, cap, zs, hcs, _, hl, hm, hz, hx, hcell, hwz⟩
  · obtain rfl := (List.cons.inj hcs).1
    exact ⟨[], Or.inl ⟨rfl, _, _, rfl⟩, _, _, rfl, Nat.le_refl _⟩
  · obtain rfl := (List.cons.inj hcs).1
    simp only [if_true] at hz
    have hlen : (zs.take len).length = len := by rw [List.length_take]; omega
    refine ⟨zs.take len, ?_, some a, cap, by rw [hlen], by rw [hlen]; exact hl⟩
    rcases Nat.eq_zero_or_pos len with rfl | hpos
    · exact Or.inl ⟨hlen, _, _, rfl⟩
    · obtain ⟨b, off, spot⟩ := a
      have hspot : spot = none := by simpa [Addr.add] using World.cell?_spot (hcell 0 (by omega))
      subst hspot
      refine Or.inr ⟨by rw [hlen]; exact hpos, b, off, cap, by rw [hlen], fun i hi => ?_⟩
      rw [hlen] at hi
      have h1 := hcell i (by omega)
      rw [add_plain] at h1
      rw [h1]
      have e1 : (zs.take len).getD i 0 = zs.getD i 0 := by simp [List.getD, hi]
      show _ = some (Value.int IntKind.i64 ((zs.take len).getD i 0))
      rw [e1]
theorem lists_view {P : Program} {H : Type} {enc : TypeId × Value → H} {W : World} {base : Nat} {v : Value} {d : DataW H} {ps : List MemPlace} {t e f b0 : Nat} {r : Reach} (ht : P.underlying t = some (.slice e)) (he : P.underlying e = some (.slice f)) (hf' : P.underlying f = some (.int .i64)) (hC : P.cellsOf e = 1) (hc : P.cellsOf f = 1)
    (hv : Value.okWide P W r b0 t v) (h : DataW.Trod enc P W base (fun _ => true) true t v d ps) : ∃ C : List (List Int), ListsV W v C := by
  obtain ⟨a0, len, cap, rfl⟩ := okWide_slice ht hv
  obtain ⟨fuel, hf⟩ := h
  rcases open_slice ht hf with ⟨hcs, _⟩ | ⟨a, len', cap', m, n, D, Pl, hcs, _, hl, hm, hmm, _, hi⟩
  · simp [Value.cells] at hcs
    obtain ⟨rfl, rfl, rfl⟩ := hcs
    exact ⟨[], [], rfl, fun i u L hu _ => by simp at hu, Or.inl ⟨rfl, _, _, rfl⟩⟩
  · simp [Value.cells] at hcs
    obtain ⟨rfl, rfl, rfl⟩ := hcs
    simp only [if_true] at hmm
    rcases Nat.eq_zero_or_pos len with rfl | hpos
    · exact ⟨[], [], rfl, fun i u L hu _ => by simp at hu, Or.inl ⟨rfl, _, _, rfl⟩⟩
    · have cellsAt : ∀ i, i < cap → ∃ u L, W.cell? (a.add i) = some u ∧ SeqC W u L := by
        intro i hlt
        obtain ⟨cs', hcc, ht'⟩ := hi i (by omega)
        rw [hC, Nat.mul_one] at hcc
        obtain ⟨_, hcl, hat⟩ := World.cells?_some hcc
        match cs', hcl with
        | [c0], _ =>
          obtain ⟨L, hL⟩ := cell_ints he hf' hc ht'
          refine ⟨c0, L, ?_, hL⟩
          have := hat 0 (by simp)
          simpa [Go.Deep.add_add] using this
      obtain ⟨b, off, spot⟩ := a
      obtain ⟨u0, L0, hx, _⟩ := cellsAt 0 (by omega)
      have hspot : spot = none := by simpa [Addr.add] using World.cell?_spot hx
      subst hspot
      obtain ⟨U, Ls, hUL⟩ : ∃ (U : Nat → Value) (Ls : Nat → List Int), ∀ i, i < cap → W.cell? ⟨b, off + i, none⟩ = some (U i) ∧ SeqC W (U i) (Ls i) := by
        have hall : ∀ i, ∃ u L, i < cap → W.cell? ⟨b, off + i, none⟩ = some u ∧ SeqC W u L := fun i => by
          by_cases hic : i < cap
          · obtain ⟨u, L, h1, h2⟩ := cellsAt i hic
            exact ⟨u, L, fun _ => ⟨by rw [← add_plain]; exact h1, h2⟩⟩
          · exact ⟨.nilIface, [], fun h => absurd h hic⟩
        exact ⟨fun i => (hall i).choose, fun i => (hall i).choose_spec.choose, fun i hi => (hall i).choose_spec.choose_spec hi⟩
      refine ⟨(List.range len).map Ls, (List.range len).map U, by simp, fun i u L hu hL => ?_, Or.inr ⟨by simpa using hpos, b, off, cap, by simp, fun i hi => ?_⟩⟩
      · have hil : i < len := by
          have := List.getElem?_eq_some_iff.1 hu
          simpa using this.1
        simp [hil] at hu hL
        rw [← hu, ← hL]
        exact (hUL i (by omega)).2
      · have hil : i < len := by simpa using hi
        rw [(hUL i (by omega)).1]
        simp [hil]
set_option maxRecDepth 100000 in
theorem lists_arg {H : Type} {enc : TypeId × Value → H} {W : World} {base b0 : Nat} {r : Reach} {v : Value} {d : DataW H} {ps : List MemPlace} (hv : Value.okWide Tryd.prog W r b0 23 v) (h : DataW.Trod enc Tryd.prog W base (fun _ => true) true 23 v d ps) : ∃ C : List (List Int), ListsV W v C :=
  lists_view Tryd.underlying23 Tryd.underlying52 Tryd.underlying3 (by kernel_rfl) (by kernel_rfl) hv h
set_option maxRecDepth 100000 in
theorem txts_arg {H : Type} {enc : TypeId × Value → H} {W : World} {base b0 : Nat} {r : Reach} {v : Value} {d : DataW H} {ps : List MemPlace} (hv : Value.okWide Tryd.prog W r b0 22 v) (h : DataW.Trod enc Tryd.prog W base (fun _ => true) true 22 v d ps) : ∃ X : List ByteArray, ValsV W v (txtC X) := by
  obtain ⟨a0, len, cap, rfl⟩ := okWide_slice Tryd.underlying22 hv
  obtain ⟨fuel, hf⟩ := h
  rcases open_strings Tryd.underlying22 Tryd.underlying9 (by kernel_rfl) hf with ⟨hcs, hx⟩ | ⟨a, len', cap', ss, hcs, _, hl, hm, hz, hx, hcell, hws⟩
  · simp [Value.cells] at hcs
    obtain ⟨rfl, rfl, rfl⟩ := hcs
    exact ⟨[], Or.inl ⟨rfl, _, _, rfl⟩⟩
  · simp [Value.cells] at hcs
    obtain ⟨rfl, rfl, rfl⟩ := hcs
    simp only [if_true] at hz
    rcases Nat.eq_zero_or_pos len with rfl | hpos
    · exact ⟨[], Or.inl ⟨rfl, _, _, rfl⟩⟩
    · obtain ⟨b, off, spot⟩ := a
      have hspot : spot = none := by simpa [Addr.add] using World.cell?_spot (hcell 0 (by omega))
      subst hspot
      refine ⟨(List.range len).map fun i => ss.getD i ByteArray.empty, Or.inr ⟨by rw [txtC_len]; simpa using hpos, b, off, cap, by rw [txtC_len]; simp, fun i hi => ?_⟩⟩
      rw [txtC_len] at hi
      have hil : i < len := by simpa using hi
      rw [← add_plain, hcell i (by omega), txtC_at hi]
      simp [List.getD, hil]
set_option maxRecDepth 100000 in
theorem acts20_arg {H : Type} {enc : TypeId × Value → H} {W : World} {base b0 : Nat} {r : Reach} {v : Value} {d : DataW H} {ps : List MemPlace} (hv : Value.okWide Tryd.prog W r b0 24 v) (h : DataW.Trod enc Tryd.prog W base (fun _ => true) true 24 v d ps) : ∃ E : List (Int × Int), ActsV W v E ∧ E.length ≤ 9223372036854775807 := by
  rcases pairs_view Tryd.underlying24 Tryd.underlying39 (by kernel_rfl) (by kernel_rfl) Tryd.underlying3 Tryd.underlying3 hv h with rfl | ⟨a, cap, rfl, _⟩ | ⟨b, off, len, cap, F, T, rfl, hpos, hl, hcap, hcell, _, _⟩
  · exact ⟨[], Or.inl ⟨rfl, _, _, rfl⟩, Nat.zero_le _⟩
  · exact ⟨[], Or.inl ⟨rfl, _, _, rfl⟩, Nat.zero_le _⟩
  · refine ⟨(List.range len).map fun i => (F i, T i), Or.inr ⟨by simpa using hpos, b, off, cap, by simp, fun i hi => ?_⟩, by simp; omega⟩
    have hil : i < len := by simpa using hi
    have e1 : ((List.range len).map fun i => (F i, T i)).getD i (0, 0) = (F i, T i) := by simp [List.getD, hil]
    rw [e1]
    exact hcell i hil
end Go.Proofs.YtlopoddllfkkfaaDoor
