/- Layer 3: what WireParcels needs besides: a byte stored, xor, arguments of bytes. -/
import Derived.Test.YtkpoeahnlldpgaaDoorAlive3
import Derived.Test.YtkpoeahnlldpgaaDoorView
namespace Go.Proofs.YtkpoeahnlldpgaaDoor
open Go.RowKit Go.ChangeShapes Go.WideShapes

theorem xor_byte (x y : UInt8) : bits .xor .u8 (x.toNat : Int) (y.toNat : Int) = ((x ^^^ y).toNat : Int) := by
  have hx := UInt8.toNat_lt x
  have hy := UInt8.toNat_lt y
  have hz := UInt8.toNat_lt (x ^^^ y)
  have h2 : x.toNat ^^^ y.toNat = (x ^^^ y).toNat := (UInt8.toNat_xor x y).symm
  show IntKind.u8.wrap ((BitVec.ofInt 8 (x.toNat : Int) ^^^ BitVec.ofInt 8 (y.toNat : Int)).toNat : Int) = _
  rw [BitVec.toNat_xor, BitVec.ofInt_natCast, BitVec.ofInt_natCast, BitVec.toNat_ofNat, BitVec.toNat_ofNat, Nat.mod_eq_of_lt (by omega), Nat.mod_eq_of_lt (by omega), h2, IntKind.wrap_u8]
  omega

/-- A row of one's own: a byte is stored. -/
theorem own_set {w : World} {base N : Nat} {v : Value} {L : List UInt8} (h : w.ownsRow base 5 1 v N (Lib.byteCells L)) (hN : 0 < N) :
    ∃ b c, v = .slice (some ⟨b, 0, none⟩) N c ∧ base ≤ b ∧ L.length = N ∧ (∀ i, w.frozen? ⟨b, i, none⟩ = false) ∧ (∀ i, i < N → w.cell? ⟨b, i, none⟩ = some (.int .u8 ((L.getD i 0).toNat : Int))) ∧
      ∀ i, i < N → ∀ x : UInt8, BytesV (w.setCell ⟨b, i, none⟩ (.int .u8 (x.toNat : Int))) v (L.set i x) := by
  have hn : L.length = N := by have := h.1; simp [Lib.byteCells] at this; omega
  have h0 := h
  rcases h.2 with ⟨rfl, h1⟩ | ⟨g, cap, cur, rfl, hb, hh, hcap, _, hsz, htake⟩
  · omega
  · have HW : Whole w g 5 cur := hh
    refine ⟨g, cap, rfl, hb, hn, fun i => HW.free i, fun i hi => ?_, fun i hi x => ?_⟩
    · rw [h0.cellAt i (by omega)]
      simp [Lib.byteCells, hn, hi]
    · refine ⟨some ⟨g, 0, none⟩, cap, by rw [List.length_set, hn], by rw [List.length_set, hn]; exact hcap, fun _ => ⟨g, 0, rfl, fun j hj => ?_⟩⟩
      rw [List.length_set] at hj
      rw [(HW.put i _).cell, Nat.zero_add]
      rcases Nat.lt_or_ge j i with hji | hji
      · have hc : cur[j]? = some (.int .u8 ((L.getD j 0).toNat : Int)) := by
          rw [← HW.cell j, h0.cellAt j (by omega)]
          simp [Lib.byteCells, hj]
        rw [Array.getElem?_setIfInBounds_ne (by omega), hc]
        simp [List.getD, List.getElem?_set_ne (show i ≠ j by omega)]
      · rcases Nat.eq_or_lt_of_le hji with e | hji
        · subst e
          rw [Array.getElem?_setIfInBounds_self_of_lt (by omega)]
          simp [List.getD, hj]
        · have hc : cur[j]? = some (.int .u8 ((L.getD j 0).toNat : Int)) := by
            rw [← HW.cell j, h0.cellAt j (by omega)]
            simp [Lib.byteCells, hj]
          rw [Array.getElem?_setIfInBounds_ne (by omega), hc]
          simp [List.getD, List.getElem?_set_ne (show i ≠ j by omega)]

/-- A slice of bytes that came in. -/
theorem bytes_view {P : Program} {H : Type} {enc : TypeId × Value → H} {W : World} {base : Nat} {v : Value} {d : DataW H} {ps : List MemPlace} {t e b0 : Nat} {r : Reach} (ht : P.underlying t = some (.slice e)) (he : P.underlying e = some (.int .u8)) (hc : P.cellsOf e = 1)
    (hv : Value.okWide P W r b0 t v) (h : DataW.Trod enc P W base (fun _ => true) true t v d ps) :
    ∃ l : List UInt8, BytesV W v l := by
  obtain ⟨a0, len, cap, rfl⟩ := okWide_slice ht hv
  obtain ⟨fuel, hf⟩ := h
  rcases open_ints ht he hc hf with ⟨hcs, hx⟩ | ⟨a, len', cap', zs, hcs, _, hl, hm, hz, hx, hcell, hwz⟩
  · simp [Value.cells] at hcs
    obtain ⟨rfl, rfl, rfl⟩ := hcs
    exact ⟨[], bytesV_nil _ _ _⟩
  · simp [Value.cells] at hcs
    obtain ⟨rfl, rfl, rfl⟩ := hcs
    simp only [if_true] at hz
    refine ⟨((zs.take len).map fun z => UInt8.ofNat z.toNat), some a, cap, by simp; omega, by simp; omega, fun h0 => ?_⟩
    have hlen : ((zs.take len).map fun z => UInt8.ofNat z.toNat).length = len := by simp; omega
    rw [hlen] at h0 ⊢
    obtain ⟨b, off, spot⟩ := a
    have hspot : spot = none := by simpa [Addr.add] using World.cell?_spot (hcell 0 (by omega))
    subst hspot
    refine ⟨b, off, rfl, fun i hi => ?_⟩
    rw [← add_plain, hcell i (by omega)]
    have hi2 : i < zs.length := by omega
    have hw := hwz _ (List.getElem_mem hi2)
    have hb := bounds_u8 hw
    simp [List.getD, hi2, hi]
    omega
theorem view_u8 {n : Int} (h : (Lit.int .u8 n).wf = true) : ∃ k : UInt8, n = (k.toNat : Int) := by
  have hb := bounds_u8 h
  refine ⟨UInt8.ofNat n.toNat, ?_⟩
  simp
  omega
theorem view_u16 {n : Int} (h : (Lit.int .u16 n).wf = true) : ∃ k : Nat, n = (k : Int) ∧ k < 65536 := by
  have hb := bounds_u16 h
  exact ⟨n.toNat, by omega, by omega⟩
end Go.Proofs.YtkpoeahnlldpgaaDoor
