/- The document's parcel. -/
import Derived.Test.YtkpoeahnlldpgaaDoorRefWire
namespace Go.Proofs.YtkpoeahnlldpgaaDoor
open Go.RowKit

set_option maxRecDepth 100000 in
set_option maxHeartbeats 4000000 in
theorem refParcel_any (k : UInt8) (l : List UInt8) (v : Value) (w : World) (h : BytesV w v l) (hl : l.length ≤ 90000000) :
    Calls Tryd.prog 32 #[.int .u8 (k.toNat : Int), v] w fun e w' => ∃ v', e = .returned v' ∧ w'.ownsRow w.heap.size 5 1 v' (l.length + 13) (Lib.byteCells (parcel k l)) ∧ Below w.heap.size w w' := by
  obtain ⟨i0, hi, hz0, hz1, hz2⟩ := info_parts Tryd.infoU8
  obtain ⟨A, c, rfl, _⟩ := h.form
  have H := Lib.hid h
  clear h
  have kc := fun (w : World) (C : Array Value) (n c : Nat) => Lib.run_convert_bytes_const (P := Tryd.prog) w 27 5 C n c Tryd.underlying27 Tryd.underlying5
  go_enter Tryd.func32, Tryd.ntmps32
  go_wp2_with (at_builtin; refine wpList_append_arg _ rfl _ _ 27 rfl 5 i0 (.int .u8 0) 1 1 Tryd.underlying27 hi hz0 hz1 hz2 rfl (by decide) w.heap.size 0 4 4 (Lib.byteCells [70, 87, 82, 75]) rfl rfl ?h1 ⟨w.heap.size + 1, 0, none⟩ 1 1 [.int .u8 (k.toNat : Int)] rfl rfl ?h2 ?h3 (fun h => absurd h (by decide)) (by unfold maxLen; omega) (by decide) (fun h => absurd h (by decide)) ?_)
  case h1 =>
    intro j u hj
    have hh : ((w.alloc (.cells #[.int .u8 70, .int .u8 87, .int .u8 82, .int .u8 75] 5 (4, 5))).alloc (.cells #[.int .u8 (k.toNat : Int)] 5)).heap[w.heap.size]? = some (.cells #[.int .u8 70, .int .u8 87, .int .u8 82, .int .u8 75] 5 (4, 5)) := heap_alloc2_old w _ _
    rw [Nat.zero_add, cell_of_row _ _ j _ _ _ hh, ← hj]
    match j with
    | 0 => rfl
    | 1 => rfl
    | 2 => rfl
    | 3 => rfl
    | n + 4 => rfl
  case h2 =>
    intro j u hj
    match j, hj with
    | 0, hj => simp at hj; subst hj; simp [Addr.add]
  case h3 => intro u hu; simp at hu; subst hu; rfl
  intro v1 w1 hown1 hgrow1
  obtain ⟨A1, c1, rfl⟩ := own_form hown1
  have ho1 : w1.ownsRow w.heap.size 5 1 (.slice A1 5 c1) 5 (Lib.byteCells ([70, 87, 82, 75] ++ [k])) := by
    rw [byteCells_app]
    exact own_mono hown1 (by first | omega | (simp; omega) | simp)
  have hb1 : Below w.heap.size w w1 := (((Below.refl _ _).alloc (Nat.le_refl _) _).alloc (by simp) _).grown hgrow1 (by simp; omega) (fun k hk => by cases hk)
  have W1 := Lib.hid (refWord_any l.length w1 (by omega))
  have HO1 := Lib.hid ho1; have HB1 := Lib.hid hb1
  have hs1 := hb1.size
  clear hown1 hgrow1 ho1 hb1 kc
  go_wp2_with fail
  refine W1.out.mono ?_; rintro e wa ⟨u1, rfl, hu1, hba⟩
  have hoa := own_below HO1.out hba (Nat.le_refl _)
  have hbA : Below w.heap.size w wa := HB1.out.trans (hba.mono hs1)
  have hsa := hbA.size
  have HU1 := Lib.hid hu1; have HOA := Lib.hid hoa; have HBA := Lib.hid hbA
  clear hu1 hoa hbA hba
  go_wp2_with (at_builtin; refine wpList_appBytes _ rfl _ _ 27 rfl w.heap.size i0 Tryd.underlying27 hi hz0 hz1 hz2 _ 5 _ rfl HOA.out _ (be 4 l.length) rfl HU1.out (by rw [be_len]; omega) hsa ?_)
  intro A2 c2 w2 hown2 hgrow2
  have hb2 : Below w.heap.size w w2 := hgrow2.below HOA.out HBA.out (Nat.le_refl _) hsa
  rw [be_len] at hown2
  rw [be_len]
  have HO2 := Lib.hid hown2; have HB2 := Lib.hid hb2
  have hs2 := hb2.size
  clear hown2 hgrow2 hb2
  go_wp2_with (at_builtin; refine wpList_appBytes _ rfl _ _ 27 rfl w.heap.size i0 Tryd.underlying27 hi hz0 hz1 hz2 _ 9 _ rfl HO2.out _ l rfl (H.out.below HB2.out (Nat.le_refl _)) (by omega) hs2 ?_)
  intro A3 c3 w3 hown3 hgrow3
  have ho3 : w3.ownsRow w.heap.size 5 1 (.slice A3 (9 + l.length) c3) (9 + l.length) (Lib.byteCells (phead k l)) := by
    unfold phead
    rw [byteCells_app, byteCells_app]
    exact hown3
  have hb3 : Below w.heap.size w w3 := hgrow3.below HO2.out HB2.out (Nat.le_refl _) hs2
  have hs3 := hb3.size
  have SU := Lib.hid (refSum_any (phead k l) _ w3 (own_bytesV ho3) (by rw [phead_len]; omega))
  have ha := asum_lt (phead k l)
  obtain ⟨s, hs⟩ : ∃ s, asum (phead k l) = s := ⟨_, rfl⟩
  rw [hs] at ha SU
  have W3 := Lib.hid (refWord_any s w3 ha)
  have HO3 := Lib.hid ho3; have HB3 := Lib.hid hb3; have HS := Lib.hid hs
  clear hown3 hgrow3 ho3 hb3 hs
  go_wp2_with fail
  refine SU.out.mono ?_; rintro e w4 ⟨rfl, rfl⟩
  go_wp2_with fail
  refine W3.out.mono ?_; rintro e wb ⟨u3, rfl, hu3, hbb⟩
  have hob := own_below HO3.out hbb (Nat.le_refl _)
  have hbB : Below w.heap.size w wb := HB3.out.trans (hbb.mono hs3)
  have hsb := hbB.size
  have HU3 := Lib.hid hu3; have HOB := Lib.hid hob; have HBB := Lib.hid hbB
  clear hu3 hob hbB hbb
  go_wp2_with (at_builtin; refine wpList_appBytes _ rfl _ _ 27 rfl w.heap.size i0 Tryd.underlying27 hi hz0 hz1 hz2 _ (9 + l.length) _ rfl HOB.out _ (be 4 s) rfl HU3.out (by rw [be_len]; omega) hsb ?_)
  intro A5 c5 w5 hown5 hgrow5
  have hb5 : Below w.heap.size w w5 := hgrow5.below HOB.out HBB.out (Nat.le_refl _) hsb
  rw [be_len] at hown5
  rw [be_len]
  have ho5 : w5.ownsRow w.heap.size 5 1 (.slice A5 (9 + l.length + 4) c5) (l.length + 13) (Lib.byteCells (parcel k l)) := by
    unfold parcel
    rw [byteCells_app, HS.out, show l.length + 13 = 9 + l.length + 4 by omega]
    exact hown5
  have HB5 := Lib.hid hb5; have HO5 := Lib.hid ho5
  clear hown5 hgrow5 hb5 ho5
  go_wp2
  go_ret
  exact ⟨_, rfl, HO5.out, HB5.out⟩
end Go.Proofs.YtkpoeahnlldpgaaDoor
