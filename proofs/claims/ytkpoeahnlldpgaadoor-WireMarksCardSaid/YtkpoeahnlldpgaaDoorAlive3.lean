/- Layer 3: the chapter's example. -/
import Derived.Test.YtkpoeahnlldpgaaDoorRefParcel
import Derived.Test.YtkpoeahnlldpgaaDoorFault

namespace Go.Proofs.YtkpoeahnlldpgaaDoor
open Go.RowKit

theorem frow (w : World) (cs : Array Value) (l : List UInt8) (m : Nat × Nat) (h : cs.toList = Lib.byteCells l) : BytesV (w.alloc (.cells cs 5 m)) (.slice (some ⟨w.heap.size, 0, none⟩) l.length l.length) l := by
  refine ⟨_, l.length, rfl, Nat.le_refl _, fun h0 => ⟨w.heap.size, 0, rfl, fun i hi => ?_⟩⟩
  have hh : (w.alloc (.cells cs 5 m)).heap[w.heap.size]? = some (.cells cs 5 m) := heap_alloc_new w _
  rw [Nat.zero_add, cell_of_row _ _ i _ _ _ hh, ← Array.getElem?_toList, h]
  simp [Lib.byteCells, List.getD, hi]
theorem ab_parcel : up (parcel 7 [97, 98]) = none := up_parcel _ _ (by decide)
theorem bad_mark : up [70, 87, 82, 88] = some 2 := by decide

theorem unpack_parcel (k : UInt8) (l : List UInt8) (v : Value) (w : World) (h : BytesV w v (parcel k l)) (hl : l.length ≤ 1000000) :
    Calls Tryd.prog 31 #[v] w fun e w' => ∃ v', e = .returned (.tuple #[.int .u8 (k.toNat : Int), v', .nilIface]) ∧ w'.ownsRow w.heap.size 5 1 v' l.length (Lib.byteCells l) ∧ Below w.heap.size w w' := by
  refine (unpack_any _ v w h (by rw [parcel_len]; omega)).mono fun e w' hu => ?_
  obtain ⟨_, h2, h3⟩ := hu
  obtain ⟨v', he, ho⟩ := h2 (up_parcel k l (by omega))
  rw [parcel_kind] at he
  rw [parcel_body, parcel_len, show l.length + 13 - 13 = l.length by omega] at ho
  exact ⟨v', he, ho, h3⟩
theorem unpack_bad (c : Int) (l : List UInt8) (v : Value) (w : World) (h : BytesV w v l) (hu : up l = some c) (hl : l.length ≤ 1000000) :
    Calls Tryd.prog 31 #[v] w fun e w' => ∃ b : Nat, e = .returned (.tuple #[.int .u8 0, .slice none 0 0, .iface 68 (.pointer (some ⟨b, 0, none⟩))]) ∧ w'.cell? ⟨b, 0, none⟩ = some (.int .i64 c) ∧ Below w.heap.size w w' := by
  refine (unpack_any _ v w h (by omega)).mono fun e w' ht => ?_
  obtain ⟨h1, _, h3⟩ := ht
  obtain ⟨v', he, b, rfl, hc⟩ := h1 c hu
  exact ⟨b, he, hc, h3⟩

theorem nil_sum (w : World) : Calls Tryd.prog 33 #[.slice none 0 0] w fun e w' => e = .returned (.int .u32 1) ∧ w' = w := sum_any [] (.slice none 0 0) w (bytesV_nil _ _ _) (by decide)
theorem ab_tells (v : Value) (w : World) (h : BytesV w v (parcel 7 [97, 98])) :
    Calls Tryd.prog 31 #[v] w fun e w' => ∃ v', e = .returned (.tuple #[.int .u8 7, v', .nilIface]) ∧ w'.ownsRow w.heap.size 5 1 v' 2 (Lib.byteCells [97, 98]) ∧ Below w.heap.size w w' := unpack_parcel 7 [97, 98] v w h (by decide)
theorem ab_pack (w : World) :
    Calls Tryd.prog 30 #[.int .u8 7, .slice (some ⟨w.heap.size, 0, none⟩) 2 2] (w.alloc (.cells #[.int .u8 97, .int .u8 98] 5 (2, 3))) fun e w' => ∃ v', e = .returned v' ∧ BytesV w' v' (parcel 7 [97, 98]) ∧ Below w.heap.size w w' := by
  have hf := frow w #[.int .u8 97, .int .u8 98] [97, 98] (2, 3) rfl
  refine (pack_any 7 [97, 98] _ _ hf (by decide)).mono fun e w' h => ?_
  obtain ⟨v', he, ho, hb⟩ := h
  refine ⟨v', he, own_bytesV ho, ((Below.refl _ _).alloc (Nat.le_refl _) _).trans (hb.mono (by simp))⟩

set_option maxRecDepth 100000 in
set_option maxHeartbeats 4000000 in
theorem alive_ok (w : World) (hg : ErrT w) :
    Calls Tryd.prog 8 #[] w fun e w' => e = .returned (.bool true) ∧ Below w.heap.size w w' := by
  have kc := fun (w : World) (C : Array Value) (n c : Nat) => Lib.run_convert_bytes_const (P := Tryd.prog) w 27 5 C n c Tryd.underlying27 Tryd.underlying5
  have P1 := Lib.hid (ab_pack w)
  have HG := Lib.hid hg
  clear hg
  go_enter Tryd.func8, Tryd.ntmps8
  go_wp2_with fail
  refine P1.out.mono ?_; rintro e w1 ⟨v1, rfl, hv1, hb1⟩
  have U1 := Lib.hid (ab_tells v1 w1 hv1)
  have HB1 := Lib.hid hb1
  clear hv1 hb1
  go_wp2_with fail
  refine U1.out.mono ?_; rintro e w2 ⟨v2, rfl, ho2, hb2⟩
  obtain ⟨A2, c2, rfl⟩ := own_form ho2
  have HB2 := Lib.hid (HB1.out.trans (hb2.mono HB1.out.size))
  have HV2 := Lib.hid (own_bytesV ho2)
  have U2 := Lib.hid (unpack_bad 2 [70, 87, 82, 88] _ _ (frow w2 #[.int .u8 70, .int .u8 87, .int .u8 82, .int .u8 88] [70, 87, 82, 88] (4, 5) rfl) bad_mark (by decide))
  have hbA : Below w2.heap.size w2 (w2.alloc (.cells #[.int .u8 70, .int .u8 87, .int .u8 82, .int .u8 88] 5 (4, 5))) := (Below.refl _ _).alloc (Nat.le_refl _) _
  have HBA := Lib.hid hbA
  clear ho2 hb2 hbA
  go_wp2_with fail
  refine U2.out.mono ?_; rintro e w3 ⟨b3, rfl, hc3, hb3⟩
  have hb23 : Below w2.heap.size w2 w3 := HBA.out.trans (hb3.mono HBA.out.size)
  have hv3 := HV2.out.below hb23 (Nat.le_refl _)
  have HB3 := Lib.hid (HB2.out.trans (hb23.mono HB2.out.size))
  have hg3 : ErrT w3 := HG.out.below HB3.out (Nat.le_refl _)
  obtain ⟨_, _, b, off, rfl, hcc⟩ := hv3.cells (by decide)
  have kb := run_convert_bytes_back (P := Tryd.prog) w3 27 9 5 ⟨b, off, none⟩ c2 [97, 98] Tryd.underlying27 Tryd.underlying5 Tryd.underlying9 (fun j hj => by
    have e2 : (⟨b, off, none⟩ : Addr).add j = ⟨b, off + j, none⟩ := by unfold Addr.add; split <;> simp_all
    rw [e2, hcc j hj]
    match j, hj with
    | 0, _ => rfl
    | 1, _ => rfl)
  obtain ⟨s, hs⟩ : ∃ s : ByteArray, (⟨([97, 98] : List UInt8).toArray⟩ : ByteArray) = s := ⟨_, rfl⟩
  rw [hs, show ([97, 98] : List UInt8).length = 2 from rfl] at kb
  have t2 : (s.toList == [97, 98]) = true := by
    rw [← hs, ByteArray.toList_mk]
    rfl
  have S1 := Lib.hid (nil_sum w3)
  clear hs
  have C1 := Lib.hid (code_hit b3 2 w3 hg3 hc3)
  clear hb3 hc3 hcc hv3 hb23 hg3
  go_wp2_with fail
  refine S1.out.mono ?_; rintro e w4 ⟨rfl, rfl⟩
  go_wp2_with fail
  refine C1.out.mono ?_; rintro e w5 ⟨rfl, hb5⟩
  have HB5 := Lib.hid hb5
  clear hb5
  go_wp2_with fail
  go_ret
  exact ⟨rfl, HB3.out.trans (HB5.out.mono HB3.out.size)⟩
end Go.Proofs.YtkpoeahnlldpgaaDoor
