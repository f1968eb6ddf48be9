/- The document's answer for layer 3: Sum, Word, Parcel, Same. The document's parcel. Layer 3: the chapter's example. An argument of a row as a walk takes it: a slice of integers. Layer 3: what WireParcels needs besides: a byte stored, xor, arguments of bytes. Layer 3: a slice of items; what far tells of it. Layer 3: what put puts, and the document's Put. Layer 3: the document's Put. wire.Reader: what is told behind an error; List; a reader and a writer that are nil. A Reader's List, whatever stands there. -/
import Derived.Test.YtnjkjgmnnmgngaaGreatDoorJ8
import Derived.Deep.QuietTactic
import Derived.Test.YtnjkjgmnnmgngaaGreatDoorJ2
import Derived.Test.YtnjkjgmnnmgngaaGreatDoorProg
import Derived.ProofKit
import Derived.OpenShut
import Derived.WalkKit
import Derived.Test.YtnjkjgmnnmgngaaGreatDoorJ10
import Derived.Deep.Slices
import Derived.Deep.Fields
import Derived.ChangeSame
namespace Go.Proofs.YtnjkjgmnnmgngaaGreatDoor
section
open Go.RowKit

set_option maxRecDepth 100000 in
set_option maxHeartbeats 1000000 in
theorem refSum_any (l : List UInt8) (v : Value) (w : World) (h : BytesV w v l) (hl : l.length ≤ 1000000000) :
    Calls Tryz.prog 50 #[v] w fun e w' => e = .returned (.int .i64 (asum l : Nat)) ∧ w' = w := by
  obtain ⟨A, c, rfl, _⟩ := h.form
  have H := Lib.hid h
  clear h
  go_enter Tryz.func50, Tryz.ntmps50
  go_wp2
  go_loopg [3, 4, 5] l.length (fun g x y z wr => ∃ k, k ≤ l.length ∧ g = l.length - k ∧ x = .int .i64 ((halves (l.take k)).1 : Nat) ∧ y = .int .i64 ((halves (l.take k)).2 : Nat) ∧ z = .int .i64 (k : Nat) ∧ wr = w)
  case atStart => exact ⟨0, by omega, rfl, rfl, rfl, rfl, rfl⟩
  case round =>
    obtain ⟨k, hk, rfl, rfl, rfl, rfl, rfl⟩ := hrel
    obtain ⟨X, hX⟩ : ∃ X, (halves (l.take k)).1 = X := ⟨_, rfl⟩
    obtain ⟨Y, hY⟩ : ∃ Y, (halves (l.take k)).2 = Y := ⟨_, rfl⟩
    have hb := halves_lt _ (l.take k) rfl
    rw [hX, hY] at hb ⊢
    obtain ⟨hX1, hY1⟩ := hb
    by_cases hlt : k < l.length
    · obtain ⟨b, off, rfl, hc⟩ := H.out.at_ hlt
      obtain ⟨z, hz⟩ : ∃ z : Nat, (l.getD k 0).toNat = z := ⟨_, rfl⟩
      have hz1 := UInt8.toNat_lt (l.getD k 0)
      rw [hz] at hc hz1
      have hnext : halves (l.take (k + 1)) = ((X + z) % 65521, (Y + (X + z) % 65521) % 65521) := by rw [take_snoc' l hlt, halves_snoc, hX, hY, hz]
      have HN := Lib.hid hnext
      have t1 : decide (k < l.length) = true := decide_eq_true hlt
      have i0' : (0 : Int) ≤ k := by omega
      have i1' : (k : Int) < l.length := by omega
      have HLT := Lib.hid hlt
      clear hz hX hY hnext
      go_wp2
      go_roundg (l.length - (k + 1))
      case rel => exact ⟨k + 1, HLT.out, rfl, by rw [HN.out]; simp, by rw [HN.out]; simp, by go_num, rfl⟩
      case measure => have := HLT.out; omega
    · obtain rfl : k = l.length := by omega
      have t1 : decide (l.length < l.length) = false := by simp
      have HS : Hid (asum l = Y * 65536 + X) := Lib.hid (by rw [List.take_length] at hX hY; unfold asum; rw [hX, hY])
      clear hX hY
      go_wp2
      go_ret
      exact ⟨by rw [HS.out, Nat.mul_comm]; rfl, rfl⟩

/-- Two lists of bytes that are the same. -/
theorem refSame_true (l : List UInt8) (v u : Value) (w : World) (h : BytesV w v l) (k : BytesV w u l) (hl : l.length ≤ 1000000000) :
    Calls Tryz.prog 18 #[v, u] w fun e w' => e = .returned (.bool true) ∧ ∃ d, w' = w.drewN d := by
  obtain ⟨A, c, rfl, _⟩ := h.form
  obtain ⟨B, c', rfl, _⟩ := k.form
  have H := Lib.hid h
  have K := Lib.hid k
  have t0 : ((l.length : Int) != l.length) = false := by simp
  clear h k
  go_enter Tryz.func18, Tryz.ntmps18
  go_wp2
  go_loopg [5] l.length (fun g z wr => ∃ k, k ≤ l.length ∧ g = l.length - k ∧ z = .int .i64 (k : Nat) ∧ ∃ d, wr = w.drewN d)
  case atStart => exact ⟨0, by omega, rfl, rfl, 0, rfl⟩
  case round =>
    obtain ⟨k, hk, rfl, rfl, d, rfl⟩ := hrel
    by_cases hlt : k < l.length
    · obtain ⟨b, off, rfl, hc⟩ := H.out.at_ hlt
      obtain ⟨b', off', rfl, hc'⟩ := K.out.at_ hlt
      obtain ⟨z, hz⟩ : ∃ z : Int, ((l.getD k 0).toNat : Int) = z := ⟨_, rfl⟩
      rw [hz] at hc hc'
      have t1 : decide (k < l.length) = true := decide_eq_true hlt
      have i0' : (0 : Int) ≤ k := by omega
      have i1' : (k : Int) < l.length := by omega
      have t2 : (z != z) = false := by simp
      have HLT := Lib.hid hlt
      clear hz
      go_wp2
      go_quiet (fail)
      go_wp2
      go_roundg (l.length - (k + 1))
      case rel => exact ⟨k + 1, HLT.out, rfl, by go_num, _, rfl⟩
      case measure => have := HLT.out; omega
    · obtain rfl : k = l.length := by omega
      have t1 : decide (l.length < l.length) = false := by simp
      go_wp2
      go_ret
      exact ⟨rfl, _, rfl⟩

def wordCells (n : Nat) : Array Value := #[.int .u8 ((UInt8.ofNat (n / 16777216)).toNat : Int), .int .u8 ((UInt8.ofNat (n / 65536)).toNat : Int), .int .u8 ((UInt8.ofNat (n / 256)).toNat : Int), .int .u8 ((UInt8.ofNat n).toNat : Int)]
theorem word_bytes (w : World) (n : Nat) : BytesV (w.alloc (.cells (wordCells n) 5)) (.slice (some ⟨w.heap.size, 0, none⟩) 4 4) (be 4 n) := by
  refine ⟨_, 4, by rw [be_len], by rw [be_len]; omega, fun h => ⟨w.heap.size, 0, rfl, fun i hi => ?_⟩⟩
  rw [be_len] at hi
  have hn := (Whole.new w 5 (wordCells n)).cell (0 + i)
  rw [hn]
  match i, hi with
  | 0, _ => simp [wordCells, be]
  | 1, _ => simp [wordCells, be]
  | 2, _ => simp [wordCells, be]
  | 3, _ => simp [wordCells, be]
set_option maxRecDepth 100000 in
theorem refWord_any (n : Nat) (w : World) (hn : n < 4294967296) :
    Calls Tryz.prog 49 #[.int .i64 (n : Nat)] w fun e w' => ∃ v', e = .returned v' ∧ BytesV w' v' (be 4 n) ∧ Below w.heap.size w w' := by
  have hb := Lib.hid (word_bytes w n)
  have e3 : Hid ((UInt8.ofNat (n / 16777216)).toNat = n / 16777216 % 256) := Lib.hid (by simp)
  have e2 : Hid ((UInt8.ofNat (n / 65536)).toNat = n / 65536 % 256) := Lib.hid (by simp)
  have e1 : Hid ((UInt8.ofNat (n / 256)).toNat = n / 256 % 256) := Lib.hid (by simp)
  have e0 : Hid ((UInt8.ofNat n).toNat = n % 256) := Lib.hid (by simp)
  unfold wordCells at hb
  rw [e3.out, e2.out, e1.out, e0.out] at hb
  go_enter Tryz.func49, Tryz.ntmps49
  go_wp2
  go_ret
  exact ⟨_, rfl, hb.out, (Below.refl _ _).alloc (Nat.le_refl _) _⟩
end

section
open Go.RowKit

set_option maxRecDepth 100000 in
set_option maxHeartbeats 4000000 in
theorem refParcel_any (k : UInt8) (l : List UInt8) (v : Value) (w : World) (h : BytesV w v l) (hl : l.length ≤ 90000000) :
    Calls Tryz.prog 21 #[.int .u8 (k.toNat : Int), v] w fun e w' => ∃ v', e = .returned v' ∧ w'.ownsRow w.heap.size 5 1 v' (l.length + 13) (Lib.byteCells (parcel k l)) ∧ Below w.heap.size w w' := by
  obtain ⟨i0, hi, hz0, hz1, hz2⟩ := info_parts Tryz.infoU8
  obtain ⟨A, c, rfl, _⟩ := h.form
  have H := Lib.hid h
  clear h
  have kc := fun (w : World) (C : Array Value) (n c : Nat) => Lib.run_convert_bytes_const (P := Tryz.prog) w 22 5 C n c Tryz.underlying22 Tryz.underlying5
  go_enter Tryz.func21, Tryz.ntmps21
  go_wp2_with (at_builtin; refine wpList_append_arg _ rfl _ _ 22 rfl 5 i0 (.int .u8 0) 1 1 Tryz.underlying22 hi hz0 hz1 hz2 rfl (by decide) w.heap.size 0 4 4 (Lib.byteCells [70, 87, 82, 75]) rfl rfl ?h1 ⟨w.heap.size + 1, 0, none⟩ 1 1 [.int .u8 (k.toNat : Int)] rfl rfl ?h2 ?h3 (fun h => absurd h (by decide)) (by unfold maxLen; omega) (by decide) (fun h => absurd h (by decide)) ?_)
  case h1 =>
    intro j u hj
    have hh : ((w.alloc (.cells #[.int .u8 70, .int .u8 87, .int .u8 82, .int .u8 75] 5 (4, 5))).alloc (.cells #[.int .u8 (k.toNat : Int)] 5)).heap[w.heap.size]? = some (.cells #[.int .u8 70, .int .u8 87, .int .u8 82, .int .u8 75] 5 (4, 5)) := heap_alloc2_old w _ _
    rw [Nat.zero_add, cell_of_row _ _ j _ _ _ hh, ← hj]
    match j with
    | 0 => rfl
    | 1 => rfl
    | 2 => rfl
    | 3 => rfl
    | n + 4 => rfl
  case h2 =>
    intro j u hj
    match j, hj with
    | 0, hj => simp at hj; subst hj; simp [Addr.add]
  case h3 => intro u hu; simp at hu; subst hu; rfl
  intro v1 w1 hown1 hgrow1
  obtain ⟨A1, c1, rfl⟩ := own_form hown1
  have ho1 : w1.ownsRow w.heap.size 5 1 (.slice A1 5 c1) 5 (Lib.byteCells ([70, 87, 82, 75] ++ [k])) := by
    rw [byteCells_app]
    exact own_mono hown1 (by first | omega | (simp; omega) | simp)
  have hb1 : Below w.heap.size w w1 := (((Below.refl _ _).alloc (Nat.le_refl _) _).alloc (by simp) _).grown hgrow1 (by simp; omega) (fun k hk => by cases hk)
  have W1 := Lib.hid (refWord_any l.length w1 (by omega))
  have HO1 := Lib.hid ho1; have HB1 := Lib.hid hb1
  have hs1 := hb1.size
  clear hown1 hgrow1 ho1 hb1 kc
  go_wp2_with fail
  refine W1.out.mono ?_; rintro e wa ⟨u1, rfl, hu1, hba⟩
  have hoa := own_below HO1.out hba (Nat.le_refl _)
  have hbA : Below w.heap.size w wa := HB1.out.trans (hba.mono hs1)
  have hsa := hbA.size
  have HU1 := Lib.hid hu1; have HOA := Lib.hid hoa; have HBA := Lib.hid hbA
  clear hu1 hoa hbA hba
  go_wp2_with (at_builtin; refine wpList_appBytes _ rfl _ _ 22 rfl w.heap.size i0 Tryz.underlying22 hi hz0 hz1 hz2 _ 5 _ rfl HOA.out _ (be 4 l.length) rfl HU1.out (by rw [be_len]; omega) hsa ?_)
  intro A2 c2 w2 hown2 hgrow2
  have hb2 : Below w.heap.size w w2 := hgrow2.below HOA.out HBA.out (Nat.le_refl _) hsa
  rw [be_len] at hown2
  rw [be_len]
  have HO2 := Lib.hid hown2; have HB2 := Lib.hid hb2
  have hs2 := hb2.size
  clear hown2 hgrow2 hb2
  go_wp2_with (at_builtin; refine wpList_appBytes _ rfl _ _ 22 rfl w.heap.size i0 Tryz.underlying22 hi hz0 hz1 hz2 _ 9 _ rfl HO2.out _ l rfl (H.out.below HB2.out (Nat.le_refl _)) (by omega) hs2 ?_)
  intro A3 c3 w3 hown3 hgrow3
  have ho3 : w3.ownsRow w.heap.size 5 1 (.slice A3 (9 + l.length) c3) (9 + l.length) (Lib.byteCells (phead k l)) := by
    unfold phead
    rw [byteCells_app, byteCells_app]
    exact hown3
  have hb3 : Below w.heap.size w w3 := hgrow3.below HO2.out HB2.out (Nat.le_refl _) hs2
  have hs3 := hb3.size
  have SU := Lib.hid (refSum_any (phead k l) _ w3 (own_bytesV ho3) (by rw [phead_len]; omega))
  have ha := asum_lt (phead k l)
  obtain ⟨s, hs⟩ : ∃ s, asum (phead k l) = s := ⟨_, rfl⟩
  rw [hs] at ha SU
  have W3 := Lib.hid (refWord_any s w3 ha)
  have HO3 := Lib.hid ho3; have HB3 := Lib.hid hb3; have HS := Lib.hid hs
  clear hown3 hgrow3 ho3 hb3 hs
  go_wp2_with fail
  refine SU.out.mono ?_; rintro e w4 ⟨rfl, rfl⟩
  go_wp2_with fail
  refine W3.out.mono ?_; rintro e wb ⟨u3, rfl, hu3, hbb⟩
  have hob := own_below HO3.out hbb (Nat.le_refl _)
  have hbB : Below w.heap.size w wb := HB3.out.trans (hbb.mono hs3)
  have hsb := hbB.size
  have HU3 := Lib.hid hu3; have HOB := Lib.hid hob; have HBB := Lib.hid hbB
  clear hu3 hob hbB hbb
  go_wp2_with (at_builtin; refine wpList_appBytes _ rfl _ _ 22 rfl w.heap.size i0 Tryz.underlying22 hi hz0 hz1 hz2 _ (9 + l.length) _ rfl HOB.out _ (be 4 s) rfl HU3.out (by rw [be_len]; omega) hsb ?_)
  intro A5 c5 w5 hown5 hgrow5
  have hb5 : Below w.heap.size w w5 := hgrow5.below HOB.out HBB.out (Nat.le_refl _) hsb
  rw [be_len] at hown5
  rw [be_len]
  have ho5 : w5.ownsRow w.heap.size 5 1 (.slice A5 (9 + l.length + 4) c5) (l.length + 13) (Lib.byteCells (parcel k l)) := by
    unfold parcel
    rw [byteCells_app, HS.out, show l.length + 13 = 9 + l.length + 4 by omega]
    exact hown5
  have HB5 := Lib.hid hb5; have HO5 := Lib.hid ho5
  clear hown5 hgrow5 hb5 ho5
  go_wp2
  go_ret
  exact ⟨_, rfl, HO5.out, HB5.out⟩
end

section
open Go.RowKit

theorem frow (w : World) (cs : Array Value) (l : List UInt8) (m : Nat × Nat) (h : cs.toList = Lib.byteCells l) : BytesV (w.alloc (.cells cs 5 m)) (.slice (some ⟨w.heap.size, 0, none⟩) l.length l.length) l := by
  refine ⟨_, l.length, rfl, Nat.le_refl _, fun h0 => ⟨w.heap.size, 0, rfl, fun i hi => ?_⟩⟩
  have hh : (w.alloc (.cells cs 5 m)).heap[w.heap.size]? = some (.cells cs 5 m) := heap_alloc_new w _
  rw [Nat.zero_add, cell_of_row _ _ i _ _ _ hh, ← Array.getElem?_toList, h]
  simp [Lib.byteCells, List.getD, hi]
theorem ab_parcel : up (parcel 7 [97, 98]) = none := up_parcel _ _ (by decide)
theorem bad_mark : up [70, 87, 82, 88] = some 2 := by decide

theorem unpack_parcel (k : UInt8) (l : List UInt8) (v : Value) (w : World) (h : BytesV w v (parcel k l)) (hl : l.length ≤ 1000000) :
    Calls Tryz.prog 52 #[v] w fun e w' => ∃ v', e = .returned (.tuple #[.int .u8 (k.toNat : Int), v', .nilIface]) ∧ w'.ownsRow w.heap.size 5 1 v' l.length (Lib.byteCells l) ∧ Below w.heap.size w w' := by
  refine (unpack_any _ v w h (by rw [parcel_len]; omega)).mono fun e w' hu => ?_
  obtain ⟨_, h2, h3⟩ := hu
  obtain ⟨v', he, ho⟩ := h2 (up_parcel k l (by omega))
  rw [parcel_kind] at he
  rw [parcel_body, parcel_len, show l.length + 13 - 13 = l.length by omega] at ho
  exact ⟨v', he, ho, h3⟩
theorem unpack_bad (c : Int) (l : List UInt8) (v : Value) (w : World) (h : BytesV w v l) (hu : up l = some c) (hl : l.length ≤ 1000000) :
    Calls Tryz.prog 52 #[v] w fun e w' => ∃ b : Nat, e = .returned (.tuple #[.int .u8 0, .slice none 0 0, .iface 60 (.pointer (some ⟨b, 0, none⟩))]) ∧ w'.cell? ⟨b, 0, none⟩ = some (.int .i64 c) ∧ Below w.heap.size w w' := by
  refine (unpack_any _ v w h (by omega)).mono fun e w' ht => ?_
  obtain ⟨h1, _, h3⟩ := ht
  obtain ⟨v', he, b, rfl, a, s, hw, _⟩ := h1 c hu
  exact ⟨b, he, by rw [hw.cell 0]; rfl, h3⟩

theorem nil_sum (w : World) : Calls Tryz.prog 61 #[.slice none 0 0] w fun e w' => e = .returned (.int .u32 1) ∧ w' = w := sum_any [] (.slice none 0 0) w (bytesV_nil _ _ _) (by decide)
theorem ab_tells (v : Value) (w : World) (h : BytesV w v (parcel 7 [97, 98])) :
    Calls Tryz.prog 52 #[v] w fun e w' => ∃ v', e = .returned (.tuple #[.int .u8 7, v', .nilIface]) ∧ w'.ownsRow w.heap.size 5 1 v' 2 (Lib.byteCells [97, 98]) ∧ Below w.heap.size w w' := unpack_parcel 7 [97, 98] v w h (by decide)
theorem ab_pack (w : World) :
    Calls Tryz.prog 34 #[.int .u8 7, .slice (some ⟨w.heap.size, 0, none⟩) 2 2] (w.alloc (.cells #[.int .u8 97, .int .u8 98] 5 (2, 3))) fun e w' => ∃ v', e = .returned v' ∧ BytesV w' v' (parcel 7 [97, 98]) ∧ Below w.heap.size w w' := by
  have hf := frow w #[.int .u8 97, .int .u8 98] [97, 98] (2, 3) rfl
  refine (pack_any 7 [97, 98] _ _ hf (by decide)).mono fun e w' h => ?_
  obtain ⟨v', he, ho, hb⟩ := h
  refine ⟨v', he, own_bytesV ho, ((Below.refl _ _).alloc (Nat.le_refl _) _).trans (hb.mono (by simp))⟩
end

section
open Go.ChangeShapes Go.WideShapes Go.RowKit

theorem wf_i64 {n : Int} (h : (Lit.int .i64 n).wf = true) : -9223372036854775808 ≤ n ∧ n ≤ 9223372036854775807 := bounds_i64 h

/-- A slice of int64 (or int) that came in: nil; empty; or numbers in a block. -/
theorem ints_view {P : Program} {H : Type} {enc : TypeId × Value → H} {W : World} {base : Nat} {v : Value} {d : DataW H} {ps : List MemPlace} {t e b0 : Nat} {r : Reach} (ht : P.underlying t = some (.slice e)) (he : P.underlying e = some (.int .i64)) (hc : P.cellsOf e = 1)
    (hv : Value.okWide P W r b0 t v) (h : DataW.Trod enc P W base (fun _ => true) true t v d ps) :
    v = .slice none 0 0 ∨ (∃ (a : Addr) (cap : Nat), v = .slice (some a) 0 cap ∧ cap ≤ 9223372036854775807) ∨
    ∃ (b off len cap : Nat) (Z : Nat → Int), v = .slice (some ⟨b, off, none⟩) len cap ∧ 0 < len ∧ len ≤ cap ∧ cap ≤ 9223372036854775807 ∧ (∀ i, i < len → W.cell? ⟨b, off + i, none⟩ = some (.int .i64 (Z i))) ∧ ∀ i, -9223372036854775808 ≤ Z i ∧ Z i ≤ 9223372036854775807 := by
  obtain ⟨a0, len, cap, rfl⟩ := okWide_slice ht hv
  obtain ⟨fuel, hf⟩ := h
  rcases open_ints ht he hc hf with ⟨hcs, hx⟩ | ⟨a, len', cap', zs, hcs, _, hl, hm, hz, hx, hcell, hwz⟩
  · simp [Value.cells] at hcs
    obtain ⟨rfl, rfl, rfl⟩ := hcs
    exact Or.inl rfl
  · simp [Value.cells] at hcs
    obtain ⟨rfl, rfl, rfl⟩ := hcs
    unfold maxLen at hm
    simp only [if_true] at hz
    rcases Nat.eq_zero_or_pos len with rfl | hpos
    · exact Or.inr (Or.inl ⟨a, cap, rfl, hm⟩)
    · obtain ⟨b, off, spot⟩ := a
      have hspot : spot = none := by simpa [Addr.add] using World.cell?_spot (hcell 0 (by omega))
      subst hspot
      refine Or.inr (Or.inr ⟨b, off, len, cap, fun i => zs.getD i 0, rfl, hpos, hl, hm, fun i hi => by rw [← add_plain]; exact hcell i (by omega), fun i => ?_⟩)
      rcases Nat.lt_or_ge i zs.length with h | h
      · have e1 : zs.getD i 0 = zs[i] := by simp [List.getD, h]
        show -9223372036854775808 ≤ zs.getD i 0 ∧ zs.getD i 0 ≤ 9223372036854775807
        rw [e1]
        exact bounds_i64 (hwz _ (List.getElem_mem h))
      · show -9223372036854775808 ≤ zs.getD i 0 ∧ zs.getD i 0 ≤ 9223372036854775807
        rw [show zs.getD i 0 = 0 by simp [List.getD, h]]
        decide
end

section
open Go.RowKit Go.ChangeShapes Go.WideShapes

theorem xor_byte (x y : UInt8) : bits .xor .u8 (x.toNat : Int) (y.toNat : Int) = ((x ^^^ y).toNat : Int) := by
  have hx := UInt8.toNat_lt x
  have hy := UInt8.toNat_lt y
  have hz := UInt8.toNat_lt (x ^^^ y)
  have h2 : x.toNat ^^^ y.toNat = (x ^^^ y).toNat := (UInt8.toNat_xor x y).symm
  show IntKind.u8.wrap ((BitVec.ofInt 8 (x.toNat : Int) ^^^ BitVec.ofInt 8 (y.toNat : Int)).toNat : Int) = _
  rw [BitVec.toNat_xor, BitVec.ofInt_natCast, BitVec.ofInt_natCast, BitVec.toNat_ofNat, BitVec.toNat_ofNat, Nat.mod_eq_of_lt (by omega), Nat.mod_eq_of_lt (by omega), h2, IntKind.wrap_u8]
  omega

/-- A row of one's own: a byte is stored. -/
theorem own_set {w : World} {base N : Nat} {v : Value} {L : List UInt8} (h : w.ownsRow base 5 1 v N (Lib.byteCells L)) (hN : 0 < N) :
    ∃ b c, v = .slice (some ⟨b, 0, none⟩) N c ∧ base ≤ b ∧ L.length = N ∧ (∀ i, w.frozen? ⟨b, i, none⟩ = false) ∧ (∀ i, i < N → w.cell? ⟨b, i, none⟩ = some (.int .u8 ((L.getD i 0).toNat : Int))) ∧
      ∀ i, i < N → ∀ x : UInt8, BytesV (w.setCell ⟨b, i, none⟩ (.int .u8 (x.toNat : Int))) v (L.set i x) := by
  have hn : L.length = N := by have := h.1; simp [Lib.byteCells] at this; omega
  have h0 := h
  rcases h.2 with ⟨rfl, h1⟩ | ⟨g, cap, cur, rfl, hb, hh, hcap, _, hsz, htake⟩
  · omega
  · have HW : Whole w g 5 cur := hh
    refine ⟨g, cap, rfl, hb, hn, fun i => HW.free i, fun i hi => ?_, fun i hi x => ?_⟩
    · rw [h0.cellAt i (by omega)]
      simp [Lib.byteCells, hn, hi]
    · refine ⟨some ⟨g, 0, none⟩, cap, by rw [List.length_set, hn], by rw [List.length_set, hn]; exact hcap, fun _ => ⟨g, 0, rfl, fun j hj => ?_⟩⟩
      rw [List.length_set] at hj
      rw [(HW.put i _).cell, Nat.zero_add]
      rcases Nat.lt_or_ge j i with hji | hji
      · have hc : cur[j]? = some (.int .u8 ((L.getD j 0).toNat : Int)) := by
          rw [← HW.cell j, h0.cellAt j (by omega)]
          simp [Lib.byteCells, hj]
        rw [Array.getElem?_setIfInBounds_ne (by omega), hc]
        simp [List.getD, List.getElem?_set_ne (show i ≠ j by omega)]
      · rcases Nat.eq_or_lt_of_le hji with e | hji
        · subst e
          rw [Array.getElem?_setIfInBounds_self_of_lt (by omega)]
          simp [List.getD, hj]
        · have hc : cur[j]? = some (.int .u8 ((L.getD j 0).toNat : Int)) := by
            rw [← HW.cell j, h0.cellAt j (by omega)]
            simp [Lib.byteCells, hj]
          rw [Array.getElem?_setIfInBounds_ne (by omega), hc]
          simp [List.getD, List.getElem?_set_ne (show i ≠ j by omega)]

/-- A slice of bytes that came in. -/
theorem bytes_view {P : Program} {H : Type} {enc : TypeId × Value → H} {W : World} {base : Nat} {v : Value} {d : DataW H} {ps : List MemPlace} {t e b0 : Nat} {r : Reach} (ht : P.underlying t = some (.slice e)) (he : P.underlying e = some (.int .u8)) (hc : P.cellsOf e = 1)
    (hv : Value.okWide P W r b0 t v) (h : DataW.Trod enc P W base (fun _ => true) true t v d ps) :
    ∃ l : List UInt8, BytesV W v l := by
  obtain ⟨a0, len, cap, rfl⟩ := okWide_slice ht hv
  obtain ⟨fuel, hf⟩ := h
  rcases open_ints ht he hc hf with ⟨hcs, hx⟩ | ⟨a, len', cap', zs, hcs, _, hl, hm, hz, hx, hcell, hwz⟩
  · simp [Value.cells] at hcs
    obtain ⟨rfl, rfl, rfl⟩ := hcs
    exact ⟨[], bytesV_nil _ _ _⟩
  · simp [Value.cells] at hcs
    obtain ⟨rfl, rfl, rfl⟩ := hcs
    simp only [if_true] at hz
    refine ⟨((zs.take len).map fun z => UInt8.ofNat z.toNat), some a, cap, by simp; omega, by simp; omega, fun h0 => ?_⟩
    have hlen : ((zs.take len).map fun z => UInt8.ofNat z.toNat).length = len := by simp; omega
    rw [hlen] at h0 ⊢
    obtain ⟨b, off, spot⟩ := a
    have hspot : spot = none := by simpa [Addr.add] using World.cell?_spot (hcell 0 (by omega))
    subst hspot
    refine ⟨b, off, rfl, fun i hi => ?_⟩
    rw [← add_plain, hcell i (by omega)]
    have hi2 : i < zs.length := by omega
    have hw := hwz _ (List.getElem_mem hi2)
    have hb := bounds_u8 hw
    simp [List.getD, hi2, hi]
    omega
theorem view_u8 {n : Int} (h : (Lit.int .u8 n).wf = true) : ∃ k : UInt8, n = (k.toNat : Int) := by
  have hb := bounds_u8 h
  refine ⟨UInt8.ofNat n.toNat, ?_⟩
  simp
  omega
theorem view_u16 {n : Int} (h : (Lit.int .u16 n).wf = true) : ∃ k : Nat, n = (k : Int) ∧ k < 65536 := by
  have hb := bounds_u16 h
  exact ⟨n.toNat, by omega, by omega⟩
end

section
open Go.RowKit Go.ChangeShapes Go.WideShapes Go.Deep

/-- An item: its kind, number, text, and list. -/
structure ItemR where
  K : Int
  N : Int
  S : ByteArray
  u : Value
  li : Nat
  Z : Nat → Int

/-- A slice of n items in a world. -/
def ItemsV (w : World) (v : Value) (n : Nat) (I : Nat → ItemR) : Prop :=
  (∀ i, i < n → IntsV w (I i).u (I i).li (I i).Z) ∧
  ((n = 0 ∧ ∃ (ao : Option Addr) (cap : Nat), v = .slice ao 0 cap) ∨ (0 < n ∧ ∃ b off cap : Nat, v = .slice (some ⟨b, off, none⟩) n cap ∧ ∀ i, i < n →
    w.cell? ⟨b, off + i * 4, none⟩ = some (.int .i64 (I i).K) ∧ w.cell? ⟨b, off + i * 4 + 1, none⟩ = some (.int .i64 (I i).N) ∧ w.cell? ⟨b, off + i * 4 + 2, none⟩ = some (.string (I i).S) ∧ w.cell? ⟨b, off + i * 4 + 3, none⟩ = some (I i).u))
theorem ItemsV.below {w w' : World} {v : Value} {n : Nat} {I : Nat → ItemR} (h : ItemsV w v n I) {B : Nat} (hb : Below B w w') (hB : w.heap.size ≤ B) : ItemsV w' v n I := by
  refine ⟨fun i hi => (h.1 i hi).below hb hB, ?_⟩
  rcases h.2 with h | ⟨h0, b, off, cap, rfl, hc⟩
  · exact Or.inl h
  · refine Or.inr ⟨h0, b, off, cap, rfl, fun i hi => ?_⟩
    have hl : b < B := Nat.lt_of_lt_of_le (World.block_lt_of_cell? _ _ (hc i hi).1) hB
    obtain ⟨c0, c1, c2, c3⟩ := hc i hi
    exact ⟨(hb.cell (p := ⟨b, off + i * 4, none⟩) hl).trans c0, (hb.cell (p := ⟨b, off + i * 4 + 1, none⟩) hl).trans c1, (hb.cell (p := ⟨b, off + i * 4 + 2, none⟩) hl).trans c2, (hb.cell (p := ⟨b, off + i * 4 + 3, none⟩) hl).trans c3⟩
theorem ItemsV.form {w : World} {v : Value} {n : Nat} {I : Nat → ItemR} (h : ItemsV w v n I) : ∃ A c, v = .slice A n c := by
  rcases h.2 with ⟨rfl, A, c, rfl⟩ | ⟨_, b, off, c, rfl, _⟩
  · exact ⟨_, _, rfl⟩
  · exact ⟨_, _, rfl⟩
theorem ItemsV.pos {w : World} {A : Option Addr} {c n : Nat} {I : Nat → ItemR} (h : ItemsV w (.slice A n c) n I) {i : Nat} (hi : i < n) : ∃ b off, A = some ⟨b, off, none⟩ ∧
    w.cell? ⟨b, off + i * 4, none⟩ = some (.int .i64 (I i).K) ∧ w.cell? ⟨b, off + i * 4 + 1, none⟩ = some (.int .i64 (I i).N) ∧ w.cell? ⟨b, off + i * 4 + 2, none⟩ = some (.string (I i).S) ∧ w.cell? ⟨b, off + i * 4 + 3, none⟩ = some (I i).u := by
  rcases h.2 with ⟨rfl, _⟩ | ⟨_, b, off, c, e, hc⟩
  · omega
  · injection e with e1 e2 e3
    exact ⟨b, off, e1, hc i hi⟩

/-- Is an item more than is looked at? -/
def far1 (x : ItemR) : Bool := decide (200 < x.S.size) || decide (60 < x.li) || decide (x.K < 0) || decide (3 < x.K)
def farB (I : Nat → ItemR) : Nat → Bool
  | 0 => false
  | k + 1 => farB I k || far1 (I k)
theorem farB_of {I : Nat → ItemR} {k : Nat} (h : far1 (I k) = true) : ∀ n, k < n → farB I n = true
  | 0, hn => by omega
  | n + 1, hn => by
    rcases Nat.lt_or_ge k n with h1 | h1
    · simp [farB, farB_of h n h1]
    · obtain rfl : k = n := by omega
      simp [farB, h]
theorem farB_no {I : Nat → ItemR} : ∀ {n : Nat}, farB I n = false → ∀ k, k < n → far1 (I k) = false
  | 0, _, k, hk => by omega
  | n + 1, h, k, hk => by
    simp [farB] at h
    rcases Nat.lt_or_ge k n with h1 | h1
    · exact farB_no h.1 k h1
    · obtain rfl : k = n := by omega
      exact h.2
theorem far1_no {x : ItemR} (h : far1 x = false) : x.S.size ≤ 200 ∧ x.li ≤ 60 ∧ 0 ≤ x.K ∧ x.K ≤ 3 := by
  simp [far1] at h
  omega
/-- Are n items more than are looked at? -/
def farN (I : Nat → ItemR) (n : Nat) : Bool := decide (40 < n) || farB I n
theorem farN_no {I : Nat → ItemR} {n : Nat} (h : farN I n = false) : n ≤ 40 ∧ ∀ k, k < n → (I k).S.size ≤ 200 ∧ (I k).li ≤ 60 ∧ 0 ≤ (I k).K ∧ (I k).K ≤ 3 := by
  simp [farN] at h
  exact ⟨h.1, fun k hk => far1_no (farB_no h.2 k hk)⟩
end

section
open Go.RowKit

/-- An item's bytes, and the first number that can't be. -/
def itemB (x : ItemR) : List UInt8 := if x.K = 0 then numB x.N else if x.K = 1 then be 8 (x.N % 18446744073709551616).toNat else if x.K = 2 then be 4 x.S.size ++ x.S.data.toList else be 4 x.li ++ numsB x.Z x.li
def itemE (E : Option Nat) (x : ItemR) (at_ : Nat) : Option Nat := if x.K = 0 then numE E x.N at_ else if x.K = 1 then E else if x.K = 2 then E else numsE x.Z E (at_ + 4) x.li
def itemsB (I : Nat → ItemR) : Nat → List UInt8
  | 0 => []
  | k + 1 => itemsB I k ++ itemB (I k)
def itemsE (I : Nat → ItemR) : Nat → Option Nat
  | 0 => none
  | k + 1 => itemE (itemsE I k) (I k) (itemsB I k).length
/-- Items that are looked at. -/
def FarOk (I : Nat → ItemR) (n : Nat) : Prop := n ≤ 40 ∧ ∀ k, k < n → (I k).S.size ≤ 200 ∧ (I k).li ≤ 60 ∧ 0 ≤ (I k).K ∧ (I k).K ≤ 3
theorem bsz (s : ByteArray) : s.data.toList.length = s.size := by rw [Array.length_toList]; rfl
theorem itemB_len (x : ItemR) (h : x.S.size ≤ 200 ∧ x.li ≤ 60 ∧ 0 ≤ x.K ∧ x.K ≤ 3) : (itemB x).length ≤ 244 := by
  unfold itemB
  split
  · rw [numB_len]; omega
  · split
    · rw [be_len]; omega
    · split
      · rw [List.length_append, be_len, bsz]; omega
      · rw [List.length_append, be_len, numsB_len]; omega
theorem itemsB_len {I : Nat → ItemR} {n : Nat} (h : FarOk I n) : ∀ k, k ≤ n → (itemsB I k).length ≤ 244 * k
  | 0, _ => by simp [itemsB]
  | k + 1, hk => by
    have h1 := itemsB_len h k (by omega)
    have h2 := itemB_len (I k) (h.2 k (by omega))
    simp only [itemsB, List.length_append]
    omega
end

section
open Go.RowKit

set_option maxRecDepth 100000 in
theorem refFits_any (n : Int) (w : World) :
    Calls Tryz.prog 48 #[.int .i64 n] w fun e w' => e = .returned (.bool (fitsN n)) ∧ w' = w := by
  by_cases h1 : 0 ≤ n
  · have t1 : decide (0 ≤ n) = true := decide_eq_true h1
    by_cases h2 : n ≤ 4294967295
    · have t2 : decide (n ≤ 4294967295) = true := decide_eq_true h2
      have hF : Hid (fitsN n = true) := Lib.hid (decide_eq_true ⟨h1, h2⟩)
      clear h1 h2
      go_enter Tryz.func48, Tryz.ntmps48
      go_wp2
      go_ret
      exact ⟨by rw [hF.out]; rfl, rfl⟩
    · have t2 : decide (n ≤ 4294967295) = false := decide_eq_false h2
      have hF : Hid (fitsN n = false) := Lib.hid (decide_eq_false (by omega))
      clear h1 h2
      go_enter Tryz.func48, Tryz.ntmps48
      go_wp2
      go_ret
      exact ⟨by rw [hF.out]; rfl, rfl⟩
  · have t1 : decide (0 ≤ n) = false := decide_eq_false h1
    have hF : Hid (fitsN n = false) := Lib.hid (decide_eq_false (by omega))
    clear h1
    go_enter Tryz.func48, Tryz.ntmps48
    go_wp2
    go_ret
    exact ⟨by rw [hF.out]; rfl, rfl⟩
theorem refWord_int (n : Int) (m : Nat) (w : World) (hn : n = m) (hm : m < 4294967296) :
    Calls Tryz.prog 49 #[.int .i64 n] w fun e w' => ∃ v', e = .returned v' ∧ BytesV w' v' (be 4 m) ∧ Below w.heap.size w w' := by
  subst hn
  exact refWord_any m w hm

def badI : Option Nat → Int
  | none => -1
  | some p => (p : Int)
/-- The document's bytes so far, and the place of the first number that can't be. -/
def RefSt (w wr : World) (b bad : Value) (L : List UInt8) (E : Option Nat) : Prop :=
  ∃ A c, b = .slice A L.length c ∧ bad = .int .i64 (badI E) ∧ wr.ownsRow w.heap.size 5 1 (.slice A L.length c) L.length (Lib.byteCells L) ∧ Below w.heap.size w wr
theorem refSt_mk {w wr : World} {A : Option Addr} {c m' : Nat} {bad : Int} {L' : List UInt8} {E : Option Nat} {xs : List Value} (hm : L'.length = m') (hx : xs = Lib.byteCells L') (hbad : bad = badI E) (hown : wr.ownsRow w.heap.size 5 1 (.slice A m' c) m' xs) (hb : Below w.heap.size w wr) : RefSt w wr (.slice A m' c) (.int .i64 bad) L' E := by
  subst hm hx hbad
  exact ⟨A, c, rfl, rfl, hown, hb⟩
theorem be8_halves (M : Nat) : be 8 M = be 4 (M / 4294967296) ++ be 4 (M % 4294967296) := by
  have h1 : be (4 + 4) M = be 4 (M / 256 ^ 4) ++ be 4 M := be_app 4 4 M
  have h2 : be 4 (num (be 4 M)) = be 4 M := be_num 4 _ (be_len _ _)
  rw [num_be] at h2
  have e : (256 : Nat) ^ 4 = 4294967296 := by decide
  rw [e] at h1 h2
  rw [h2]
  exact h1

set_option maxRecDepth 100000 in
set_option maxHeartbeats 8000000 in
theorem refPut_any (n : Nat) (I : Nat → ItemR) (v : Value) (w : World) (h : ItemsV w v n I) (hf : FarOk I n) :
    Calls Tryz.prog 20 #[v] w fun e w' => ∃ v', e = .returned (.tuple #[v', .int .i64 (badI (itemsE I n))]) ∧ w'.ownsRow w.heap.size 5 1 v' (itemsB I n).length (Lib.byteCells (itemsB I n)) ∧ Below w.heap.size w w' := by
  obtain ⟨i0, hi, hz0, hz1, hz2⟩ := info_parts Tryz.infoU8
  obtain ⟨A, c, rfl⟩ := h.form
  have H := Lib.hid h; have HF := Lib.hid hf
  clear h hf
  go_enter Tryz.func20, Tryz.ntmps20
  go_wp2_with fail
  go_loopg [4, 5, 6] n (fun g b bad i wr => ∃ k, k ≤ n ∧ g = n - k ∧ i = .int .i64 (k : Nat) ∧ RefSt w wr b bad (itemsB I k) (itemsE I k))
  case atStart => exact ⟨0, by omega, rfl, rfl, none, 0, rfl, rfl, World.ownsRow_nil _ _ _ _, Below.refl _ _⟩
  case round =>
    obtain ⟨k, hk, rfl, rfl, A1, c1, rfl, rfl, ho, hb⟩ := hrel
    by_cases hlt : k < n
    · have hlen := itemsB_len HF.out k hk
      have hn40 := HF.out.1
      obtain ⟨f1, f2, f3, f4⟩ := HF.out.2 k hlt
      obtain ⟨b, off, rfl, d0, d1, d2, d3⟩ := H.out.pos hlt
      have hbl : b < w.heap.size := World.block_lt_of_cell? _ _ d0
      have hu := H.out.1 k hlt
      obtain ⟨A', c', hform⟩ := hu.form
      have hLL : (itemsB I k).length ≤ 9760 := by omega
      have hB1 : itemsB I (k + 1) = itemsB I k ++ itemB (I k) := rfl
      have hE1 : itemsE I (k + 1) = itemE (itemsE I k) (I k) (itemsB I k).length := rfl
      obtain ⟨L, hL⟩ : ∃ L, itemsB I k = L := ⟨_, rfl⟩
      obtain ⟨E, hE⟩ : ∃ E, itemsE I k = E := ⟨_, rfl⟩
      rw [hL] at ho hLL hB1 hE1 ⊢
      rw [hE] at hE1 ⊢
      have i1 : (k : Int) < n := by omega
      have i2 : (0 : Int) ≤ k := by omega
      have HLT := Lib.hid hlt
      have HB := Lib.hid hb
      have hBB : itemB (I k) = if (I k).K = 0 then numB (I k).N else if (I k).K = 1 then be 8 ((I k).N % 18446744073709551616).toNat else if (I k).K = 2 then be 4 (I k).S.size ++ (I k).S.data.toList else be 4 (I k).li ++ numsB (I k).Z (I k).li := rfl
      have hEE : itemE E (I k) L.length = if (I k).K = 0 then numE E (I k).N L.length else if (I k).K = 1 then E else if (I k).K = 2 then E else numsE (I k).Z E (L.length + 4) (I k).li := rfl
      rw [hBB] at hB1
      rw [hEE] at hE1
      rw [hform] at hu d3
      obtain ⟨K, hK⟩ : ∃ K, (I k).K = K := ⟨_, rfl⟩
      obtain ⟨N, hN⟩ : ∃ N, (I k).N = N := ⟨_, rfl⟩
      obtain ⟨S, hS⟩ : ∃ S, (I k).S = S := ⟨_, rfl⟩
      obtain ⟨li, hli⟩ : ∃ li, (I k).li = li := ⟨_, rfl⟩
      obtain ⟨Z, hZ⟩ : ∃ Z, (I k).Z = Z := ⟨_, rfl⟩
      rw [hK, hN, hS, hli, hZ] at hB1
      rw [hK, hN, hli, hZ] at hE1
      rw [hK] at d0 f3 f4
      rw [hN] at d1
      rw [hS] at d2 f1
      rw [hli] at d3 hu f2
      rw [hZ] at hu
      obtain ⟨m, hm⟩ : ∃ m, L.length = m := ⟨_, rfl⟩
      rw [hm] at ho hLL hE1 ⊢
      have HM := Lib.hid hm; have HO := Lib.hid ho; have HU := Lib.hid hu
      have hsz : w.heap.size ≤ wr.heap.size := hb.size
      have hcc : ∀ w', Below w.heap.size w w' → w'.cell? ⟨b, off + k * 4, none⟩ = some (.int .i64 K) ∧ w'.cell? ⟨b, off + k * 4 + 1, none⟩ = some (.int .i64 N) ∧ w'.cell? ⟨b, off + k * 4 + 2, none⟩ = some (.string S) ∧ w'.cell? ⟨b, off + k * 4 + 3, none⟩ = some (.slice A' li c') := fun w' hb' =>
        ⟨(hb'.cell (p := ⟨b, off + k * 4, none⟩) hbl).trans d0, (hb'.cell (p := ⟨b, off + k * 4 + 1, none⟩) hbl).trans d1, (hb'.cell (p := ⟨b, off + k * 4 + 2, none⟩) hbl).trans d2, (hb'.cell (p := ⟨b, off + k * 4 + 3, none⟩) hbl).trans d3⟩
      obtain ⟨c0, c1', c2, c3⟩ := hcc wr hb
      have HCC := Lib.hid hcc
      clear hBB hEE hK hN hS hli hZ hform hL hE hb hlen hlt hm ho hu d0 d1 d2 d3 hcc hbl
      rcases (by omega : K = 0 ∨ K = 1 ∨ K = 2 ∨ K = 3) with rfl | rfl | rfl | rfl
      · rw [if_pos rfl] at hB1 hE1
        by_cases hfit : fitsN N = true
        · have hN : 0 ≤ N ∧ N ≤ 4294967295 := of_decide_eq_true hfit
          unfold numB at hB1
          unfold numE at hE1
          rw [hfit, if_pos rfl] at hB1 hE1
          have HB1 := Lib.hid hB1; have HE1 := Lib.hid hE1
          have F1 := refFits_any N wr
          rw [hfit] at F1
          have HF1 := Lib.hid F1
          have W1 := Lib.hid (refWord_int N N.toNat wr (by omega) (by omega))
          clear hB1 hE1 F1 hfit hN
          go_wp2_with fail
          refine HF1.out.mono ?_; rintro e w1 ⟨rfl, hw1⟩; obtain rfl := hw1.symm
          go_wp2_with fail
          refine W1.out.mono ?_; rintro e w2 ⟨u2, rfl, hu2, hb2⟩
          have ho2 := own_below HO.out hb2 (Nat.le_refl _)
          have hB2 := HB.out.trans (hb2.mono hsz)
          have hs2 := hB2.size
          have HU2 := Lib.hid hu2; have HO2 := Lib.hid ho2; have HB2 := Lib.hid hB2
          clear hu2 hb2 ho2 hB2
          go_wp2_with (at_builtin; refine wpList_appBytes _ rfl _ _ 22 rfl w.heap.size i0 Tryz.underlying22 hi hz0 hz1 hz2 _ m _ rfl HO2.out _ (be 4 N.toNat) rfl HU2.out (by rw [be_len]; omega) hs2 ?_)
          intro A3 c3 w3 hown3 hgrow3
          have hb3 : Below w.heap.size w w3 := hgrow3.below HO2.out HB2.out (Nat.le_refl _) hs2
          rw [be_len] at hown3 ⊢
          have hs3 := hb3.size
          have HR := Lib.hid (refSt_mk (E := itemsE I (k + 1)) (L' := itemsB I (k + 1)) (by rw [HB1.out, List.length_append, be_len, HM.out]) (by rw [HB1.out, byteCells_app]) (by rw [HE1.out]) hown3 hb3)
          clear hown3 hgrow3 hb3
          go_wp2_with fail
          go_roundg (n - (k + 1))
          case rel => exact ⟨k + 1, HLT.out, rfl, by go_num, HR.out⟩
          case measure => have := HLT.out; omega
        · have hfit' : fitsN N = false := by simpa using hfit
          unfold numB at hB1
          unfold numE at hE1
          rw [hfit', if_neg (by decide)] at hB1 hE1
          have F1 := refFits_any N wr
          rw [hfit'] at F1
          have HF1 := Lib.hid F1
          have W1 := Lib.hid (refWord_int 0 0 wr rfl (by omega))
          have HB1 := Lib.hid hB1
          cases E with
          | none =>
            have HE1 : Hid (itemsE I (k + 1) = some m) := Lib.hid hE1
            have tb : decide (badI none < 0) = true := rfl
            have tb2 : badI none = -1 := rfl
            clear hB1 hE1 F1 hfit hfit'
            go_wp2_with fail
            refine HF1.out.mono ?_; rintro e w1 ⟨rfl, hw1⟩; obtain rfl := hw1.symm
            go_wp2_with fail
            refine W1.out.mono ?_; rintro e w2 ⟨u2, rfl, hu2, hb2⟩
            have ho2 := own_below HO.out hb2 (Nat.le_refl _)
            have hB2 := HB.out.trans (hb2.mono hsz)
            have hs2 := hB2.size
            have HU2 := Lib.hid hu2; have HO2 := Lib.hid ho2; have HB2 := Lib.hid hB2
            clear hu2 hb2 ho2 hB2
            go_wp2_with (at_builtin; refine wpList_appBytes _ rfl _ _ 22 rfl w.heap.size i0 Tryz.underlying22 hi hz0 hz1 hz2 _ m _ rfl HO2.out _ (be 4 0) rfl HU2.out (by rw [be_len]; omega) hs2 ?_)
            intro A3 c3 w3 hown3 hgrow3
            have hb3 : Below w.heap.size w w3 := hgrow3.below HO2.out HB2.out (Nat.le_refl _) hs2
            rw [be_len] at hown3 ⊢
            have hs3 := hb3.size
            have HR := Lib.hid (refSt_mk (bad := (m : Int)) (E := itemsE I (k + 1)) (L' := itemsB I (k + 1)) (by rw [HB1.out, List.length_append, be_len, HM.out]) (by rw [HB1.out, byteCells_app]) (by rw [HE1.out]; rfl) hown3 hb3)
            clear hown3 hgrow3 hb3
            go_wp2_with fail
            go_roundg (n - (k + 1))
            case rel => exact ⟨k + 1, HLT.out, rfl, by go_num, HR.out⟩
            case measure => have := HLT.out; omega
          | some p =>
            have HE1 : Hid (itemsE I (k + 1) = some p) := Lib.hid hE1
            have tb2 : badI (some p) = (p : Int) := rfl
            have tb : decide ((p : Int) < 0) = false := decide_eq_false (by omega)
            clear hB1 hE1 F1 hfit hfit'
            rw [tb2]
            go_wp2_with fail
            refine HF1.out.mono ?_; rintro e w1 ⟨rfl, hw1⟩; obtain rfl := hw1.symm
            go_wp2_with fail
            refine W1.out.mono ?_; rintro e w2 ⟨u2, rfl, hu2, hb2⟩
            have ho2 := own_below HO.out hb2 (Nat.le_refl _)
            have hB2 := HB.out.trans (hb2.mono hsz)
            have hs2 := hB2.size
            have HU2 := Lib.hid hu2; have HO2 := Lib.hid ho2; have HB2 := Lib.hid hB2
            clear hu2 hb2 ho2 hB2
            go_wp2_with (at_builtin; refine wpList_appBytes _ rfl _ _ 22 rfl w.heap.size i0 Tryz.underlying22 hi hz0 hz1 hz2 _ m _ rfl HO2.out _ (be 4 0) rfl HU2.out (by rw [be_len]; omega) hs2 ?_)
            intro A3 c3 w3 hown3 hgrow3
            have hb3 : Below w.heap.size w w3 := hgrow3.below HO2.out HB2.out (Nat.le_refl _) hs2
            rw [be_len] at hown3 ⊢
            have hs3 := hb3.size
            have HR := Lib.hid (refSt_mk (bad := (p : Int)) (E := itemsE I (k + 1)) (L' := itemsB I (k + 1)) (by rw [HB1.out, List.length_append, be_len, HM.out]) (by rw [HB1.out, byteCells_app]) (by rw [HE1.out]; rfl) hown3 hb3)
            clear hown3 hgrow3 hb3
            go_wp2_with fail
            go_roundg (n - (k + 1))
            case rel => exact ⟨k + 1, HLT.out, rfl, by go_num, HR.out⟩
            case measure => have := HLT.out; omega
      · rw [if_neg (by decide), if_pos rfl] at hB1 hE1
        obtain ⟨M, hM⟩ : ∃ M, (N % 18446744073709551616).toNat = M := ⟨_, rfl⟩
        have hw1 : IntKind.u64.wrap N = (M : Int) := by rw [IntKind.wrap_u64]; omega
        rw [hM, be8_halves] at hB1
        obtain ⟨q, hq⟩ : ∃ q, M / 4294967296 = q := ⟨_, rfl⟩
        obtain ⟨r, hr⟩ : ∃ r, M % 4294967296 = r := ⟨_, rfl⟩
        have hq1 : q < 4294967296 := by omega
        have hr1 : r < 4294967296 := by omega
        have hqI : (M : Int) / 4294967296 = (q : Int) := by omega
        have hrI : (M : Int) % 4294967296 = (r : Int) := by omega
        rw [hq, hr, ← List.append_assoc] at hB1
        have HB1 := Lib.hid hB1; have HE1 := Lib.hid hE1
        have W1 := Lib.hid (refWord_any q wr hq1)
        clear hB1 hE1 hM hq hr
        go_wp2_with fail
        refine W1.out.mono ?_; rintro e w2 ⟨u2, rfl, hu2, hb2⟩
        have ho2 := own_below HO.out hb2 (Nat.le_refl _)
        have hB2 := HB.out.trans (hb2.mono hsz)
        have hs2 := hB2.size
        have HU2 := Lib.hid hu2; have HO2 := Lib.hid ho2; have HB2 := Lib.hid hB2
        clear hu2 hb2 ho2 hB2
        go_wp2_with (at_builtin; refine wpList_appBytes _ rfl _ _ 22 rfl w.heap.size i0 Tryz.underlying22 hi hz0 hz1 hz2 _ m _ rfl HO2.out _ (be 4 q) rfl HU2.out (by rw [be_len]; omega) hs2 ?_)
        intro A3 c3 w3 hown3 hgrow3
        have hb3 : Below w.heap.size w w3 := hgrow3.below HO2.out HB2.out (Nat.le_refl _) hs2
        rw [be_len] at hown3 ⊢
        have hs3 := hb3.size
        have HO3 := Lib.hid hown3; have HB3 := Lib.hid hb3
        have W3 := Lib.hid (refWord_any r w3 hr1)
        clear hown3 hgrow3 hb3
        go_wp2_with fail
        refine W3.out.mono ?_; rintro e w4 ⟨u4, rfl, hu4, hb4⟩
        have ho4 := own_below HO3.out hb4 (Nat.le_refl _)
        have hB4 := HB3.out.trans (hb4.mono hs3)
        have hs4 := hB4.size
        have HU4 := Lib.hid hu4; have HO4 := Lib.hid ho4; have HB4 := Lib.hid hB4
        clear hu4 hb4 ho4 hB4
        go_wp2_with (at_builtin; refine wpList_appBytes _ rfl _ _ 22 rfl w.heap.size i0 Tryz.underlying22 hi hz0 hz1 hz2 _ (m + 4) _ rfl HO4.out _ (be 4 r) rfl HU4.out (by rw [be_len]; omega) hs4 ?_)
        intro A5 c5 w5 hown5 hgrow5
        have hb5 : Below w.heap.size w w5 := hgrow5.below HO4.out HB4.out (Nat.le_refl _) hs4
        rw [be_len] at hown5 ⊢
        have hs5 := hb5.size
        have HR := Lib.hid (refSt_mk (E := itemsE I (k + 1)) (L' := itemsB I (k + 1)) (by rw [HB1.out, List.length_append, List.length_append, be_len, be_len, HM.out]) (by rw [HB1.out, byteCells_app, byteCells_app, List.append_assoc]) (by rw [HE1.out]) hown5 hb5)
        clear hown5 hgrow5 hb5
        go_wp2_with fail
        go_roundg (n - (k + 1))
        case rel => exact ⟨k + 1, HLT.out, rfl, by go_num, HR.out⟩
        case measure => have := HLT.out; omega
      · rw [if_neg (by decide), if_neg (by decide), if_pos rfl] at hB1 hE1
        rw [← List.append_assoc] at hB1
        have HB1 := Lib.hid hB1; have HE1 := Lib.hid hE1
        have W1 := Lib.hid (refWord_any S.size wr (by omega))
        clear hB1 hE1
        go_wp2_with fail
        refine W1.out.mono ?_; rintro e w2 ⟨u2, rfl, hu2, hb2⟩
        have ho2 := own_below HO.out hb2 (Nat.le_refl _)
        have hB2 := HB.out.trans (hb2.mono hsz)
        have hs2 := hB2.size
        have HU2 := Lib.hid hu2; have HO2 := Lib.hid ho2; have HB2 := Lib.hid hB2
        clear hu2 hb2 ho2 hB2
        go_wp2_with (at_builtin; refine wpList_appBytes _ rfl _ _ 22 rfl w.heap.size i0 Tryz.underlying22 hi hz0 hz1 hz2 _ m _ rfl HO2.out _ (be 4 S.size) rfl HU2.out (by rw [be_len]; omega) hs2 ?_)
        intro A3 c3 w3 hown3 hgrow3
        have hb3 : Below w.heap.size w w3 := hgrow3.below HO2.out HB2.out (Nat.le_refl _) hs2
        rw [be_len] at hown3 ⊢
        have hs3 := hb3.size
        have HO3 := Lib.hid hown3; have HB3 := Lib.hid hb3
        obtain ⟨g0, g1, g2, g3⟩ := HCC.out w3 hb3
        clear hown3 hgrow3 hb3
        go_wp2_with (at_builtin; refine Lib.wpList_append_own_string _ rfl _ _ 22 9 rfl w.heap.size 5 i0 Tryz.underlying22 Tryz.underlying9 hi hz0 hz1 hz2 _ (m + 4) _ rfl HO3.out S rfl (by unfold maxLen; omega) (by omega) hs3 ?_)
        intro v5 w5 hown5 hgrow5 _
        obtain ⟨A5, c5, rfl⟩ := own_form hown5
        have hb5 : Below w.heap.size w w5 := HB3.out.grown hgrow5 hs3 (fun k hk => (HO3.out.lt k hk).1)
        have HR := Lib.hid (refSt_mk (E := itemsE I (k + 1)) (L' := itemsB I (k + 1)) (by rw [HB1.out, List.length_append, List.length_append, be_len, bsz, HM.out]) (by rw [HB1.out, byteCells_app, byteCells_app, List.append_assoc]; rfl) (by rw [HE1.out]) hown5 hb5)
        clear hown5 hgrow5 hb5
        go_wp2_with fail
        go_roundg (n - (k + 1))
        case rel => exact ⟨k + 1, HLT.out, rfl, by go_num, HR.out⟩
        case measure => have := HLT.out; omega
      · rw [if_neg (by decide), if_neg (by decide), if_neg (by decide)] at hB1 hE1
        rw [← List.append_assoc] at hB1
        have HB1 := Lib.hid hB1; have HE1 := Lib.hid hE1
        have W1 := Lib.hid (refWord_any li wr (by omega))
        clear hB1 hE1
        go_wp2_with fail
        refine W1.out.mono ?_; rintro e w2 ⟨u2, rfl, hu2, hb2⟩
        have ho2 := own_below HO.out hb2 (Nat.le_refl _)
        have hB2 := HB.out.trans (hb2.mono hsz)
        have hs2 := hB2.size
        have HU2 := Lib.hid hu2; have HO2 := Lib.hid ho2; have HB2 := Lib.hid hB2
        clear hu2 hb2 ho2 hB2
        go_wp2_with (at_builtin; refine wpList_appBytes _ rfl _ _ 22 rfl w.heap.size i0 Tryz.underlying22 hi hz0 hz1 hz2 _ m _ rfl HO2.out _ (be 4 li) rfl HU2.out (by rw [be_len]; omega) hs2 ?_)
        intro A3 c3 w3 hown3 hgrow3
        have hb3 : Below w.heap.size w w3 := hgrow3.below HO2.out HB2.out (Nat.le_refl _) hs2
        rw [be_len] at hown3 ⊢
        have hs3 := hb3.size
        have HR0 : Hid (RefSt w w3 (.slice A3 (m + 4) c3) (.int .i64 (badI E)) (L ++ be 4 li ++ numsB Z 0) (numsE Z E (m + 4) 0)) := Lib.hid (refSt_mk (by simp only [List.length_append, be_len, numsB_len, HM.out]) (by simp only [numsB, List.append_nil, byteCells_app]) rfl hown3 hb3)
        clear hown3 hgrow3 hb3
        obtain ⟨wo, rfl⟩ : ∃ wo : World, wo = wr := ⟨_, rfl⟩
        go_wp2_with fail
        go_loopg [4, 5, 9] li (fun g b bad y wr => ∃ j, j ≤ li ∧ g = li - j ∧ y = .int .i64 (j : Nat) ∧ RefSt w wr b bad (L ++ be 4 li ++ numsB Z j) (numsE Z E (m + 4) j))
        case atStart => exact ⟨0, by omega, rfl, rfl, HR0.out⟩
        case round =>
          obtain ⟨j, hj, rfl, rfl, A4, c4, rfl, rfl, ho4, hb4⟩ := hrel
          have hlenj : (L ++ be 4 li ++ numsB Z j).length = m + 4 + 4 * j := by simp only [List.length_append, be_len, numsB_len, HM.out]
          obtain ⟨LJ, hLJ⟩ : ∃ LJ, L ++ be 4 li ++ numsB Z j = LJ := ⟨_, rfl⟩
          obtain ⟨EJ, hEJ⟩ : ∃ EJ, numsE Z E (m + 4) j = EJ := ⟨_, rfl⟩
          rw [hLJ] at hlenj ho4 ⊢
          rw [hEJ]
          obtain ⟨mj, hmj⟩ : ∃ mj, LJ.length = mj := ⟨_, rfl⟩
          rw [hmj] at hlenj ho4 ⊢
          have HLJ := Lib.hid hLJ; have HEJ := Lib.hid hEJ; have HMJ := Lib.hid hmj; have HO4 := Lib.hid ho4; have HB4 := Lib.hid hb4; have HLEN := Lib.hid hlenj
          have hs4 := hb4.size
          obtain ⟨g0, g1, g2, g3⟩ := HCC.out _ hb4
          have hmb : mj ≤ 12000 := by omega
          by_cases hjl : j < li
          · obtain ⟨b5, o5, rfl, hcell⟩ := (HU.out.below hb4 (Nat.le_refl _)).pos hjl
            have g4 := hcell j hjl
            obtain ⟨N', hN'⟩ : ∃ N', Z j = N' := ⟨_, rfl⟩
            rw [hN'] at g4
            have hB2 : Hid (L ++ be 4 li ++ numsB Z (j + 1) = LJ ++ be 4 (if fitsN N' then N'.toNat else 0)) := Lib.hid (by rw [← HLJ.out, ← hN']; simp only [numsB, numB, List.append_assoc])
            have hE2 : Hid (numsE Z E (m + 4) (j + 1) = if fitsN N' then EJ else orE EJ mj) := Lib.hid (by rw [← HEJ.out, ← hN', HLEN.out]; rfl)
            have HJ := Lib.hid hjl
            have i3 : (j : Int) < li := by omega
            have i4 : (0 : Int) ≤ j := by omega
            have t7 : decide (j < li) = true := decide_eq_true hjl
            clear hLJ hEJ hmj hlenj ho4 hb4 hcell hN' hjl
            by_cases hfit : fitsN N' = true
            · have hN : 0 ≤ N' ∧ N' ≤ 4294967295 := of_decide_eq_true hfit
              rw [hfit, if_pos rfl] at hB2 hE2
              have F1 := refFits_any N' wr
              rw [hfit] at F1
              have HF1 := Lib.hid F1
              have W1 := Lib.hid (refWord_int N' N'.toNat wr (by omega) (by omega))
              clear F1 hfit hN
              go_wp2_with fail
              refine HF1.out.mono ?_; rintro e w1 ⟨rfl, hw1⟩; obtain rfl := hw1.symm
              go_wp2_with fail
              refine W1.out.mono ?_; rintro e w2 ⟨u2, rfl, hu2, hb2⟩
              have ho2 := own_below HO4.out hb2 (Nat.le_refl _)
              have hB2 := HB4.out.trans (hb2.mono hs4)
              have hs2 := hB2.size
              have HU2 := Lib.hid hu2; have HO2 := Lib.hid ho2; have HB2 := Lib.hid hB2
              clear hu2 hb2 ho2 hB2
              go_wp2_with (at_builtin; refine wpList_appBytes _ rfl _ _ 22 rfl w.heap.size i0 Tryz.underlying22 hi hz0 hz1 hz2 _ mj _ rfl HO2.out _ (be 4 N'.toNat) rfl HU2.out (by rw [be_len]; omega) hs2 ?_)
              intro A3 c3 w3 hown3 hgrow3
              have hb3 : Below w.heap.size w w3 := hgrow3.below HO2.out HB2.out (Nat.le_refl _) hs2
              rw [be_len] at hown3 ⊢
              have hs3 := hb3.size
              have HR := Lib.hid (refSt_mk (E := numsE Z E (m + 4) (j + 1)) (L' := L ++ be 4 li ++ numsB Z (j + 1)) (by rw [hB2.out, List.length_append, be_len, HMJ.out]) (by rw [hB2.out, byteCells_app]) (by rw [hE2.out]) hown3 hb3)
              clear hown3 hgrow3 hb3
              go_wp2_with fail
              go_roundg (li - (j + 1))
              case rel => exact ⟨j + 1, HJ.out, rfl, by go_num, HR.out⟩
              case measure => have := HJ.out; omega
            · have hfit' : fitsN N' = false := by simpa using hfit
              rw [hfit', if_neg (by decide)] at hB2 hE2
              have F1 := refFits_any N' wr
              rw [hfit'] at F1
              have HF1 := Lib.hid F1
              have W1 := Lib.hid (refWord_int 0 0 wr rfl (by omega))
              cases EJ with
              | none =>
                have tb : decide (badI none < 0) = true := rfl
                have tb2 : badI none = -1 := rfl
                clear F1 hfit hfit'
                go_wp2_with fail
                refine HF1.out.mono ?_; rintro e w1 ⟨rfl, hw1⟩; obtain rfl := hw1.symm
                go_wp2_with fail
                refine W1.out.mono ?_; rintro e w2 ⟨u2, rfl, hu2, hb2⟩
                have ho2 := own_below HO4.out hb2 (Nat.le_refl _)
                have hB2 := HB4.out.trans (hb2.mono hs4)
                have hs2 := hB2.size
                have HU2 := Lib.hid hu2; have HO2 := Lib.hid ho2; have HB2 := Lib.hid hB2
                clear hu2 hb2 ho2 hB2
                go_wp2_with (at_builtin; refine wpList_appBytes _ rfl _ _ 22 rfl w.heap.size i0 Tryz.underlying22 hi hz0 hz1 hz2 _ mj _ rfl HO2.out _ (be 4 0) rfl HU2.out (by rw [be_len]; omega) hs2 ?_)
                intro A3 c3 w3 hown3 hgrow3
                have hb3 : Below w.heap.size w w3 := hgrow3.below HO2.out HB2.out (Nat.le_refl _) hs2
                rw [be_len] at hown3 ⊢
                have hs3 := hb3.size
                have HR := Lib.hid (refSt_mk (bad := (mj : Int)) (E := numsE Z E (m + 4) (j + 1)) (L' := L ++ be 4 li ++ numsB Z (j + 1)) (by rw [hB2.out, List.length_append, be_len, HMJ.out]) (by rw [hB2.out, byteCells_app]) (by rw [hE2.out]; rfl) hown3 hb3)
                clear hown3 hgrow3 hb3
                go_wp2_with fail
                go_roundg (li - (j + 1))
                case rel => exact ⟨j + 1, HJ.out, rfl, by go_num, HR.out⟩
                case measure => have := HJ.out; omega
              | some p =>
                have tb2 : badI (some p) = (p : Int) := rfl
                have tb : decide ((p : Int) < 0) = false := decide_eq_false (by omega)
                clear F1 hfit hfit'
                rw [tb2]
                go_wp2_with fail
                refine HF1.out.mono ?_; rintro e w1 ⟨rfl, hw1⟩; obtain rfl := hw1.symm
                go_wp2_with fail
                refine W1.out.mono ?_; rintro e w2 ⟨u2, rfl, hu2, hb2⟩
                have ho2 := own_below HO4.out hb2 (Nat.le_refl _)
                have hB2 := HB4.out.trans (hb2.mono hs4)
                have hs2 := hB2.size
                have HU2 := Lib.hid hu2; have HO2 := Lib.hid ho2; have HB2 := Lib.hid hB2
                clear hu2 hb2 ho2 hB2
                go_wp2_with (at_builtin; refine wpList_appBytes _ rfl _ _ 22 rfl w.heap.size i0 Tryz.underlying22 hi hz0 hz1 hz2 _ mj _ rfl HO2.out _ (be 4 0) rfl HU2.out (by rw [be_len]; omega) hs2 ?_)
                intro A3 c3 w3 hown3 hgrow3
                have hb3 : Below w.heap.size w w3 := hgrow3.below HO2.out HB2.out (Nat.le_refl _) hs2
                rw [be_len] at hown3 ⊢
                have hs3 := hb3.size
                have HR := Lib.hid (refSt_mk (bad := (p : Int)) (E := numsE Z E (m + 4) (j + 1)) (L' := L ++ be 4 li ++ numsB Z (j + 1)) (by rw [hB2.out, List.length_append, be_len, HMJ.out]) (by rw [hB2.out, byteCells_app]) (by rw [hE2.out]; rfl) hown3 hb3)
                clear hown3 hgrow3 hb3
                go_wp2_with fail
                go_roundg (li - (j + 1))
                case rel => exact ⟨j + 1, HJ.out, rfl, by go_num, HR.out⟩
                case measure => have := HJ.out; omega
          · obtain rfl : j = li := by omega
            have HR : Hid (RefSt w wr (.slice A4 mj c4) (.int .i64 (badI EJ)) (itemsB I (k + 1)) (itemsE I (k + 1))) := Lib.hid (by
              rw [HB1.out, HE1.out, HLJ.out, HEJ.out]
              exact refSt_mk HMJ.out rfl rfl HO4.out HB4.out)
            have t7 : decide (j < j) = false := by simp
            clear hLJ hEJ hmj hlenj ho4 hb4 hjl
            go_wp2_with fail
            go_roundg (n - (k + 1))
            case rel => exact ⟨k + 1, HLT.out, rfl, by go_num, HR.out⟩
            case measure => have := HLT.out; omega
    · obtain rfl : k = n := by omega
      have HW := Lib.hid ho; have HB := Lib.hid hb
      clear hb hlt ho
      go_wp2_with fail
      go_ret2
      exact ⟨_, rfl, HW.out, HB.out⟩
end

section
open Go.RowKit

theorem get_nil (w : World) : Calls Tryz.prog 78 #[.slice none 0 0] w fun e w' => e = .returned (.int .u64 0) ∧ w' = w := get_any [] (.slice none 0 0) w (bytesV_nil _ _ _) (by decide)

set_option maxRecDepth 100000 in
theorem rlist_no (g p : Nat) (most : Int) (E : Option (Int × Nat)) (l : List UInt8) (w : World) (h : RdAt w g l p E) (hn : E ≠ none ∨ l.length < p + 4) (hl : l.length ≤ 1000000000) :
    Calls Tryz.prog 54 #[.pointer (some ⟨g, 0, none⟩), .int .i64 most] w fun e w' => e = .returned (.slice none 0 0) ∧ RdAt w' g l p (orP E (9, p)) ∧ w.grownBy w' (some g) := by
  have H1 := Lib.hid (ahead_no g p E l w h hn hl)
  clear h hn
  go_enter Tryz.func54, Tryz.ntmps54
  go_wp2_with fail
  refine H1.out.mono ?_; rintro e w1 ⟨rfl, hr, hg⟩
  have HR := Lib.hid hr; have HG := Lib.hid hg
  clear hr hg
  go_wp2_with fail
  go_ret
  exact ⟨rfl, HR.out, HG.out⟩

theorem Tryz.infoInt : (Tryz.prog.info? 3).map (fun i => (i.zero, i.size, i.bytes)) = some (some (.int .i64 0), 1, 8) := by kernel_rfl

theorem sub_sub (l : List UInt8) (p n i j k : Nat) (hj : j = i + k) (h : i + k ≤ n) : ((sub l p n).take j).drop i = sub l (p + i) k := by
  subst hj
  apply List.ext_getElem?
  intro t
  unfold sub
  simp only [List.getElem?_drop, List.getElem?_take]
  by_cases ht : t < k
  · rw [if_pos (by omega), if_pos (by omega), if_pos (by omega), Nat.add_assoc]
  · rw [if_neg (by omega), if_neg (by omega)]

set_option maxRecDepth 100000 in
set_option maxHeartbeats 4000000 in
theorem rlist_ok (g p n most : Nat) (l : List UInt8) (w : World) (h : ReaderAt w g l p .nilIface) (hnum : num (sub l p 4) = n) (hn : p + 4 + 4 * n ≤ l.length) (hm : n ≤ most) (hM : most ≤ 1000000000) (hl : l.length ≤ 1000000000) :
    Calls Tryz.prog 54 #[.pointer (some ⟨g, 0, none⟩), .int .i64 most] w fun e w' => ∃ b : Nat, e = .returned (.slice (some ⟨b, 0, none⟩) n n) ∧ w.heap.size ≤ b ∧ IntsV w' (.slice (some ⟨b, 0, none⟩) n n) n (fun i => (num (sub l (p + 4 + 4 * i) 4) : Nat)) ∧ ReaderAt w' g l (p + 4 + 4 * n) .nilIface ∧ w.grownBy w' (some g) := by
  obtain ⟨i0, hi, hz0, hz1, hz2⟩ := info_parts Tryz.infoInt
  have H1 := Lib.hid (ahead_ok g p l w h (by omega) hl)
  rw [hnum] at H1
  have HR := Lib.hid h
  obtain ⟨t, ht⟩ : ∃ t, 4 + 4 * n = t := ⟨_, rfl⟩
  have ht' : ((4 : Int) + 4 * n) = t := by omega
  have i1 : n ≤ 1000000000 := by omega
  have tm : decide (most < n) = false := decide_eq_false (by omega)
  have tm2 : decide ((most : Int) < n) = false := decide_eq_false (by omega)
  have hmax : max (most : Int) 0 = most := by omega
  have HT := Lib.hid ht; have HN := Lib.hid hn; have HNUM := Lib.hid hnum; have HM := Lib.hid hm
  clear h hn ht hnum hm
  go_enter Tryz.func54, Tryz.ntmps54
  go_wp2_with fail
  refine H1.out.mono ?_; rintro e w1 ⟨rfl, d, hd⟩
  have hr1 : ReaderAt w1 g l p .nilIface := by rw [hd]; exact HR.out
  have hg1 : w.grownBy w1 (some g) := by rw [hd]; exact ⟨rfl, rfl, rfl, Nat.le_refl _, fun _ _ _ => rfl⟩
  have H2 := Lib.hid (take_ok g p t l w1 hr1 (by have := HT.out; have := HN.out; omega) (by have := HT.out; omega) hl)
  have HG1 := Lib.hid hg1
  clear hr1 hg1 hd
  go_wp2_with fail
  refine H2.out.mono ?_; rintro e w2 ⟨b, off, c', rfl, hb, hr, hg⟩
  have HR2 := Lib.hid hr; have HG2 := Lib.hid hg
  have hT := HT.out
  have hsl := sub_len l p t (by have := HN.out; omega)
  obtain ⟨hxx, hcc, b', off', e1, hcell⟩ := hb.cells (show 0 < (sub l p t).length by omega)
  clear hxx
  injection e1 with e1
  injection e1 with e1 e2
  subst e1 e2
  have hle : t ≤ c' := by
    have h1 := hcc
    change (sub l p t).length ≤ c' at h1
    omega
  have hbl : b < w2.heap.size := World.block_lt_of_cell? _ _ (hcell 0 (by change 0 < (sub l p t).length; omega))
  have HCELL := Lib.hid hcell
  have hq := Lib.run_eql_slice_nil (P := Tryz.prog) w2 22 5 (some ⟨b, off, none⟩) t c' 0 0 Tryz.underlying22
  have HSL := Lib.hid hsl
  clear hb hr hg hT hsl hcell hcc ht'
  go_wp2_with (at_make; refine wpList_make_full _ rfl _ _ 33 rfl w2.heap.size 3 i0 (.int .i64 0) 1 Tryz.underlying33 hi hz0 hz1 _ _ _ _ n rfl rfl rfl rfl ?b2 ?b3 (Nat.le_refl _) ?_)
  case b2 => rw [hz2]; omega
  case b3 => unfold maxLen; omega
  intro w3 hown hgr
  have hb3 : Below w2.heap.size w2 w3 := (Below.refl _ _).grown hgr (Nat.le_refl _) (fun k hk => by cases hk)
  clear hgr hq
  have HO3 := Lib.hid hown; have HB3 := Lib.hid hb3
  clear hown hb3
  go_wp2
  go_loopg [40] n (fun g' y wr => ∃ (k : Nat) (xs : List Value), k ≤ n ∧ g' = n - k ∧ y = .int .i64 (k : Nat) ∧ wr.ownsRow w2.heap.size 3 1 (.slice (some ⟨w2.heap.size, 0, none⟩) n n) n xs ∧ (∀ j, j < k → xs[j]? = some (.int .i64 (num (sub l (p + 4 + 4 * j) 4) : Nat))) ∧ Below w2.heap.size w2 wr)
  case atStart => exact ⟨0, _, by omega, rfl, rfl, HO3.out, fun j hj => by omega, HB3.out⟩
  case round =>
    obtain ⟨k, xs, hk, rfl, rfl, ho, hxs, hb⟩ := hrel
    have HX := Lib.hid hxs; have HO := Lib.hid ho; have HB := Lib.hid hb
    by_cases hlt : k < n
    · have hw := window (w := wr) (b := b) (off := off) (l := sub l p t) (fun i hi => (hb.cell (p := ⟨b, off + i, none⟩) hbl).trans (HCELL.out i hi)) (4 + 4 * k) (8 + 4 * k) (c' - (4 + 4 * k)) (by omega) (by rw [HSL.out]; have := HT.out; omega) (by have := HT.out; omega)
      rw [sub_sub l p t (4 + 4 * k) (8 + 4 * k) 4 (by omega) (by have := HT.out; omega), show p + (4 + 4 * k) = p + 4 + 4 * k by omega] at hw
      have hsl := sub_len l (p + 4 + 4 * k) 4 (by have := HN.out; omega)
      have hN := num_lt 4 (sub l (p + 4 + 4 * k) 4) hsl
      have G := get_any (sub l (p + 4 + 4 * k) 4) _ wr hw (by omega)
      obtain ⟨N, hN2⟩ : ∃ N, num (sub l (p + 4 + 4 * k) 4) = N := ⟨_, rfl⟩
      rw [hN2] at hN G
      have HN2 := Lib.hid hN2; have HGG := Lib.hid G
      have hN3 : N < 4294967296 := by omega
      have wN : IntKind.i64.wrap (N : Int) = N := by rw [IntKind.wrap_i64]; omega
      have hlen : xs.length = n := by have := ho.1; omega
      have c0 := ho.cellAt k (by omega)
      obtain ⟨x0, hx0⟩ : ∃ x0, xs[k]? = some x0 := ⟨_, List.getElem?_eq_getElem (by omega)⟩
      rw [hx0] at c0
      have f0 := ho.frozenAt k
      have hst := (ho.stored k (.int .i64 (N : Nat))).1
      have hsb := hb.setCell (p := ⟨w2.heap.size, k, none⟩) (Nat.le_refl _) (.int .i64 (N : Nat))
      have HST := Lib.hid hst; have HSB := Lib.hid hsb; have HLEN := Lib.hid hlen; have HLT := Lib.hid hlt
      have i2 : (0 : Int) ≤ k := by omega
      have i3 : (k : Int) < n := by omega
      have i5 : (8 : Int) + 4 * k ≤ c' := by have := HT.out; omega
      have i6 : k ≤ 1000000000 := by omega
      clear hx0 hw hsl hN hN2 G hlen hst hsb hlt ho hxs hb
      go_wp2_with fail
      refine HGG.out.mono ?_; rintro e w4 ⟨rfl, hw4⟩; obtain rfl := hw4.symm
      go_wp2_with fail
      go_roundg (n - (k + 1))
      case rel =>
        refine ⟨k + 1, _, HLT.out, rfl, by go_num, HST.out, fun j hj => ?_, HSB.out⟩
        have h1 := HLT.out; have h2 := HLEN.out
        rcases (by omega : j < k ∨ j = k) with h3 | rfl
        · rw [List.getElem?_set_ne (by omega)]; exact HX.out j h3
        · rw [List.getElem?_set_self (by omega), HN2.out]
      case measure => have := HLT.out; omega
    · obtain rfl : k = n := by omega
      have t7 : decide (k < k) = false := by simp
      clear ho hxs hb hlt
      go_wp2
      go_ret
      have hB := HB.out
      have hG : w2.grownBy wr (some g) := grown_below hB
      refine ⟨w2.heap.size, rfl, Nat.le_trans HG1.out.size HG2.out.size, ?_, ?_, grown_trans HG1.out (grown_trans HG2.out hG)⟩
      · rcases Nat.eq_zero_or_pos k with h0 | h0
        · subst h0; exact Or.inl ⟨rfl, _, _, rfl⟩
        · exact Or.inr ⟨h0, _, 0, _, rfl, fun i hi => by rw [Nat.zero_add, HO.out.cellAt i (by have := HO.out.1; omega)]; exact HX.out i hi⟩
      · have h1 := HR2.out.below hB
        rw [← HT.out, ← Nat.add_assoc] at h1
        exact h1

section
set_option maxRecDepth 100000
theorem left_nil (w : World) : Calls Tryz.prog 81 #[.pointer none] w fun e w' => e = .returned (.int .i64 0) ∧ w' = w := by
  go_enter Tryz.func81, Tryz.ntmps81
  go_wp2
  go_ret
  exact ⟨rfl, rfl⟩
theorem holds_nil (n : Int) (w : World) : Calls Tryz.prog 99 #[.pointer none, .int .i64 n] w fun e w' => e = .returned (.bool false) ∧ w' = w := by
  go_enter Tryz.func99, Tryz.ntmps99
  go_wp2
  go_ret
  exact ⟨rfl, rfl⟩
theorem take_nil (n : Int) (w : World) : Calls Tryz.prog 80 #[.pointer none, .int .i64 n] w fun e w' => e = .returned (.slice none 0 0) ∧ w' = w := by
  go_enter Tryz.func80, Tryz.ntmps80
  go_wp2_with fail
  refine (holds_nil _ _).mono ?_; rintro e w1 ⟨rfl, rfl⟩
  go_wp2_with fail
  go_ret
  exact ⟨rfl, rfl⟩
theorem ahead_nil (w : World) : Calls Tryz.prog 79 #[.pointer none] w fun e w' => e = .returned (.tuple #[.int .i64 0, .bool false]) ∧ w' = w := by
  go_enter Tryz.func79, Tryz.ntmps79
  go_wp2_with fail
  refine (holds_nil _ _).mono ?_; rintro e w1 ⟨rfl, rfl⟩
  go_wp2_with fail
  go_ret2
  exact ⟨rfl, rfl⟩
theorem rlist_nil (m : Int) (w : World) : Calls Tryz.prog 54 #[.pointer none, .int .i64 m] w fun e w' => e = .returned (.slice none 0 0) ∧ w' = w := by
  go_enter Tryz.func54, Tryz.ntmps54
  go_wp2_with fail
  refine (ahead_nil _).mono ?_; rintro e w1 ⟨rfl, rfl⟩
  go_wp2_with fail
  go_ret
  exact ⟨rfl, rfl⟩
theorem rend_nil (w : World) : Calls Tryz.prog 55 #[.pointer none] w fun e w' => ∃ b : Nat, e = .returned (.iface 60 (.pointer (some ⟨b, 0, none⟩))) ∧ w'.cell? ⟨b, 0, none⟩ = some (.int .i64 10) ∧ Below w.heap.size w w' := by
  go_enter Tryz.func55, Tryz.ntmps55
  go_wp2_with fail
  refine (new_any _ _ _ _).mono ?_; rintro e w1 ⟨rfl, rfl⟩
  go_wp2_with fail
  go_ret
  exact ⟨_, rfl, by rw [(Whole.new w _ _).cell 0]; rfl, (Below.refl _ _).alloc (Nat.le_refl _) _⟩
theorem wnum_nil (n : Int) (w : World) : Calls Tryz.prog 59 #[.pointer none, .int .i64 n] w fun e w' => e = .returned (.tuple #[]) ∧ w' = w := by
  go_enter Tryz.func59, Tryz.ntmps59
  go_wp2
  refine bodyPost_ret (results_none rfl _ _ _) rfl ?_
  exact ⟨rfl, rfl⟩
theorem wlist_nil (w : World) : Calls Tryz.prog 33 #[.pointer none, .slice none 0 0] w fun e w' => e = .returned (.tuple #[]) ∧ w' = w := by
  go_enter Tryz.func33, Tryz.ntmps33
  go_wp2_with fail
  refine (wnum_nil _ _).mono ?_; rintro e w1 ⟨rfl, rfl⟩
  go_wp2_with fail
  refine wp_loop_rounds 1 ?_
  rw [rounds_succ]
  go_wp2
  go_end0
  exact ⟨rfl, rfl⟩
theorem wbytes_nil (w : World) : Calls Tryz.prog 35 #[.pointer none] w fun e w' => e = .returned (.slice none 0 0) ∧ w' = w := by
  go_enter Tryz.func35, Tryz.ntmps35
  go_wp2
  go_ret
  exact ⟨rfl, rfl⟩
end
end

section
open Go.RowKit

set_option maxRecDepth 100000 in
set_option maxHeartbeats 4000000 in
theorem rlist_big (g p n most : Nat) (l : List UInt8) (w : World) (h : ReaderAt w g l p .nilIface) (hnum : num (sub l p 4) = n) (hn : p + 4 ≤ l.length) (hm : most < n) (hl : l.length ≤ 1000000000) :
    Calls Tryz.prog 54 #[.pointer (some ⟨g, 0, none⟩), .int .i64 most] w fun e w' => e = .returned (.slice none 0 0) ∧ RdAt w' g l p (some (6, p)) ∧ w.grownBy w' (some g) := by
  have L1 := ahead_ok g p l w h hn hl
  rw [hnum] at L1
  have HR := Lib.hid h
  obtain ⟨_, A, c, hw, _⟩ := h
  have a1 := hw.cell 1; have a2 := hw.cell 2; have f2 := hw.free 2
  have hlt := hw.lt
  simp at a1 a2
  have t1 : decide (most < n) = true := decide_eq_true hm
  have t2 : decide ((most : Int) < (n : Int)) = true := decide_eq_true (by omega)
  have m1 : max (most : Int) 0 = most := by omega
  have L2 := Lib.hid L1
  clear hw L1 hnum hn hm
  go_enter Tryz.func54, Tryz.ntmps54
  go_wp2_with fail
  refine L2.out.mono ?_; rintro e w1 ⟨rfl, d, rfl⟩
  go_wp2_with fail
  refine (new_any _ _ _ _).mono ?_; rintro e w2 ⟨rfl, hw2⟩
  have hb2 : Below w.heap.size w w2 := by rw [← hw2]; exact (below_drewN' (Below.refl _ _) d).alloc (Nat.le_refl _) _
  have b2 := (hb2.cell (p := ⟨g, 2, none⟩) hlt).trans a2
  have b3 := (hb2.frozen (p := ⟨g, 2, none⟩) hlt).trans f2
  have HB2 := Lib.hid hb2; have HW2 := Lib.hid hw2
  clear hw2 hb2
  go_wp2_with fail
  go_ret
  refine ⟨rfl, ?_, ?_⟩
  · rw [← HW2.out]; exact rd_set HR.out (by decide)
  · exact grown_trans (grown_below HB2.out) (grown_set _ g 2 _)
set_option maxRecDepth 100000 in
set_option maxHeartbeats 4000000 in
theorem rlist_short (g p n most : Nat) (l : List UInt8) (w : World) (h : ReaderAt w g l p .nilIface) (hnum : num (sub l p 4) = n) (hn : p + 4 ≤ l.length) (hm : n ≤ most) (hs : l.length < p + (4 + 4 * n)) (hM : most ≤ 1000000000) (hl : l.length ≤ 1000000000) :
    Calls Tryz.prog 54 #[.pointer (some ⟨g, 0, none⟩), .int .i64 most] w fun e w' => e = .returned (.slice none 0 0) ∧ RdAt w' g l p (some (9, p)) ∧ w.grownBy w' (some g) := by
  have L1 := ahead_ok g p l w h hn hl
  rw [hnum] at L1
  have HT : Hid (∀ d, Calls Tryz.prog 80 #[.pointer (some ⟨g, 0, none⟩), .int .i64 ((4 : Int) + 4 * (n : Int))] (w.drewN d) fun e w' => e = .returned (.slice none 0 0) ∧ RdAt w' g l p (some (9, p)) ∧ w.grownBy w' (some g)) := Lib.hid (fun d => by
    have k := take_no g p (4 + 4 * n) none l (w.drewN d) ((show RdAt w g l p Option.none from ⟨.nilIface, h, rfl⟩).drewN d) (Or.inr hs) hl
    rw [show (((4 + 4 * n : Nat)) : Int) = 4 + 4 * (n : Int) by omega] at k
    exact k.mono fun e w' ⟨h1, h2, h3⟩ => ⟨h1, h2, ⟨h3.os, h3.tape, h3.output, h3.size, h3.block⟩⟩)
  have t1 : decide (most < n) = false := decide_eq_false (by omega)
  have t2 : decide ((most : Int) < (n : Int)) = false := decide_eq_false (by omega)
  have m1 : max (most : Int) 0 = most := by omega
  have L2 := Lib.hid L1
  have hq := fun W : World => Lib.run_eql_slice_nil (P := Tryz.prog) W 22 5 none 0 0 0 0 Tryz.underlying22
  clear h L1 hnum hn hs
  go_enter Tryz.func54, Tryz.ntmps54
  go_wp2_with fail
  refine L2.out.mono ?_; rintro e w1 ⟨rfl, d, rfl⟩
  have HTD := Lib.hid (HT.out d)
  go_wp2_with fail
  refine HTD.out.mono ?_; rintro e w2 ⟨rfl, hr, hg⟩
  have HR := Lib.hid hr; have HG := Lib.hid hg
  clear hr hg
  go_wp2_with fail
  go_ret
  exact ⟨rfl, HR.out, HG.out⟩
/-- What List does to a reader: the list, or an error that is kept. -/
def RListTo (g p most : Nat) (E : Option (Int × Nat)) (l : List UInt8) (w : World) (e : Ending) (w' : World) : Prop :=
  w.grownBy w' (some g) ∧ ((e = .returned (.slice none 0 0) ∧ (∃ x, RdAt w' g l p (some x)) ∧ ¬ (E = none ∧ p + 4 ≤ l.length ∧ num (sub l p 4) ≤ most ∧ p + 4 + 4 * num (sub l p 4) ≤ l.length)) ∨
    (E = none ∧ ∃ n b, n = num (sub l p 4) ∧ n ≤ most ∧ p + 4 + 4 * n ≤ l.length ∧ e = .returned (.slice (some ⟨b, 0, none⟩) n n) ∧ w.heap.size ≤ b ∧ IntsV w' (.slice (some ⟨b, 0, none⟩) n n) n (fun i => (num (sub l (p + 4 + 4 * i) 4) : Nat)) ∧ RdAt w' g l (p + 4 + 4 * n) none))
theorem rlist_any (g p most : Nat) (E : Option (Int × Nat)) (l : List UInt8) (w : World) (h : RdAt w g l p E) (hM : most ≤ 1000000000) (hl : l.length ≤ 1000000000) :
    Calls Tryz.prog 54 #[.pointer (some ⟨g, 0, none⟩), .int .i64 most] w (RListTo g p most E l w) := by
  by_cases h1 : E ≠ none ∨ l.length < p + 4
  · refine (rlist_no g p most E l w h h1 hl).mono fun e w' ⟨he, hr, hg⟩ => ⟨hg, Or.inl ⟨he, ?_, ?_⟩⟩
    · cases E with
      | none => exact ⟨_, hr⟩
      | some x => exact ⟨_, hr⟩
    · rintro ⟨a, b, _, _⟩
      rcases h1 with h1 | h1
      · exact h1 a
      · omega
  · have hE : E = none := by
      cases E with
      | none => rfl
      | some x => exact absurd (Or.inl (by simp)) h1
    subst hE
    have hp : p + 4 ≤ l.length := by
      rcases Nat.lt_or_ge l.length (p + 4) with h2 | h2
      · exact absurd (Or.inr h2) h1
      · exact h2
    rcases Nat.lt_or_ge most (num (sub l p 4)) with h2 | h2
    · refine (rlist_big g p _ most l w h.none rfl hp h2 hl).mono fun e w' ⟨he, hr, hg⟩ => ⟨hg, Or.inl ⟨he, ⟨_, hr⟩, ?_⟩⟩
      rintro ⟨_, _, c, _⟩
      omega
    · rcases Nat.lt_or_ge l.length (p + (4 + 4 * num (sub l p 4))) with h3 | h3
      · refine (rlist_short g p _ most l w h.none rfl hp h2 h3 hM hl).mono fun e w' ⟨he, hr, hg⟩ => ⟨hg, Or.inl ⟨he, ⟨_, hr⟩, ?_⟩⟩
        rintro ⟨_, _, _, c⟩
        omega
      · refine (rlist_ok g p _ most l w h.none rfl (by omega) h2 hM hl).mono fun e w' ⟨b, he, hb, hi, hr, hg⟩ => ⟨hg, Or.inr ⟨rfl, _, b, rfl, h2, by omega, he, hb, hi, ⟨_, hr, rfl⟩⟩⟩
end
end Go.Proofs.YtnjkjgmnnmgngaaGreatDoor
