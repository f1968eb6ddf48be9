/- wire.put, wire.get, wire.Sum: contracts. -/
import Derived.Test.YtkpoeahnlldpgaaDoorMem
import Derived.Test.YtkpoeahnlldpgaaDoorFault
import Derived.Lib.UnsafeStr
import Derived.Lib.AppendStr
import Derived.Deep.LoopGhost
import Derived.Deep.DeepCutAuto
import Derived.Deep.QuietTactic
import Derived.BigQuiet
import Derived.WalkSmall
namespace Go.Proofs.YtkpoeahnlldpgaaDoor
open Go.RowKit

/-- A number as so many bytes, the highest first. -/
def be : Nat → Nat → List UInt8
  | 0, _ => []
  | m + 1, n => UInt8.ofNat (n / 256 ^ m) :: be m n
theorem byte_at (n j : Nat) : (n : Int) / 2 ^ (8 * j) % 256 = ((UInt8.ofNat (n / 256 ^ j)).toNat : Int) := by
  have e : (2 : Nat) ^ (8 * j) = 256 ^ j := by rw [Nat.pow_mul]
  have e2 : ((2 : Int) ^ (8 * j)) = ((2 ^ (8 * j) : Nat) : Int) := by simp
  rw [e2, e]
  simp
theorem be_len : ∀ m n, (be m n).length = m
  | 0, _ => rfl
  | m + 1, n => by simp [be, be_len m n]
theorem byteCells_snoc (l : List UInt8) (c : UInt8) : Lib.byteCells (l ++ [c]) = Lib.byteCells l ++ [.int .u8 c.toNat] := by simp [Lib.byteCells]
theorem Tryd.infoU8 : (Tryd.prog.info? 5).map (fun i => (i.zero, i.size, i.bytes)) = some (some (.int .u8 0), 1, 1) := by kernel_rfl

set_option maxHeartbeats 1000000 in
set_option maxRecDepth 100000 in
theorem put_any (base m k n : Nat) (v : Value) (xs : List Value) (w : World) (hown : w.ownsRow base 5 1 v k xs) (hk : k ≤ 100000000) (hbase : base ≤ w.heap.size) (hm : m ≤ 8) (_hn : n < 18446744073709551616) :
    Calls Tryd.prog 42 #[v, .int .u64 n, .int .i64 m] w fun e w' => ∃ v', e = .returned v' ∧ w'.ownsRow base 5 1 v' (k + m) (xs ++ Lib.byteCells (be m n)) ∧ Grew w v w' v' := by
  obtain ⟨i0, hi, hz0, hz1, hz2⟩ := info_parts Tryd.infoU8
  have HO := Lib.hid hown
  clear hown
  go_enter Tryd.func42, Tryd.ntmps42
  go_wp2
  go_loopg [0, 7] m (fun g x y wr => ∃ j pre, j ≤ m ∧ j = g ∧ y = .int .i64 ((j : Int) - 1) ∧ be m n = pre ++ be j n ∧ pre.length = m - j ∧ wr.ownsRow base 5 1 x (k + (m - j)) (xs ++ Lib.byteCells pre) ∧ Grew w v wr x)
  case atStart => exact ⟨m, [], Nat.le_refl _, rfl, rfl, rfl, by simp, by simpa [Lib.byteCells] using HO.out, Grew.refl _ _⟩
  case round =>
    obtain ⟨j, pre, hj, rfl, rfl, hpre, hlen, hown, hg⟩ := hrel
    have HP := Lib.hid hpre; have HLEN := Lib.hid hlen; have HOWN := Lib.hid hown; have HG := Lib.hid hg
    have hl : base ≤ wr.heap.size := Nat.le_trans hbase hg.1.size
    clear hpre hlen hown hg
    rcases j with _ | j
    · go_wp2
      go_ret
      refine ⟨_, rfl, ?_, HG.out⟩
      have h1 := HP.out
      simp [be] at h1
      rw [h1]
      exact HOWN.out
    · have ej : ((j + 1 : Nat) : Int) - 1 = (j : Int) := by omega
      rw [ej]
      clear ej
      obtain ⟨A, c, rfl⟩ := own_form HOWN.out
      go_wp2_with (at_builtin; refine wpList_app1g _ rfl _ _ 27 rfl base 5 i0 (.int .u8 0) 1 Tryd.underlying27 hi hz0 hz1 hz2 rfl _ (k + (m - (j + 1))) _ rfl HOWN.out _ rfl rfl (by omega) (by omega) hl ?_)
      intro A' c' w1 hown1 hgrow
      have HO1 := Lib.hid hown1; have HG1 := Lib.hid hgrow
      clear hown1 hgrow
      go_wp2
      go_roundg j
      case rel =>
        have hv : (n : Int) / 2 ^ (8 * j) % 256 = ((UInt8.ofNat (n / 256 ^ j)).toNat : Int) := by
          rw [byte_at]
        refine ⟨j, pre ++ [UInt8.ofNat (n / 256 ^ j)], by omega, rfl, rfl, ?_, ?_, ?_, HG.out.trans HG1.out⟩
        · rw [HP.out]; simp [be]
        · have := HLEN.out; simp; omega
        · have h1 := HO1.out
          rw [hv] at h1
          rw [byteCells_snoc]
          rw [show k + (m - j) = k + (m - (j + 1)) + 1 by omega]
          exact h1
      case measure => omega

theorem or_byte (N z : Nat) (hN : N < 72057594037927936) (hz : z < 256) : bits .or .u64 ((N : Int) * 256) (z : Int) = ((N * 256 + z : Nat) : Int) := by
  have e : ((N : Int) * 256) = ((N * 256 : Nat) : Int) := by simp
  have h2 : N * 256 ||| z = N * 256 + z := by
    have := Nat.shiftLeft_add_eq_or_of_lt (b := z) (i := 8) (by omega) N
    rw [Nat.shiftLeft_eq] at this
    exact this.symm
  rw [e]
  show IntKind.u64.wrap ((BitVec.ofInt 64 ((N * 256 : Nat) : Int) ||| BitVec.ofInt 64 (z : Int)).toNat : Int) = _
  rw [BitVec.toNat_or, BitVec.ofInt_natCast, BitVec.ofInt_natCast, BitVec.toNat_ofNat, BitVec.toNat_ofNat, Nat.mod_eq_of_lt (by omega), Nat.mod_eq_of_lt (by omega), h2, IntKind.wrap_u64]
  omega
/-- A slice that reads as these bytes. -/
def BytesV (w : World) (v : Value) (l : List UInt8) : Prop :=
  ∃ (A : Option Addr) (c : Nat), v = .slice A l.length c ∧ l.length ≤ c ∧ (0 < l.length → ∃ b off, A = some ⟨b, off, none⟩ ∧ ∀ i, i < l.length → w.cell? ⟨b, off + i, none⟩ = some (.int .u8 ((l.getD i 0).toNat : Int)))
theorem BytesV.keep {w w' : World} {v : Value} {l : List UInt8} (h : BytesV w v l) (hk : ∀ b, b < w.heap.size → (∃ A c off, v = .slice A l.length c ∧ A = some ⟨b, off, none⟩) → w'.heap[b]? = w.heap[b]?) : BytesV w' v l := by
  obtain ⟨A, c, rfl, hc, hr⟩ := h
  refine ⟨A, c, rfl, hc, fun h0 => ?_⟩
  obtain ⟨b, off, rfl, hcell⟩ := hr h0
  have hb := World.block_lt_of_cell? _ _ (hcell 0 h0)
  refine ⟨b, off, rfl, fun i hi => ?_⟩
  rw [World.cell?_of_block (w := w) (w' := w') (a := ⟨b, off + i, none⟩) (hk b hb ⟨_, _, _, rfl, rfl⟩)]
  exact hcell i hi
theorem BytesV.below {w w' : World} {v : Value} {l : List UInt8} (h : BytesV w v l) {B : Nat} (hb : Below B w w') (hB : w.heap.size ≤ B) : BytesV w' v l :=
  h.keep fun b hl _ => hb.block b (Nat.lt_of_lt_of_le hl hB)
theorem BytesV.drewN {w : World} {v : Value} {l : List UInt8} (h : BytesV w v l) (d : Nat) : BytesV (w.drewN d) v l := h
theorem BytesV.form {w : World} {v : Value} {l : List UInt8} (h : BytesV w v l) : ∃ A c, v = .slice A l.length c ∧ l.length ≤ c := by
  obtain ⟨A, c, rfl, hc, _⟩ := h
  exact ⟨_, _, rfl, hc⟩
theorem BytesV.at_ {w : World} {A : Option Addr} {n c : Nat} {l : List UInt8} (h : BytesV w (.slice A n c) l) {i : Nat} (hi : i < l.length) : ∃ b off, A = some ⟨b, off, none⟩ ∧ w.cell? ⟨b, off + i, none⟩ = some (.int .u8 ((l.getD i 0).toNat : Int)) := by
  obtain ⟨A', c', e, hc, hr⟩ := h
  injection e with e1 e2 e3
  subst e1
  obtain ⟨b, off, rfl, hcell⟩ := hr (by omega)
  exact ⟨b, off, rfl, hcell i hi⟩
theorem bytesV_nil (w : World) (c : Nat) (A : Option Addr) : BytesV w (.slice A 0 c) [] := ⟨A, c, rfl, Nat.zero_le _, fun h => by simp at h⟩
theorem own_bytesV {w : World} {base n : Nat} {v : Value} {l : List UInt8} (h : w.ownsRow base 5 1 v n (Lib.byteCells l)) : BytesV w v l := by
  have hn : l.length = n := by have := h.1; simp [Lib.byteCells] at this; omega
  subst hn
  have h0 := h
  rcases h.2 with ⟨rfl, h1⟩ | ⟨g, cap, cur, rfl, _, hh, hcap, _⟩
  · exact ⟨none, 0, by rw [h1], by omega, fun h => by omega⟩
  · refine ⟨_, _, rfl, hcap, fun hp => ⟨g, 0, rfl, fun i hi => ?_⟩⟩
    rw [Nat.zero_add, h0.cellAt i (by omega)]
    simp [Lib.byteCells, hi]

/-- The number of bytes, the highest first. -/
def num (l : List UInt8) : Nat := l.foldl (fun n c => n * 256 + c.toNat) 0
theorem num_snoc (l : List UInt8) (c : UInt8) : num (l ++ [c]) = num l * 256 + c.toNat := by simp [num]
theorem num_lt : ∀ (n : Nat) (l : List UInt8), l.length = n → num l < 256 ^ n
  | 0, l, h => by
    have : l = [] := List.eq_nil_of_length_eq_zero h
    subst this
    simp [num]
  | n + 1, l, h => by
    obtain ⟨l', c, rfl⟩ : ∃ l' c, l = l' ++ [c] := ⟨l.dropLast, l.getLast (by intro e; subst e; simp at h), (List.dropLast_concat_getLast _).symm⟩
    have h1 := num_lt n l' (by simpa using h)
    have h2 := UInt8.toNat_lt c
    rw [num_snoc, Nat.pow_succ]
    omega
theorem take_snoc' (l : List UInt8) {k : Nat} (h : k < l.length) : l.take (k + 1) = l.take k ++ [l.getD k 0] := by
  rw [List.take_succ_eq_append_getElem h]
  simp [List.getD, h]

set_option maxRecDepth 100000 in
theorem get_any (l : List UInt8) (v : Value) (w : World) (h : BytesV w v l) (hl : l.length ≤ 8) :
    Calls Tryd.prog 43 #[v] w fun e w' => e = .returned (.int .u64 (num l : Nat)) ∧ w' = w := by
  obtain ⟨A, c, rfl, _⟩ := h.form
  have H := Lib.hid h
  clear h
  go_enter Tryd.func43, Tryd.ntmps43
  go_wp2
  go_loopg [3, 8] l.length (fun g x y wr => ∃ k, k ≤ l.length ∧ g = l.length - k ∧ x = .int .u64 (num (l.take k) : Nat) ∧ y = .int .i64 (k : Nat) ∧ wr = w)
  case atStart => exact ⟨0, by omega, rfl, rfl, rfl, rfl⟩
  case round =>
    obtain ⟨k, hk, rfl, rfl, rfl, rfl⟩ := hrel
    by_cases hlt : k < l.length
    · obtain ⟨b, off, rfl, hc⟩ := H.out.at_ hlt
      obtain ⟨z, hz⟩ : ∃ z : Nat, (l.getD k 0).toNat = z := ⟨_, rfl⟩
      have hz1 := UInt8.toNat_lt (l.getD k 0)
      rw [hz] at hc hz1
      obtain ⟨N, hN⟩ : ∃ N, num (l.take k) = N := ⟨_, rfl⟩
      have hN1 := num_lt k (l.take k) (by rw [List.length_take]; omega)
      rw [hN] at hN1 ⊢
      have hp : 256 ^ k ≤ 256 ^ 7 := Nat.pow_le_pow_right (by omega) (by omega)
      have hN2 : N < 72057594037927936 := by omega
      have hnext : num (l.take (k + 1)) = N * 256 + z := by rw [take_snoc' l hlt, num_snoc, hN, hz]
      have HN := Lib.hid hnext
      have t1 : decide (k < l.length) = true := decide_eq_true hlt
      have hor : bits .or .u64 ((N : Int) * 256) (z : Int) = ((N * 256 + z : Nat) : Int) := or_byte N z (by omega) (by omega)
      have HLT := Lib.hid hlt
      clear hz hN hp hnext
      go_wp2
      go_roundg (l.length - (k + 1))
      case rel => exact ⟨k + 1, HLT.out, rfl, by rw [HN.out, Int.natCast_add, Int.natCast_mul]; rfl, by go_num, rfl⟩
      case measure => have := HLT.out; omega
    · obtain rfl : k = l.length := by omega
      have t1 : decide (l.length < l.length) = false := by simp
      go_wp2
      go_ret
      exact ⟨by simp, rfl⟩

/-- The two halves of the sum. -/
def halves (l : List UInt8) : Nat × Nat := l.foldl (fun p c => ((p.1 + c.toNat) % 65521, (p.2 + (p.1 + c.toNat) % 65521) % 65521)) (1, 0)
theorem halves_snoc (l : List UInt8) (c : UInt8) : halves (l ++ [c]) = (((halves l).1 + c.toNat) % 65521, ((halves l).2 + ((halves l).1 + c.toNat) % 65521) % 65521) := by simp [halves]
theorem halves_lt : ∀ (n : Nat) (l : List UInt8), l.length = n → (halves l).1 < 65521 ∧ (halves l).2 < 65521
  | 0, l, h => by
    have : l = [] := List.eq_nil_of_length_eq_zero h
    subst this
    simp [halves]
  | n + 1, l, h => by
    obtain ⟨l', c, rfl⟩ : ∃ l' c, l = l' ++ [c] := ⟨l.dropLast, l.getLast (by intro e; subst e; simp at h), (List.dropLast_concat_getLast _).symm⟩
    rw [halves_snoc]
    exact ⟨Nat.mod_lt _ (by omega), Nat.mod_lt _ (by omega)⟩
def asum (l : List UInt8) : Nat := (halves l).2 * 65536 + (halves l).1
theorem asum_lt (l : List UInt8) : asum l < 4294967296 := by
  have := halves_lt _ l rfl
  unfold asum
  omega
theorem or_half (H L : Nat) (hH : H < 65536) (hL : L < 65536) : bits .or .u32 ((H : Int) * 65536) (L : Int) = ((H * 65536 + L : Nat) : Int) := by
  have e : ((H : Int) * 65536) = ((H * 65536 : Nat) : Int) := by simp
  have h2 : H * 65536 ||| L = H * 65536 + L := by
    have := Nat.shiftLeft_add_eq_or_of_lt (b := L) (i := 16) (by omega) H
    rw [Nat.shiftLeft_eq] at this
    exact this.symm
  rw [e]
  show IntKind.u32.wrap ((BitVec.ofInt 32 ((H * 65536 : Nat) : Int) ||| BitVec.ofInt 32 (L : Int)).toNat : Int) = _
  rw [BitVec.toNat_or, BitVec.ofInt_natCast, BitVec.ofInt_natCast, BitVec.toNat_ofNat, BitVec.toNat_ofNat, Nat.mod_eq_of_lt (by omega), Nat.mod_eq_of_lt (by omega), h2, IntKind.wrap_u32]
  omega

set_option maxRecDepth 100000 in
theorem sum_any (l : List UInt8) (v : Value) (w : World) (h : BytesV w v l) (hl : l.length ≤ 1000000000) :
    Calls Tryd.prog 33 #[v] w fun e w' => e = .returned (.int .u32 (asum l : Nat)) ∧ w' = w := by
  obtain ⟨A, c, rfl, _⟩ := h.form
  have H := Lib.hid h
  clear h
  go_enter Tryd.func33, Tryd.ntmps33
  go_wp2
  go_loopg [3, 4, 9] l.length (fun g x y z wr => ∃ k, k ≤ l.length ∧ g = l.length - k ∧ x = .int .u32 ((halves (l.take k)).1 : Nat) ∧ y = .int .u32 ((halves (l.take k)).2 : Nat) ∧ z = .int .i64 (k : Nat) ∧ wr = w)
  case atStart => exact ⟨0, by omega, rfl, rfl, rfl, rfl, rfl⟩
  case round =>
    obtain ⟨k, hk, rfl, rfl, rfl, rfl, rfl⟩ := hrel
    obtain ⟨X, hX⟩ : ∃ X, (halves (l.take k)).1 = X := ⟨_, rfl⟩
    obtain ⟨Y, hY⟩ : ∃ Y, (halves (l.take k)).2 = Y := ⟨_, rfl⟩
    have hb := halves_lt _ (l.take k) rfl
    rw [hX, hY] at hb ⊢
    obtain ⟨hX1, hY1⟩ := hb
    by_cases hlt : k < l.length
    · obtain ⟨b, off, rfl, hc⟩ := H.out.at_ hlt
      obtain ⟨z, hz⟩ : ∃ z : Nat, (l.getD k 0).toNat = z := ⟨_, rfl⟩
      have hz1 := UInt8.toNat_lt (l.getD k 0)
      rw [hz] at hc hz1
      have hnext : halves (l.take (k + 1)) = ((X + z) % 65521, (Y + (X + z) % 65521) % 65521) := by rw [take_snoc' l hlt, halves_snoc, hX, hY, hz]
      have HN := Lib.hid hnext
      have t1 : decide (k < l.length) = true := decide_eq_true hlt
      have HLT := Lib.hid hlt
      clear hz hX hY hnext
      go_wp2
      go_roundg (l.length - (k + 1))
      case rel => exact ⟨k + 1, HLT.out, rfl, by rw [HN.out]; simp, by rw [HN.out]; simp, by go_num, rfl⟩
      case measure => have := HLT.out; omega
    · obtain rfl : k = l.length := by omega
      have t1 : decide (l.length < l.length) = false := by simp
      have ho : bits .or .u32 ((Y : Int) * 65536) (X : Int) = ((Y * 65536 + X : Nat) : Int) := or_half Y X (by omega) (by omega)
      have HS : Hid (asum l = Y * 65536 + X) := Lib.hid (by rw [List.take_length] at hX hY; unfold asum; rw [hX, hY])
      clear hX hY
      go_wp2
      go_ret
      exact ⟨by rw [HS.out]; rfl, rfl⟩
end Go.Proofs.YtkpoeahnlldpgaaDoor
