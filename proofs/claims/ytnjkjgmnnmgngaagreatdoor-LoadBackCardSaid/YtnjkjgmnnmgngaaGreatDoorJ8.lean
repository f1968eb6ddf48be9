/- wire.put, wire.get, wire.Sum: contracts. slices.Clone of bytes, wire.Pack: contracts. wire.Unpack: the contract. Parcels: what Unpack says of a parcel, of one cut, longer or with one byte changed (pure); Unpack in one contract. -/
import Derived.Test.YtnjkjgmnnmgngaaGreatDoorJ1
import Derived.Test.YtnjkjgmnnmgngaaGreatDoorJ2
import Derived.Lib.UnsafeStr
import Derived.Lib.AppendStr
import Derived.Deep.LoopGhost
import Derived.Deep.DeepCutAuto
import Derived.Deep.QuietTactic
import Derived.BigQuiet
import Derived.WalkSmall
import Derived.Lib.SliceRun
import Derived.Lib.SlBytesConst
import Derived.ArgAppend
import Derived.Laws.IdiomStrings
import Derived.WalkSpells
import Derived.Deep.RegionWith
namespace Go.Proofs.YtnjkjgmnnmgngaaGreatDoor
section
open Go.RowKit

/-- A number as so many bytes, the highest first. -/
def be : Nat → Nat → List UInt8
  | 0, _ => []
  | m + 1, n => UInt8.ofNat (n / 256 ^ m) :: be m n
theorem byte_at (n j : Nat) : (n : Int) / 2 ^ (8 * j) % 256 = ((UInt8.ofNat (n / 256 ^ j)).toNat : Int) := by
  have e : (2 : Nat) ^ (8 * j) = 256 ^ j := by rw [Nat.pow_mul]
  have e2 : ((2 : Int) ^ (8 * j)) = ((2 ^ (8 * j) : Nat) : Int) := by simp
  rw [e2, e]
  simp
theorem be_len : ∀ m n, (be m n).length = m
  | 0, _ => rfl
  | m + 1, n => by simp [be, be_len m n]
theorem byteCells_snoc (l : List UInt8) (c : UInt8) : Lib.byteCells (l ++ [c]) = Lib.byteCells l ++ [.int .u8 c.toNat] := by simp [Lib.byteCells]
theorem Tryz.infoU8 : (Tryz.prog.info? 5).map (fun i => (i.zero, i.size, i.bytes)) = some (some (.int .u8 0), 1, 1) := by kernel_rfl

set_option maxHeartbeats 1000000 in
set_option maxRecDepth 100000 in
theorem put_any (base m k n : Nat) (v : Value) (xs : List Value) (w : World) (hown : w.ownsRow base 5 1 v k xs) (hk : k ≤ 100000000) (hbase : base ≤ w.heap.size) (hm : m ≤ 8) (_hn : n < 18446744073709551616) :
    Calls Tryz.prog 60 #[v, .int .u64 n, .int .i64 m] w fun e w' => ∃ v', e = .returned v' ∧ w'.ownsRow base 5 1 v' (k + m) (xs ++ Lib.byteCells (be m n)) ∧ Grew w v w' v' := by
  obtain ⟨i0, hi, hz0, hz1, hz2⟩ := info_parts Tryz.infoU8
  have HO := Lib.hid hown
  clear hown
  go_enter Tryz.func60, Tryz.ntmps60
  go_wp2
  go_loopg [0, 7] m (fun g x y wr => ∃ j pre, j ≤ m ∧ j = g ∧ y = .int .i64 ((j : Int) - 1) ∧ be m n = pre ++ be j n ∧ pre.length = m - j ∧ wr.ownsRow base 5 1 x (k + (m - j)) (xs ++ Lib.byteCells pre) ∧ Grew w v wr x)
  case atStart => exact ⟨m, [], Nat.le_refl _, rfl, rfl, rfl, by simp, by simpa [Lib.byteCells] using HO.out, Grew.refl _ _⟩
  case round =>
    obtain ⟨j, pre, hj, rfl, rfl, hpre, hlen, hown, hg⟩ := hrel
    have HP := Lib.hid hpre; have HLEN := Lib.hid hlen; have HOWN := Lib.hid hown; have HG := Lib.hid hg
    have hl : base ≤ wr.heap.size := Nat.le_trans hbase hg.1.size
    clear hpre hlen hown hg
    rcases j with _ | j
    · go_wp2
      go_ret
      refine ⟨_, rfl, ?_, HG.out⟩
      have h1 := HP.out
      simp [be] at h1
      rw [h1]
      exact HOWN.out
    · have ej : ((j + 1 : Nat) : Int) - 1 = (j : Int) := by omega
      rw [ej]
      clear ej
      obtain ⟨A, c, rfl⟩ := own_form HOWN.out
      go_wp2_with (at_builtin; refine wpList_app1g _ rfl _ _ 22 rfl base 5 i0 (.int .u8 0) 1 Tryz.underlying22 hi hz0 hz1 hz2 rfl _ (k + (m - (j + 1))) _ rfl HOWN.out _ rfl rfl (by omega) (by omega) hl ?_)
      intro A' c' w1 hown1 hgrow
      have HO1 := Lib.hid hown1; have HG1 := Lib.hid hgrow
      clear hown1 hgrow
      go_wp2
      go_roundg j
      case rel =>
        have hv : (n : Int) / 2 ^ (8 * j) % 256 = ((UInt8.ofNat (n / 256 ^ j)).toNat : Int) := by
          rw [byte_at]
        refine ⟨j, pre ++ [UInt8.ofNat (n / 256 ^ j)], by omega, rfl, rfl, ?_, ?_, ?_, HG.out.trans HG1.out⟩
        · rw [HP.out]; simp [be]
        · have := HLEN.out; simp; omega
        · have h1 := HO1.out
          rw [hv] at h1
          rw [byteCells_snoc]
          rw [show k + (m - j) = k + (m - (j + 1)) + 1 by omega]
          exact h1
      case measure => omega

theorem or_byte (N z : Nat) (hN : N < 72057594037927936) (hz : z < 256) : bits .or .u64 ((N : Int) * 256) (z : Int) = ((N * 256 + z : Nat) : Int) := by
  have e : ((N : Int) * 256) = ((N * 256 : Nat) : Int) := by simp
  have h2 : N * 256 ||| z = N * 256 + z := by
    have := Nat.shiftLeft_add_eq_or_of_lt (b := z) (i := 8) (by omega) N
    rw [Nat.shiftLeft_eq] at this
    exact this.symm
  rw [e]
  show IntKind.u64.wrap ((BitVec.ofInt 64 ((N * 256 : Nat) : Int) ||| BitVec.ofInt 64 (z : Int)).toNat : Int) = _
  rw [BitVec.toNat_or, BitVec.ofInt_natCast, BitVec.ofInt_natCast, BitVec.toNat_ofNat, BitVec.toNat_ofNat, Nat.mod_eq_of_lt (by omega), Nat.mod_eq_of_lt (by omega), h2, IntKind.wrap_u64]
  omega
/-- A slice that reads as these bytes. -/
def BytesV (w : World) (v : Value) (l : List UInt8) : Prop :=
  ∃ (A : Option Addr) (c : Nat), v = .slice A l.length c ∧ l.length ≤ c ∧ (0 < l.length → ∃ b off, A = some ⟨b, off, none⟩ ∧ ∀ i, i < l.length → w.cell? ⟨b, off + i, none⟩ = some (.int .u8 ((l.getD i 0).toNat : Int)))
theorem BytesV.keep {w w' : World} {v : Value} {l : List UInt8} (h : BytesV w v l) (hk : ∀ b, b < w.heap.size → (∃ A c off, v = .slice A l.length c ∧ A = some ⟨b, off, none⟩) → w'.heap[b]? = w.heap[b]?) : BytesV w' v l := by
  obtain ⟨A, c, rfl, hc, hr⟩ := h
  refine ⟨A, c, rfl, hc, fun h0 => ?_⟩
  obtain ⟨b, off, rfl, hcell⟩ := hr h0
  have hb := World.block_lt_of_cell? _ _ (hcell 0 h0)
  refine ⟨b, off, rfl, fun i hi => ?_⟩
  rw [World.cell?_of_block (w := w) (w' := w') (a := ⟨b, off + i, none⟩) (hk b hb ⟨_, _, _, rfl, rfl⟩)]
  exact hcell i hi
theorem BytesV.below {w w' : World} {v : Value} {l : List UInt8} (h : BytesV w v l) {B : Nat} (hb : Below B w w') (hB : w.heap.size ≤ B) : BytesV w' v l :=
  h.keep fun b hl _ => hb.block b (Nat.lt_of_lt_of_le hl hB)
theorem BytesV.drewN {w : World} {v : Value} {l : List UInt8} (h : BytesV w v l) (d : Nat) : BytesV (w.drewN d) v l := h
theorem BytesV.form {w : World} {v : Value} {l : List UInt8} (h : BytesV w v l) : ∃ A c, v = .slice A l.length c ∧ l.length ≤ c := by
  obtain ⟨A, c, rfl, hc, _⟩ := h
  exact ⟨_, _, rfl, hc⟩
theorem BytesV.at_ {w : World} {A : Option Addr} {n c : Nat} {l : List UInt8} (h : BytesV w (.slice A n c) l) {i : Nat} (hi : i < l.length) : ∃ b off, A = some ⟨b, off, none⟩ ∧ w.cell? ⟨b, off + i, none⟩ = some (.int .u8 ((l.getD i 0).toNat : Int)) := by
  obtain ⟨A', c', e, hc, hr⟩ := h
  injection e with e1 e2 e3
  subst e1
  obtain ⟨b, off, rfl, hcell⟩ := hr (by omega)
  exact ⟨b, off, rfl, hcell i hi⟩
theorem bytesV_nil (w : World) (c : Nat) (A : Option Addr) : BytesV w (.slice A 0 c) [] := ⟨A, c, rfl, Nat.zero_le _, fun h => by simp at h⟩
theorem own_bytesV {w : World} {base n : Nat} {v : Value} {l : List UInt8} (h : w.ownsRow base 5 1 v n (Lib.byteCells l)) : BytesV w v l := by
  have hn : l.length = n := by have := h.1; simp [Lib.byteCells] at this; omega
  subst hn
  have h0 := h
  rcases h.2 with ⟨rfl, h1⟩ | ⟨g, cap, cur, rfl, _, hh, hcap, _⟩
  · exact ⟨none, 0, by rw [h1], by omega, fun h => by omega⟩
  · refine ⟨_, _, rfl, hcap, fun hp => ⟨g, 0, rfl, fun i hi => ?_⟩⟩
    rw [Nat.zero_add, h0.cellAt i (by omega)]
    simp [Lib.byteCells, hi]

/-- The number of bytes, the highest first. -/
def num (l : List UInt8) : Nat := l.foldl (fun n c => n * 256 + c.toNat) 0
theorem num_snoc (l : List UInt8) (c : UInt8) : num (l ++ [c]) = num l * 256 + c.toNat := by simp [num]
theorem num_lt : ∀ (n : Nat) (l : List UInt8), l.length = n → num l < 256 ^ n
  | 0, l, h => by
    have : l = [] := List.eq_nil_of_length_eq_zero h
    subst this
    simp [num]
  | n + 1, l, h => by
    obtain ⟨l', c, rfl⟩ : ∃ l' c, l = l' ++ [c] := ⟨l.dropLast, l.getLast (by intro e; subst e; simp at h), (List.dropLast_concat_getLast _).symm⟩
    have h1 := num_lt n l' (by simpa using h)
    have h2 := UInt8.toNat_lt c
    rw [num_snoc, Nat.pow_succ]
    omega
theorem take_snoc' (l : List UInt8) {k : Nat} (h : k < l.length) : l.take (k + 1) = l.take k ++ [l.getD k 0] := by
  rw [List.take_succ_eq_append_getElem h]
  simp [List.getD, h]

set_option maxRecDepth 100000 in
theorem get_any (l : List UInt8) (v : Value) (w : World) (h : BytesV w v l) (hl : l.length ≤ 8) :
    Calls Tryz.prog 78 #[v] w fun e w' => e = .returned (.int .u64 (num l : Nat)) ∧ w' = w := by
  obtain ⟨A, c, rfl, _⟩ := h.form
  have H := Lib.hid h
  clear h
  go_enter Tryz.func78, Tryz.ntmps78
  go_wp2
  go_loopg [3, 8] l.length (fun g x y wr => ∃ k, k ≤ l.length ∧ g = l.length - k ∧ x = .int .u64 (num (l.take k) : Nat) ∧ y = .int .i64 (k : Nat) ∧ wr = w)
  case atStart => exact ⟨0, by omega, rfl, rfl, rfl, rfl⟩
  case round =>
    obtain ⟨k, hk, rfl, rfl, rfl, rfl⟩ := hrel
    by_cases hlt : k < l.length
    · obtain ⟨b, off, rfl, hc⟩ := H.out.at_ hlt
      obtain ⟨z, hz⟩ : ∃ z : Nat, (l.getD k 0).toNat = z := ⟨_, rfl⟩
      have hz1 := UInt8.toNat_lt (l.getD k 0)
      rw [hz] at hc hz1
      obtain ⟨N, hN⟩ : ∃ N, num (l.take k) = N := ⟨_, rfl⟩
      have hN1 := num_lt k (l.take k) (by rw [List.length_take]; omega)
      rw [hN] at hN1 ⊢
      have hp : 256 ^ k ≤ 256 ^ 7 := Nat.pow_le_pow_right (by omega) (by omega)
      have hN2 : N < 72057594037927936 := by omega
      have hnext : num (l.take (k + 1)) = N * 256 + z := by rw [take_snoc' l hlt, num_snoc, hN, hz]
      have HN := Lib.hid hnext
      have t1 : decide (k < l.length) = true := decide_eq_true hlt
      have hor : bits .or .u64 ((N : Int) * 256) (z : Int) = ((N * 256 + z : Nat) : Int) := or_byte N z (by omega) (by omega)
      have HLT := Lib.hid hlt
      clear hz hN hp hnext
      go_wp2
      go_roundg (l.length - (k + 1))
      case rel => exact ⟨k + 1, HLT.out, rfl, by rw [HN.out, Int.natCast_add, Int.natCast_mul]; rfl, by go_num, rfl⟩
      case measure => have := HLT.out; omega
    · obtain rfl : k = l.length := by omega
      have t1 : decide (l.length < l.length) = false := by simp
      go_wp2
      go_ret
      exact ⟨by simp, rfl⟩

/-- The two halves of the sum. -/
def halves (l : List UInt8) : Nat × Nat := l.foldl (fun p c => ((p.1 + c.toNat) % 65521, (p.2 + (p.1 + c.toNat) % 65521) % 65521)) (1, 0)
theorem halves_snoc (l : List UInt8) (c : UInt8) : halves (l ++ [c]) = (((halves l).1 + c.toNat) % 65521, ((halves l).2 + ((halves l).1 + c.toNat) % 65521) % 65521) := by simp [halves]
theorem halves_lt : ∀ (n : Nat) (l : List UInt8), l.length = n → (halves l).1 < 65521 ∧ (halves l).2 < 65521
  | 0, l, h => by
    have : l = [] := List.eq_nil_of_length_eq_zero h
    subst this
    simp [halves]
  | n + 1, l, h => by
    obtain ⟨l', c, rfl⟩ : ∃ l' c, l = l' ++ [c] := ⟨l.dropLast, l.getLast (by intro e; subst e; simp at h), (List.dropLast_concat_getLast _).symm⟩
    rw [halves_snoc]
    exact ⟨Nat.mod_lt _ (by omega), Nat.mod_lt _ (by omega)⟩
def asum (l : List UInt8) : Nat := (halves l).2 * 65536 + (halves l).1
theorem asum_lt (l : List UInt8) : asum l < 4294967296 := by
  have := halves_lt _ l rfl
  unfold asum
  omega
theorem or_half (H L : Nat) (hH : H < 65536) (hL : L < 65536) : bits .or .u32 ((H : Int) * 65536) (L : Int) = ((H * 65536 + L : Nat) : Int) := by
  have e : ((H : Int) * 65536) = ((H * 65536 : Nat) : Int) := by simp
  have h2 : H * 65536 ||| L = H * 65536 + L := by
    have := Nat.shiftLeft_add_eq_or_of_lt (b := L) (i := 16) (by omega) H
    rw [Nat.shiftLeft_eq] at this
    exact this.symm
  rw [e]
  show IntKind.u32.wrap ((BitVec.ofInt 32 ((H * 65536 : Nat) : Int) ||| BitVec.ofInt 32 (L : Int)).toNat : Int) = _
  rw [BitVec.toNat_or, BitVec.ofInt_natCast, BitVec.ofInt_natCast, BitVec.toNat_ofNat, BitVec.toNat_ofNat, Nat.mod_eq_of_lt (by omega), Nat.mod_eq_of_lt (by omega), h2, IntKind.wrap_u32]
  omega

set_option maxRecDepth 100000 in
theorem sum_any (l : List UInt8) (v : Value) (w : World) (h : BytesV w v l) (hl : l.length ≤ 1000000000) :
    Calls Tryz.prog 61 #[v] w fun e w' => e = .returned (.int .u32 (asum l : Nat)) ∧ w' = w := by
  obtain ⟨A, c, rfl, _⟩ := h.form
  have H := Lib.hid h
  clear h
  go_enter Tryz.func61, Tryz.ntmps61
  go_wp2
  go_loopg [3, 4, 9] l.length (fun g x y z wr => ∃ k, k ≤ l.length ∧ g = l.length - k ∧ x = .int .u32 ((halves (l.take k)).1 : Nat) ∧ y = .int .u32 ((halves (l.take k)).2 : Nat) ∧ z = .int .i64 (k : Nat) ∧ wr = w)
  case atStart => exact ⟨0, by omega, rfl, rfl, rfl, rfl, rfl⟩
  case round =>
    obtain ⟨k, hk, rfl, rfl, rfl, rfl, rfl⟩ := hrel
    obtain ⟨X, hX⟩ : ∃ X, (halves (l.take k)).1 = X := ⟨_, rfl⟩
    obtain ⟨Y, hY⟩ : ∃ Y, (halves (l.take k)).2 = Y := ⟨_, rfl⟩
    have hb := halves_lt _ (l.take k) rfl
    rw [hX, hY] at hb ⊢
    obtain ⟨hX1, hY1⟩ := hb
    by_cases hlt : k < l.length
    · obtain ⟨b, off, rfl, hc⟩ := H.out.at_ hlt
      obtain ⟨z, hz⟩ : ∃ z : Nat, (l.getD k 0).toNat = z := ⟨_, rfl⟩
      have hz1 := UInt8.toNat_lt (l.getD k 0)
      rw [hz] at hc hz1
      have hnext : halves (l.take (k + 1)) = ((X + z) % 65521, (Y + (X + z) % 65521) % 65521) := by rw [take_snoc' l hlt, halves_snoc, hX, hY, hz]
      have HN := Lib.hid hnext
      have t1 : decide (k < l.length) = true := decide_eq_true hlt
      have HLT := Lib.hid hlt
      clear hz hX hY hnext
      go_wp2
      go_roundg (l.length - (k + 1))
      case rel => exact ⟨k + 1, HLT.out, rfl, by rw [HN.out]; simp, by rw [HN.out]; simp, by go_num, rfl⟩
      case measure => have := HLT.out; omega
    · obtain rfl : k = l.length := by omega
      have t1 : decide (l.length < l.length) = false := by simp
      have ho : bits .or .u32 ((Y : Int) * 65536) (X : Int) = ((Y * 65536 + X : Nat) : Int) := or_half Y X (by omega) (by omega)
      have HS : Hid (asum l = Y * 65536 + X) := Lib.hid (by rw [List.take_length] at hX hY; unfold asum; rw [hX, hY])
      clear hX hY
      go_wp2
      go_ret
      exact ⟨by rw [HS.out]; rfl, rfl⟩
end

section
open Go.RowKit

theorem cells_at {w : World} {A : Option Addr} {c : Nat} {l : List UInt8} {ad : Addr} (h : BytesV w (.slice A l.length c) l) (hA : A = some ad) : ∀ j u, (Lib.byteCells l)[j]? = some u → w.cell? (ad.add j) = some u := by
  intro j u hu
  have hj : j < l.length := by
    have := (List.getElem?_eq_some_iff.1 hu).1
    simpa [Lib.byteCells] using this
  obtain ⟨b, off, e, hc⟩ := h.at_ hj
  rw [hA] at e
  injection e with e
  subst e
  have e2 : (⟨b, off, none⟩ : Addr).add j = ⟨b, off + j, none⟩ := by unfold Addr.add; split <;> simp_all
  rw [e2, hc]
  rw [← hu]
  simp [Lib.byteCells, hj]
theorem own_mono {w : World} {base base' e size n : Nat} {v : Value} {xs : List Value} (h : w.ownsRow base e size v n xs) (hb : base' ≤ base) : w.ownsRow base' e size v n xs := by
  refine ⟨h.1, ?_⟩
  rcases h.2 with h1 | ⟨g, cap, cur, rfl, hg, r⟩
  · exact Or.inl h1
  · exact Or.inr ⟨g, cap, cur, rfl, Nat.le_trans hb hg, r⟩
theorem byteCells_one (l : List UInt8) : ∀ u ∈ Lib.byteCells l, u.oneCell' = true := by
  intro u hu
  simp [Lib.byteCells] at hu
  obtain ⟨a, _, rfl⟩ := hu
  rfl

set_option maxRecDepth 100000 in
theorem clone_any (l : List UInt8) (v : Value) (w : World) (h : BytesV w v l) (hl : l.length ≤ 1000000000) :
    Calls Tryz.prog 62 #[v] w fun e w' => ∃ v', e = .returned v' ∧ w'.ownsRow w.heap.size 5 1 v' l.length (Lib.byteCells l) ∧ Below w.heap.size w w' := by
  obtain ⟨i0, hi, hz0, hz1, hz2⟩ := info_parts Tryz.infoU8
  obtain ⟨A, c, rfl, _⟩ := h.form
  have H := Lib.hid h
  have hq := fun W : World => Lib.run_eql_slice_nil (P := Tryz.prog) W 22 5 A l.length c 0 0 Tryz.underlying22
  clear h
  rcases A with _ | ad
  · have hl0 : l = [] := by
      rcases Nat.eq_zero_or_pos l.length with h0 | h0
      · exact List.eq_nil_of_length_eq_zero h0
      · obtain ⟨b, off, e, _⟩ := H.out.at_ h0
        cases e
    subst hl0
    have hq0 := fun W : World => Lib.run_eql_slice_nil (P := Tryz.prog) W 22 5 none 0 c 0 0 Tryz.underlying22
    clear hq
    go_enter Tryz.func62, Tryz.ntmps62
    go_wp2
    go_ret
    exact ⟨_, rfl, World.ownsRow_nil _ _ _ _, Below.refl _ _⟩
  · go_enter Tryz.func62, Tryz.ntmps62
    have ho : (w.alloc (.cells #[] 5)).ownsRow w.heap.size 5 1 (.slice (some ⟨w.heap.size, 0, none⟩) 0 0) 0 [] := World.ownsRow_lit w #[] 0 (Nat.le_refl _) (by unfold maxLen; omega) rfl
    have hc : ∀ j u, (Lib.byteCells l)[j]? = some u → (w.alloc (.cells #[] 5)).cell? (ad.add j) = some u := fun j u hu =>
      cells_at (H.out.below ((Below.refl _ _).alloc (Nat.le_refl _) _) (Nat.le_refl _)) rfl j u hu
    have HC := Lib.hid hc
    clear hc
    go_wp2_with (at_builtin; refine wpList_append_own_at _ rfl _ _ 22 rfl w.heap.size 5 i0 (.int .u8 0) 1 1 Tryz.underlying22 hi hz0 hz1 hz2 rfl (by decide) _ 0 [] rfl ho ad l.length c (Lib.byteCells l) rfl (by rw [Lib.byteCells_length, Nat.mul_one]) HC.out (byteCells_one l) (by unfold maxLen; omega) (by omega) (by simp) ?_)
    intro v' w1 hown hgrow _ _
    have hb : Below w.heap.size w w1 := ((Below.refl _ _).alloc (Nat.le_refl _) _).grown hgrow (by simp) (fun k hk => by simp [Value.ownBlock] at hk; omega)
    have HO := Lib.hid hown; have HB := Lib.hid hb
    clear hown hgrow hb
    go_wp2
    go_ret
    exact ⟨_, rfl, HO.out, HB.out⟩

theorem put4 (base k n : Nat) (N : Int) (hN : N = n) (v : Value) (xs : List Value) (w : World) (hown : w.ownsRow base 5 1 v k xs) (hk : k ≤ 100000000) (hbase : base ≤ w.heap.size) (hn : n < 18446744073709551616) :
    Calls Tryz.prog 60 #[v, .int .u64 N, .int .i64 4] w fun e w' => ∃ v', e = .returned v' ∧ w'.ownsRow base 5 1 v' (k + 4) (xs ++ Lib.byteCells (be 4 n)) ∧ Grew w v w' v' := by
  subst hN
  exact put_any base 4 k n v xs w hown hk hbase (by omega) hn
theorem put8 (base k n : Nat) (N : Int) (hN : N = n) (v : Value) (xs : List Value) (w : World) (hown : w.ownsRow base 5 1 v k xs) (hk : k ≤ 100000000) (hbase : base ≤ w.heap.size) (hn : n < 18446744073709551616) :
    Calls Tryz.prog 60 #[v, .int .u64 N, .int .i64 8] w fun e w' => ∃ v', e = .returned v' ∧ w'.ownsRow base 5 1 v' (k + 8) (xs ++ Lib.byteCells (be 8 n)) ∧ Grew w v w' v' := by
  subst hN
  exact put_any base 8 k n v xs w hown hk hbase (by omega) hn

/-- A list of bytes behind a row of the call's own. -/
theorem wpList_appBytes {P : Program} (w : World) {ops : Array Oper} {rest : List Oper} {o : Oper} {a : Act} {Q : Exit → Act → World → Prop} (hgd : o.guard = none) (s x : Operand) (t : TypeId)
    (ho : o.op = .call { callee := .builtin .append, args := #[s, x], argTypes := #[t, t] })
    (base : Nat) (i : TypeInfo) (ht : P.underlying t = some (.slice 5)) (hi : P.info? 5 = some i) (hz : i.zero = some (.int .u8 0))
    (hsize : i.size = 1) (hby : i.bytes = 1) (v : Value) (n : Nat) (xs : List Value) (hs : a.eval s = v) (hown : w.ownsRow base 5 1 v n xs)
    (u : Value) (l : List UInt8) (hx : a.eval x = u) (hu : BytesV w u l) (hn : n + l.length ≤ 1000000000) (hbase : base ≤ w.heap.size)
    (h : ∀ (A' : Option Addr) (c' : Nat) w', w'.ownsRow base 5 1 (.slice A' (n + l.length) c') (n + l.length) (xs ++ Lib.byteCells l) → Grew w v w' (.slice A' (n + l.length) c') → wpList P ops Q rest (a.put o.dst (.slice A' (n + l.length) c')) w') :
    wpList P ops Q (o :: rest) a w := by
  obtain ⟨A, c, rfl, _⟩ := hu.form
  rcases A with _ | ad
  · have hl0 : l = [] := by
      rcases Nat.eq_zero_or_pos l.length with h0 | h0
      · exact List.eq_nil_of_length_eq_zero h0
      · obtain ⟨b, off, e, _⟩ := hu.at_ h0
        cases e
    subst hl0
    obtain ⟨A', c', rfl⟩ := own_form hown
    refine wpList_plain hgd fun K hK => ?_
    have hr : (Builtin.append_ #[t, t] o.type #[.slice A' n c', .slice none 0 c]).run P w = .ok (.slice A' n c') w := by
      rcases hown.2 with ⟨h1, h2⟩ | ⟨g, cap, cur, h1, _, _, hnc, _⟩
      · injection h1 with e1 e2 e3
        subst e1 e2 e3
        simp [Builtin.append_, run_underlying ht, sizeOf, typeInfo, hi, Builtin.lenOf, Builtin.firstCells]
      · injection h1 with e1 e2 e3
        subst e1 e3
        simp [Builtin.append_, run_underlying ht, sizeOf, typeInfo, hi, Builtin.lenOf, Builtin.firstCells, hnc, storeCells]
    unfold Oper.wp execOp
    simp only [ho, resolve, invoke, builtin, Sem.run_bind, Sem.run_pure, Result.andThen_ok, List.map_toArray, List.map_cons, List.map_nil, hs, hx, List.length_nil, hr]
    exact hK _ _ (h A' c' w (by simpa [Lib.byteCells] using hown) (Grew.refl _ _))
  · refine wpList_append_own_at _ hgd s x t ho base 5 i (.int .u8 0) 1 1 ht hi hz hsize hby rfl (by decide) v n xs hs hown ad l.length c (Lib.byteCells l) hx (by rw [Lib.byteCells_length, Nat.mul_one]) (cells_at hu rfl) (byteCells_one l) (by unfold maxLen; omega) (by omega) hbase ?_
    intro v' w' hown' hgrow _ hloc
    obtain ⟨A', c', rfl⟩ := own_form hown'
    refine h A' c' w' hown' ⟨hgrow, ?_⟩
    rcases hloc with hl | hl
    · exact Or.inl hl
    · exact Or.inr ⟨_, hl, Nat.le_refl _⟩

/-- The parcel of a body. -/
def phead (k : UInt8) (l : List UInt8) : List UInt8 := [70, 87, 82, 75] ++ [k] ++ be 4 l.length ++ l
def parcel (k : UInt8) (l : List UInt8) : List UInt8 := phead k l ++ be 4 (asum (phead k l))
theorem phead_len (k : UInt8) (l : List UInt8) : (phead k l).length = l.length + 9 := by simp [phead, be_len]; omega
theorem parcel_len (k : UInt8) (l : List UInt8) : (parcel k l).length = l.length + 13 := by simp [parcel, phead_len, be_len]
theorem byteCells_app (a b : List UInt8) : Lib.byteCells (a ++ b) = Lib.byteCells a ++ Lib.byteCells b := by simp [Lib.byteCells]

set_option maxRecDepth 100000 in
set_option maxHeartbeats 1000000 in
theorem pack_any (k : UInt8) (l : List UInt8) (v : Value) (w : World) (h : BytesV w v l) (hl : l.length ≤ 90000000) :
    Calls Tryz.prog 34 #[.int .u8 (k.toNat : Int), v] w fun e w' => ∃ v', e = .returned v' ∧ w'.ownsRow w.heap.size 5 1 v' (l.length + 13) (Lib.byteCells (parcel k l)) ∧ Below w.heap.size w w' := by
  obtain ⟨i0, hi, hz0, hz1, hz2⟩ := info_parts Tryz.infoU8
  obtain ⟨A, c, rfl, _⟩ := h.form
  have H := Lib.hid h
  clear h
  have kc := fun (w : World) (C : Array Value) (n c : Nat) => Lib.run_convert_bytes_const (P := Tryz.prog) w 22 5 C n c Tryz.underlying22 Tryz.underlying5
  go_enter Tryz.func34, Tryz.ntmps34
  go_wp2_with (at_builtin; refine wpList_append_arg _ rfl _ _ 22 rfl 5 i0 (.int .u8 0) 1 1 Tryz.underlying22 hi hz0 hz1 hz2 rfl (by decide) w.heap.size 0 4 4 (Lib.byteCells [70, 87, 82, 75]) rfl rfl ?h1 ⟨w.heap.size + 1, 0, none⟩ 1 1 [.int .u8 (k.toNat : Int)] rfl rfl ?h2 ?h3 (fun h => absurd h (by decide)) (by unfold maxLen; omega) (by decide) (fun h => absurd h (by decide)) ?_)
  case h1 =>
    intro j u hj
    have hh : ((w.alloc (.cells #[.int .u8 70, .int .u8 87, .int .u8 82, .int .u8 75] 5 (4, 5))).alloc (.cells #[.int .u8 (k.toNat : Int)] 5)).heap[w.heap.size]? = some (.cells #[.int .u8 70, .int .u8 87, .int .u8 82, .int .u8 75] 5 (4, 5)) := heap_alloc2_old w _ _
    rw [Nat.zero_add, cell_of_row _ _ j _ _ _ hh, ← hj]
    match j with
    | 0 => rfl
    | 1 => rfl
    | 2 => rfl
    | 3 => rfl
    | n + 4 => rfl
  case h2 =>
    intro j u hj
    match j, hj with
    | 0, hj => simp at hj; subst hj; simp [Addr.add]
  case h3 => intro u hu; simp at hu; subst hu; rfl
  intro v1 w1 hown1 hgrow1
  obtain ⟨A1, c1, rfl⟩ := own_form hown1
  have ho1 : w1.ownsRow w.heap.size 5 1 (.slice A1 5 c1) 5 (Lib.byteCells ([70, 87, 82, 75] ++ [k])) := by
    rw [byteCells_app]
    exact own_mono hown1 (by first | omega | (simp; omega) | simp)
  have hb1 : Below w.heap.size w w1 := (((Below.refl _ _).alloc (Nat.le_refl _) _).alloc (by simp) _).grown hgrow1 (by simp; omega) (fun k hk => by cases hk)
  have P1 := Lib.hid (put4 w.heap.size 5 l.length l.length rfl _ _ w1 ho1 (by omega) hb1.size (by omega))
  have HO1 := Lib.hid ho1; have HB1 := Lib.hid hb1
  clear hown1 hgrow1 ho1 hb1 kc
  go_wp2_with fail
  refine P1.out.mono ?_; rintro e w2 ⟨v2, rfl, hown2, hgrow2⟩
  obtain ⟨A2, c2, rfl⟩ := own_form hown2
  have hb2 : Below w.heap.size w w2 := hgrow2.below HO1.out HB1.out (Nat.le_refl _) HB1.out.size
  have HO2 := Lib.hid hown2; have HB2 := Lib.hid hb2
  have hs2 := hb2.size
  clear hown2 hgrow2 hb2
  go_wp2_with (at_builtin; refine wpList_appBytes _ rfl _ _ 22 rfl w.heap.size i0 Tryz.underlying22 hi hz0 hz1 hz2 _ 9 _ rfl HO2.out _ l rfl (H.out.below HB2.out (Nat.le_refl _)) (by omega) hs2 ?_)
  intro A3 c3 w3 hown3 hgrow3
  have ho3 : w3.ownsRow w.heap.size 5 1 (.slice A3 (9 + l.length) c3) (9 + l.length) (Lib.byteCells (phead k l)) := by
    unfold phead
    rw [byteCells_app, byteCells_app]
    exact hown3
  have hb3 : Below w.heap.size w w3 := hgrow3.below HO2.out HB2.out (Nat.le_refl _) hs2
  have SU := Lib.hid (sum_any (phead k l) _ w3 (own_bytesV ho3) (by rw [phead_len]; omega))
  have ha := asum_lt (phead k l)
  obtain ⟨s, hs⟩ : ∃ s, asum (phead k l) = s := ⟨_, rfl⟩
  rw [hs] at ha SU
  have P3 := Lib.hid (put4 w.heap.size (9 + l.length) s s rfl _ _ w3 ho3 (by omega) hb3.size (by omega))
  have HO3 := Lib.hid ho3; have HB3 := Lib.hid hb3; have HS := Lib.hid hs
  clear hown3 hgrow3 ho3 hb3 hs
  go_wp2_with fail
  refine SU.out.mono ?_; rintro e w4 ⟨rfl, rfl⟩
  go_wp2_with fail
  refine P3.out.mono ?_; rintro e w5 ⟨v5, rfl, hown5, hgrow5⟩
  have hb5 : Below w.heap.size w w5 := hgrow5.below HO3.out HB3.out (Nat.le_refl _) HB3.out.size
  have ho5 : w5.ownsRow w.heap.size 5 1 v5 (l.length + 13) (Lib.byteCells (parcel k l)) := by
    unfold parcel
    rw [byteCells_app, HS.out, show l.length + 13 = 9 + l.length + 4 by omega]
    exact hown5
  have HB5 := Lib.hid hb5; have HO5 := Lib.hid ho5
  clear hown5 hgrow5 hb5 ho5
  go_wp2
  go_ret
  exact ⟨_, rfl, HO5.out, HB5.out⟩
end

section
open Go.RowKit

theorem BytesV.cells {w : World} {A : Option Addr} {n c : Nat} {l : List UInt8} (h : BytesV w (.slice A n c) l) (h0 : 0 < l.length) : n = l.length ∧ l.length ≤ c ∧ ∃ b off, A = some ⟨b, off, none⟩ ∧ ∀ i, i < l.length → w.cell? ⟨b, off + i, none⟩ = some (.int .u8 ((l.getD i 0).toNat : Int)) := by
  obtain ⟨A', c', e, hc, hr⟩ := h
  injection e with e1 e2 e3
  subst e1 e2 e3
  exact ⟨rfl, hc, hr h0⟩
theorem window {w : World} {b off : Nat} {l : List UInt8} (hc : ∀ i, i < l.length → w.cell? ⟨b, off + i, none⟩ = some (.int .u8 ((l.getD i 0).toNat : Int))) (i j c' : Nat) (hij : i ≤ j) (hj : j ≤ l.length) (hcc : j - i ≤ c') : BytesV w (.slice (some ⟨b, off + i, none⟩) (j - i) c') ((l.take j).drop i) := by
  have hlen : ((l.take j).drop i).length = j - i := by rw [List.length_drop, List.length_take]; omega
  refine ⟨some ⟨b, off + i, none⟩, c', by rw [hlen], by rw [hlen]; exact hcc, fun _ => ⟨b, off + i, rfl, fun t ht => ?_⟩⟩
  rw [hlen] at ht
  rw [Nat.add_assoc, hc (i + t) (by omega)]
  have e : ((l.take j).drop i).getD t 0 = l.getD (i + t) 0 := by
    simp [List.getD, List.getElem?_drop, show i + t < j by omega]
  rw [e]

/-- What is wrong with a parcel: its code. -/
def up (l : List UInt8) : Option Int :=
  if l.length < 4 ∨ l.take 4 ≠ [70, 87, 82, 75] then some 2
  else if l.length < 13 then some 9
  else if l.length - 13 < num ((l.take 9).drop 5) then some 9
  else if num ((l.take 9).drop 5) < l.length - 13 then some 2
  else if asum (l.take (l.length - 4)) ≠ num (l.drop (l.length - 4)) then some 8
  else none
/-- A fault of a code at place 0. -/
def FaultOf (c : Int) (w : World) (v : Value) : Prop := ∃ b : Nat, v = .iface 60 (.pointer (some ⟨b, 0, none⟩)) ∧ ∃ (a : Int) (s : ByteArray), Whole w b 63 #[.int .i64 c, .int .i64 a, .string s] ∧ s.size ≤ 100
def UnpackTells (l : List UInt8) (w : World) (e : Ending) (w' : World) : Prop :=
  (∀ c, up l = some c → ∃ v, e = .returned (.tuple #[.int .u8 0, .slice none 0 0, v]) ∧ FaultOf c w' v) ∧
  (up l = none → ∃ v, e = .returned (.tuple #[.int .u8 ((l.getD 4 0).toNat : Int), v, .nilIface]) ∧ w'.ownsRow w.heap.size 5 1 v (l.length - 13) (Lib.byteCells ((l.take (l.length - 4)).drop 9))) ∧ Below w.heap.size w w'
theorem tells_fault {l : List UInt8} {w : World} {c a : Int} {s : ByteArray} (h : up l = some c) (d : Nat) (hs : s.size ≤ 100) : UnpackTells l w (.returned (.tuple #[.int .u8 0, .slice none 0 0, .iface 60 (.pointer (some ⟨w.heap.size, 0, none⟩))])) ((w.drewN d).alloc (.cells #[.int .i64 c, .int .i64 a, .string s] 63)) := by
  refine ⟨fun c' h' => ⟨_, rfl, w.heap.size, rfl, ?_⟩, fun h' => ?_, (below_drewN' (Below.refl _ _) d).alloc (Nat.le_refl _) _⟩
  · rw [h] at h'
    injection h' with h'
    subst h'
    exact ⟨a, s, Whole.new (w.drewN d) 63 #[.int .i64 c, .int .i64 a, .string s], hs⟩
  · rw [h] at h'
    cases h'

set_option maxRecDepth 100000 in
set_option maxHeartbeats 1000000 in
theorem unpack_short (l : List UInt8) (v : Value) (w : World) (h : BytesV w v l) (hl : l.length < 4) :
    Calls Tryz.prog 52 #[v] w (UnpackTells l w) := by
  obtain ⟨A, c, rfl, _⟩ := h.form
  have HU : Hid (up l = some 2) := Lib.hid (by unfold up; rw [if_pos (Or.inl hl)])
  have t1 : decide ((l.length : Int) < 4) = true := decide_eq_true (by omega)
  clear h
  go_enter Tryz.func52, Tryz.ntmps52
  go_wp2_with fail
  refine (new_any _ _ _ _).mono ?_; rintro e w1 ⟨rfl, rfl⟩
  go_wp2_with fail
  go_ret3
  exact tells_fault HU.out 0 (by decide)

set_option maxRecDepth 100000 in
set_option maxHeartbeats 1000000 in
theorem unpack_mark (l : List UInt8) (v : Value) (w : World) (h : BytesV w v l) (hl : ¬ l.length < 4) (hm : l.take 4 ≠ [70, 87, 82, 75]) :
    Calls Tryz.prog 52 #[v] w (UnpackTells l w) := by
  obtain ⟨A, c, rfl, _⟩ := h.form
  obtain ⟨_, hcap, b, off, rfl, hc⟩ := h.cells (by omega)
  have HU : Hid (up l = some 2) := Lib.hid (by unfold up; rw [if_pos (Or.inr hm)])
  have t1 : decide ((l.length : Int) < 4) = false := decide_eq_false (by omega)
  have hw := window hc 0 4 c (by omega) (by omega) (by omega)
  have kc := run_convert_bytes_back (P := Tryz.prog) w 22 9 5 ⟨b, off, none⟩ c (l.take 4) Tryz.underlying22 Tryz.underlying5 Tryz.underlying9 (fun j hj => by
    have hj4 : j < 4 := by rw [List.length_take] at hj; omega
    have e2 : (⟨b, off, none⟩ : Addr).add j = ⟨b, off + j, none⟩ := by unfold Addr.add; split <;> simp_all
    rw [e2, hc j (by omega)]
    simp [List.getD, show j < l.length by omega])
  have h4 : (l.take 4).length = 4 := by rw [List.length_take]; omega
  rw [h4] at kc
  obtain ⟨s, hs⟩ : ∃ s : ByteArray, (⟨(l.take 4).toArray⟩ : ByteArray) = s := ⟨_, rfl⟩
  rw [hs] at kc
  have t2 : (s.toList == [70, 87, 82, 75]) = false := by
    rw [← hs, ByteArray.toList_mk]
    simpa using hm
  clear h hw hs hm hc
  go_enter Tryz.func52, Tryz.ntmps52
  go_wp2_with fail
  refine (new_any _ _ _ _).mono ?_; rintro e w1 ⟨rfl, rfl⟩
  go_wp2_with fail
  go_ret3
  exact tells_fault HU.out 0 (by decide)

theorem quiet_same {P : Program} {f : FuncId} {args : Array Value} {w : World} {v : Value} (h : ∀ d, Calls P f args (w.drewN d) fun e w' => e = .returned v ∧ w' = w.drewN d) (n : Nat) : Calls P f args (w.drewN n) fun e w'' => e = .returned v ∧ ∃ m, w'' = w.drewN m :=
  Calls.quiet_of_same (h n)

set_option maxRecDepth 100000 in
set_option maxHeartbeats 4000000 in
theorem unpack_good (l : List UInt8) (v : Value) (w : World) (h : BytesV w v l) (hl : ¬ l.length < 4) (hm : l.take 4 = [70, 87, 82, 75]) (hbig : l.length ≤ 100000000) :
    Calls Tryz.prog 52 #[v] w (UnpackTells l w) := by
  obtain ⟨A, c, rfl, _⟩ := h.form
  obtain ⟨_, hcap, b, off, rfl, hc⟩ := h.cells (by omega)
  have t1 : decide ((l.length : Int) < 4) = false := decide_eq_false (by omega)
  have kc := run_convert_bytes_back (P := Tryz.prog) w 22 9 5 ⟨b, off, none⟩ c (l.take 4) Tryz.underlying22 Tryz.underlying5 Tryz.underlying9 (fun j hj => by
    have hj4 : j < 4 := by rw [List.length_take] at hj; omega
    have e2 : (⟨b, off, none⟩ : Addr).add j = ⟨b, off + j, none⟩ := by unfold Addr.add; split <;> simp_all
    rw [e2, hc j (by omega)]
    simp [List.getD, show j < l.length by omega])
  have h4 : (l.take 4).length = 4 := by rw [List.length_take]; omega
  rw [h4] at kc
  obtain ⟨s, hs⟩ : ∃ s : ByteArray, (⟨(l.take 4).toArray⟩ : ByteArray) = s := ⟨_, rfl⟩
  rw [hs] at kc
  have t2 : (s.toList == [70, 87, 82, 75]) = true := by
    rw [← hs, ByteArray.toList_mk]
    simpa using hm
  have hu1 : ¬ (l.length < 4 ∨ l.take 4 ≠ [70, 87, 82, 75]) := by
    rintro (h | h)
    · exact hl h
    · exact h hm
  by_cases h13 : l.length < 13
  · have t3 : decide ((l.length : Int) < 13) = true := decide_eq_true (by omega)
    have HU : Hid (up l = some 9) := Lib.hid (by unfold up; rw [if_neg hu1, if_pos h13])
    clear h hs hm hc hu1
    go_enter Tryz.func52, Tryz.ntmps52
    go_wp2_with fail
    refine (new_any _ _ _ _).mono ?_; rintro e w1 ⟨rfl, rfl⟩
    go_wp2_with fail
    go_ret3
    exact tells_fault HU.out 0 (by decide)
  · have t3 : decide ((l.length : Int) < 13) = false := decide_eq_false (by omega)
    obtain ⟨n, hn⟩ : ∃ n, l.length = n := ⟨_, rfl⟩
    obtain ⟨en, hen⟩ : ∃ en : Nat, (n : Int) - 4 = en := ⟨n - 4, by omega⟩
    obtain ⟨bo, hbo⟩ : ∃ bo : Nat, (en : Int) - 9 = bo := ⟨n - 13, by omega⟩
    have W1 := Lib.hid (window hc 5 9 (c - 5) (by omega) (by omega) (by omega))
    have W2 := Lib.hid (window hc 0 en c (by omega) (by omega) (by omega))
    have W3 := Lib.hid (window hc en n (c - en) (by omega) (by omega) (by omega))
    have W4 := Lib.hid (window hc 9 en (c - 9) (by omega) (by omega) (by omega))
    have hc4 := hc 4 (by omega)
    obtain ⟨N, hN⟩ : ∃ N, num ((l.take 9).drop 5) = N := ⟨_, rfl⟩
    have hN1 := num_lt 4 ((l.take 9).drop 5) (by rw [List.length_drop, List.length_take]; omega)
    rw [hN] at hN1
    have G1 := Lib.hid (get_any _ _ w W1.out (by rw [List.length_drop, List.length_take]; omega))
    rw [hN] at G1
    have hen' : en = n - 4 := by omega
    have hbo' : bo = n - 13 := by omega
    rw [hn] at t1 t3 hcap
    have HN := Lib.hid hN; have HNN := Lib.hid hn; have HEN := Lib.hid hen'; have HBO := Lib.hid hbo'; have HU1 := Lib.hid hu1; have H13 := Lib.hid h13; have HC := Lib.hid hc
    have hcn : ((c : Int) < n) = False := by simp; omega
    clear h hs hm hc hu1 hN hen' hbo' h13
    rw [hn]
    have hnb : n ≤ 100000000 := by have := HNN.out; omega
    have heb : en ≤ 100000000 := by have := HEN.out; omega
    have heb2 : (9 : Int) ≤ en := by have := HEN.out; have := H13.out; have := HNN.out; omega
    have hn4 : 13 ≤ n := by have := H13.out; have := HNN.out; omega
    clear hn
    have N1 : N < 4294967296 := by omega
    clear hN1
    by_cases hgt : bo < N
    · have t4 : decide ((bo : Int) < N) = true := decide_eq_true (by omega)
      have t4' : decide (bo < N) = true := decide_eq_true (by omega)
      have HU : Hid (up l = some 9) := Lib.hid (by unfold up; rw [if_neg HU1.out, if_neg H13.out, HN.out, HNN.out, if_pos (by have := HBO.out; omega)])
      clear hgt
      go_enter Tryz.func52, Tryz.ntmps52
      go_wp2_with fail
      refine G1.out.mono ?_; rintro e w1 ⟨rfl, hw1⟩; obtain rfl := hw1.symm
      go_wp2_with fail
      refine (new_any _ _ _ _).mono ?_; rintro e w2 ⟨rfl, rfl⟩
      go_wp2_with fail
      go_ret3
      exact tells_fault HU.out 0 (by decide)
    · by_cases hlt : N < bo
      · have t4 : decide ((bo : Int) < N) = false := decide_eq_false (by omega)
        have t5 : decide ((N : Int) < bo) = true := decide_eq_true (by omega)
        have t4' : decide (bo < N) = false := decide_eq_false (by omega)
        have t5' : decide (N < bo) = true := decide_eq_true (by omega)
        have HU : Hid (up l = some 2) := Lib.hid (by
          have := HBO.out
          unfold up
          rw [if_neg HU1.out, if_neg H13.out, HN.out, HNN.out, if_neg (by omega), if_pos (by omega)])
        clear hgt hlt
        go_enter Tryz.func52, Tryz.ntmps52
        go_wp2_with fail
        refine G1.out.mono ?_; rintro e w1 ⟨rfl, hw1⟩; obtain rfl := hw1.symm
        go_wp2_with fail
        refine (new_any _ _ _ _).mono ?_; rintro e w2 ⟨rfl, rfl⟩
        go_wp2_with fail
        go_ret3
        exact tells_fault HU.out 0 (by decide)
      · obtain rfl : N = bo := by omega
        have t4' : decide (N < N) = false := by simp
        have S1 := Lib.hid (fun d => sum_any _ _ (w.drewN d) (W2.out.drewN d) (by rw [List.length_drop, List.length_take]; omega))
        have G2 := Lib.hid (fun d => get_any _ _ (w.drewN d) (W3.out.drewN d) (by rw [List.length_drop, List.length_take]; have := HEN.out; omega))
        have hpre : up l = if asum (l.take (l.length - 4)) ≠ num (l.drop (l.length - 4)) then some 8 else none := by
          have := HBO.out
          unfold up
          rw [if_neg HU1.out, if_neg H13.out, HN.out, if_neg (by have := HNN.out; omega), if_neg (by have := HNN.out; omega)]
        rw [HNN.out, ← HEN.out] at hpre
        have e1 : (l.take en).drop 0 = l.take en := by simp
        have e2 : (l.take n).drop en = l.drop en := by rw [List.take_of_length_le (by have := HNN.out; omega)]
        rw [e1] at S1
        rw [e2] at G2
        have a1 := asum_lt (l.take en)
        have a2 := num_lt 4 (l.drop en) (by rw [List.length_drop]; have := HNN.out; have := HEN.out; omega)
        obtain ⟨x, hx⟩ : ∃ x, asum (l.take en) = x := ⟨_, rfl⟩
        obtain ⟨y, hy⟩ : ∃ y, num (l.drop en) = y := ⟨_, rfl⟩
        rw [hx] at S1 a1 hpre
        rw [hy] at G2 a2 hpre
        have HPRE := Lib.hid hpre
        have a2' : y < 4294967296 := by omega
        have en1 : (en : Int) ≤ n := by have := HEN.out; omega
        have en2 : (en : Int) ≤ c := by have := HEN.out; omega
        have en3 : ¬ c = en := by have := HEN.out; omega
        have n9 : ¬ c = 9 := by omega
        clear hpre e1 e2 hx hy a2 hgt hlt
        by_cases hxy : x = y
        · subst hxy
          have t6 : (x != x) = false := by simp
          go_enter Tryz.func52, Tryz.ntmps52
          go_wp2_with fail
          refine G1.out.mono ?_; rintro e w1 ⟨rfl, hw1⟩; obtain rfl := hw1.symm
          go_wp2_with fail
          go_quiet ((first | (go_at_call 61; with_reducible exact Calls.quiet_of_same (S1.out _)) | (go_at_call 78; with_reducible exact Calls.quiet_of_same (G2.out _))))
          go_wp2_with fail
          have hlb : b < w.heap.size := World.block_lt_of_cell? _ _ hc4
          have CL := Lib.hid (fun W (hb : Below w.heap.size w W) => clone_any ((l.take en).drop 9) _ W (W4.out.below hb (Nat.le_refl _)) (by rw [List.length_drop, List.length_take]; omega))
          obtain ⟨k4, hk4⟩ : ∃ k4 : Int, ((l.getD 4 0).toNat : Int) = k4 := ⟨_, rfl⟩
          rw [hk4] at hc4
          have HK4 := Lib.hid hk4
          clear hk4 kc S1 G1 G2
          go_region_with ((go_at_call 62
                           refine (CL.out _ (below_drewN' (Below.refl _ _) _)).mono ?_
                           rintro e' w3 ⟨v3, rfl, hown3', hb3'⟩
                           have hb3 : Below w.heap.size w w3 := ⟨hb3'.os, hb3'.tape, hb3'.output, hb3'.size, hb3'.block⟩
                           have hown3 : w3.ownsRow w.heap.size 5 1 v3 ((l.take en).drop 9).length (Lib.byteCells ((l.take en).drop 9)) := hown3'
                           have d4 := (hb3.cell (p := ⟨b, off + 4, none⟩) hlb).trans hc4
                           have HB3 := Lib.hid hb3
                           have HO3 := Lib.hid hown3
                           clear hb3' hb3 hown3' hown3))
          all_goals
            go_wp2
            go_ret3
            refine ⟨fun c' h' => ?_, fun _ => ⟨v3, by rw [HK4.out]; rfl, ?_⟩, ?_⟩
            · have := HPRE.out; simp at this; rw [this] at h'; cases h'
            · rw [HNN.out, ← HEN.out]
              have := HO3.out
              rw [List.length_drop, List.length_take, show min en l.length - 9 = n - 13 by have := HNN.out; have := HEN.out; omega] at this
              exact this
            · exact HB3.out
        · have t6 : (x != y) = true := by simpa using hxy
          have HU : Hid (up l = some 8) := Lib.hid (by rw [HPRE.out, if_pos hxy])
          go_enter Tryz.func52, Tryz.ntmps52
          go_wp2_with fail
          refine G1.out.mono ?_; rintro e w1 ⟨rfl, hw1⟩; obtain rfl := hw1.symm
          go_wp2_with fail
          go_quiet ((first | (go_at_call 61; with_reducible exact Calls.quiet_of_same (S1.out _)) | (go_at_call 78; with_reducible exact Calls.quiet_of_same (G2.out _))))
          go_wp2_with fail
          refine (new_any _ _ _ _).mono ?_; rintro e w2 ⟨rfl, rfl⟩
          go_wp2_with fail
          go_ret3
          exact tells_fault HU.out _ (by decide)
end

section
open Go.RowKit

theorem unpack_any (l : List UInt8) (v : Value) (w : World) (h : BytesV w v l) (hbig : l.length ≤ 100000000) :
    Calls Tryz.prog 52 #[v] w (UnpackTells l w) := by
  rcases Nat.lt_or_ge l.length 4 with hl | hl
  · exact unpack_short l v w h hl
  · by_cases hm : l.take 4 = [70, 87, 82, 75]
    · exact unpack_good l v w h (by omega) hm hbig
    · exact unpack_mark l v w h (by omega) hm

/-! ## Numbers as bytes -/
theorem be_app (a b n : Nat) : be (a + b) n = be a (n / 256 ^ b) ++ be b n := by
  induction a with
  | zero => simp [be]
  | succ a ih =>
    rw [show a + 1 + b = (a + b) + 1 by omega]
    simp only [be, ih, List.cons_append]
    rw [Nat.pow_add, Nat.mul_comm (256 ^ a), Nat.div_div_eq_div_mul]
theorem be_snoc (m n : Nat) : be (m + 1) n = be m (n / 256) ++ [UInt8.ofNat n] := by
  have := be_app m 1 n
  simpa [be] using this
theorem num_be : ∀ (m n : Nat), num (be m n) = n % 256 ^ m
  | 0, n => by simp [be, num]; omega
  | m + 1, n => by
    rw [be_snoc, num_snoc, num_be m, Nat.pow_succ]
    have h1 : (UInt8.ofNat n).toNat = n % 256 := by simp
    rw [h1, Nat.mul_comm (256 ^ m) 256, Nat.mod_mul]
    omega
theorem be_num : ∀ (m : Nat) (l : List UInt8), l.length = m → be m (num l) = l
  | 0, l, h => by rw [List.eq_nil_of_length_eq_zero h]; rfl
  | m + 1, l, h => by
    obtain ⟨l', c, rfl⟩ : ∃ l' c, l = l' ++ [c] := ⟨l.dropLast, l.getLast (by intro e; subst e; simp at h), (List.dropLast_concat_getLast _).symm⟩
    have hc := UInt8.toNat_lt c
    rw [be_snoc, num_snoc]
    have e1 : (num l' * 256 + c.toNat) / 256 = num l' := by omega
    rw [e1, be_num m l' (by simpa using h)]
    congr 2
    apply UInt8.toNat_inj.1
    simp

/-! ## A parcel's parts -/
theorem phead_parts (k : UInt8) (l : List UInt8) : (phead k l).take 4 = [70, 87, 82, 75] ∧ (phead k l).getD 4 0 = k ∧ ((phead k l).take 9).drop 5 = be 4 l.length ∧ (phead k l).drop 9 = l := by
  have hb := be_len 4 l.length
  refine ⟨by simp [phead], by simp [phead], ?_, ?_⟩
  · have e : phead k l = ([70, 87, 82, 75, k] ++ be 4 l.length) ++ l := by simp [phead]
    rw [e, List.take_left' (by simp [hb])]
    simp
  · have e : phead k l = ([70, 87, 82, 75, k] ++ be 4 l.length) ++ l := by simp [phead]
    rw [e, List.drop_left' (by simp [hb])]
theorem take_pre (k : UInt8) (l x : List UInt8) (n : Nat) (hn : n ≤ 9) : (phead k l ++ x).take n = (phead k l).take n := by
  rw [List.take_append_of_le_length (by rw [phead_len]; omega)]
theorem getD_pre (k : UInt8) (l x : List UInt8) : (phead k l ++ x).getD 4 0 = k := by
  have := (phead_parts k l).2.1
  simp [phead]
theorem up_parcel (k : UInt8) (l : List UInt8) (hl : l.length < 4294967296) : up (parcel k l) = none := by
  obtain ⟨h1, h2, h3, h4⟩ := phead_parts k l
  have hlen := parcel_len k l
  have hph := phead_len k l
  have hs := asum_lt (phead k l)
  have e1 : (parcel k l).take ((parcel k l).length - 4) = phead k l := by
    rw [hlen, parcel, List.take_left' (by omega)]
  have e2 : (parcel k l).drop ((parcel k l).length - 4) = be 4 (asum (phead k l)) := by
    rw [hlen, parcel, List.drop_left' (by omega)]
  unfold up
  rw [e1, e2]
  unfold parcel
  rw [take_pre k l _ 4 (by omega), take_pre k l _ 9 (by omega), h1, h3, num_be, num_be]
  have e3 : l.length % 256 ^ 4 = l.length := Nat.mod_eq_of_lt (by omega)
  have e4 : asum (phead k l) % 256 ^ 4 = asum (phead k l) := Nat.mod_eq_of_lt (by omega)
  rw [e3, e4]
  have e5 : (phead k l ++ be 4 (asum (phead k l))).length = l.length + 13 := hlen
  rw [e5]
  rw [if_neg (by simp), if_neg (by omega), if_neg (by omega), if_neg (by omega), if_neg (by simp)]
theorem parcel_body (k : UInt8) (l : List UInt8) : ((parcel k l).take ((parcel k l).length - 4)).drop 9 = l := by
  have hph := phead_len k l
  rw [parcel_len, parcel, List.take_left' (by omega)]
  exact (phead_parts k l).2.2.2
theorem parcel_kind (k : UInt8) (l : List UInt8) : (parcel k l).getD 4 0 = k := getD_pre k l _

/-- What unpacks is a parcel. -/
theorem up_none {q : List UInt8} (h : up q = none) : 13 ≤ q.length ∧ q = parcel (q.getD 4 0) ((q.take (q.length - 4)).drop 9) := by
  unfold up at h
  split at h
  · cases h
  rename_i h1
  split at h
  · cases h
  rename_i h2
  split at h
  · cases h
  rename_i h3
  split at h
  · cases h
  rename_i h4
  split at h
  · cases h
  rename_i h5
  have h1' : q.take 4 = [70, 87, 82, 75] := by
    rcases Classical.em (q.take 4 = [70, 87, 82, 75]) with e | e
    · exact e
    · exact absurd (Or.inr e) h1
  have hlen : 13 ≤ q.length := by omega
  refine ⟨hlen, ?_⟩
  have hnum : num ((q.take 9).drop 5) = q.length - 13 := by omega
  have hsum : asum (q.take (q.length - 4)) = num (q.drop (q.length - 4)) := by
    rcases Classical.em (asum (q.take (q.length - 4)) = num (q.drop (q.length - 4))) with e | e
    · exact e
    · exact absurd e h5
  have hbl : ((q.take (q.length - 4)).drop 9).length = q.length - 13 := by simp; omega
  have hhead : phead (q.getD 4 0) ((q.take (q.length - 4)).drop 9) = q.take (q.length - 4) := by
    have e9 : be 4 (q.length - 13) = (q.take 9).drop 5 := by
      rw [← hnum]
      exact be_num 4 _ (by simp; omega)
    unfold phead
    rw [hbl, e9, ← h1']
    have a1 : q.take 4 ++ [q.getD 4 0] = q.take 5 := (take_snoc' q (by omega)).symm
    have a2 : q.take 5 ++ (q.take 9).drop 5 = q.take 9 := by
      have := List.take_append_drop 5 (q.take 9)
      rwa [List.take_take, show min 5 9 = 5 by omega] at this
    have a3 : q.take 9 ++ (q.take (q.length - 4)).drop 9 = q.take (q.length - 4) := by
      have := List.take_append_drop 9 (q.take (q.length - 4))
      rwa [List.take_take, show min 9 (q.length - 4) = 9 by omega] at this
    rw [a1, a2, a3]
  unfold parcel
  rw [hhead, hsum, be_num 4 _ (by simp; omega), List.take_append_drop]

theorem up_cut (k : UInt8) (l : List UInt8) (hl : l.length < 4294967296) (n : Nat) (hn : n < (parcel k l).length) : up ((parcel k l).take n) ≠ none := by
  intro h
  obtain ⟨h0, _⟩ := up_none h
  have hlen := parcel_len k l
  have hph := phead_len k l
  have hl2 : ((parcel k l).take n).length = n := by simp; omega
  rw [hl2] at h0
  unfold up at h
  rw [hl2, List.take_take, List.take_take, show min 9 n = 9 by omega, show min 4 n = 4 by omega] at h
  unfold parcel at h
  rw [take_pre k l _ 4 (by omega), take_pre k l _ 9 (by omega), (phead_parts k l).1, (phead_parts k l).2.2.1, num_be, Nat.mod_eq_of_lt (by omega)] at h
  rw [if_neg (by simp; omega), if_neg (by omega), if_pos (by omega)] at h
  cases h
theorem up_more (k : UInt8) (l : List UInt8) (hl : l.length < 4294967296) (c : UInt8) : up (parcel k l ++ [c]) = some 2 := by
  have hlen := parcel_len k l
  have hl2 : (parcel k l ++ [c]).length = l.length + 14 := by simp [hlen]
  unfold up
  rw [hl2]
  unfold parcel
  rw [List.append_assoc, take_pre k l _ 4 (by omega), take_pre k l _ 9 (by omega), (phead_parts k l).1, (phead_parts k l).2.2.1, num_be, Nat.mod_eq_of_lt (by omega)]
  rw [if_neg (by simp), if_neg (by omega), if_neg (by omega), if_pos (by omega)]

/-! ## One byte changed -/
def bsum (l : List UInt8) : Nat := l.foldl (fun n c => n + c.toNat) 0
theorem bsum_snoc (l : List UInt8) (c : UInt8) : bsum (l ++ [c]) = bsum l + c.toNat := by simp [bsum]
theorem halves_fst : ∀ (n : Nat) (l : List UInt8), l.length = n → (halves l).1 = (1 + bsum l) % 65521
  | 0, l, h => by
    have : l = [] := List.eq_nil_of_length_eq_zero h
    subst this
    simp [halves, bsum]
  | n + 1, l, h => by
    obtain ⟨l', c, rfl⟩ : ∃ l' c, l = l' ++ [c] := ⟨l.dropLast, l.getLast (by intro e; subst e; simp at h), (List.dropLast_concat_getLast _).symm⟩
    rw [halves_snoc, bsum_snoc, halves_fst n l' (by simpa using h)]
    simp only
    omega
theorem bsum_app (a b : List UInt8) : bsum (a ++ b) = bsum a + bsum b := by
  have : ∀ (b : List UInt8) (s : Nat), b.foldl (fun n c => n + c.toNat) s = s + b.foldl (fun n c => n + c.toNat) 0 := by
    intro b
    induction b with
    | nil => intro s; simp
    | cons x b ih =>
      intro s
      simp only [List.foldl_cons]
      rw [ih (s + x.toNat), ih (0 + x.toNat)]
      omega
  unfold bsum
  rw [List.foldl_append, this]
theorem bsum_set (l : List UInt8) (n : Nat) (c : UInt8) (hn : n < l.length) : bsum (l.set n c) + (l.getD n 0).toNat = bsum l + c.toNat := by
  have e1 : l.set n c = l.take n ++ ([c] ++ l.drop (n + 1)) := by rw [List.set_eq_take_append_cons_drop, if_pos hn]; rfl
  have e2 : l = l.take n ++ ([l.getD n 0] ++ l.drop (n + 1)) := by
    have := List.take_append_drop (n + 1) l
    rw [take_snoc' l hn, List.append_assoc] at this
    exact this.symm
  have h1 := bsum_app (l.take n) ([c] ++ l.drop (n + 1))
  have h2 := bsum_app (l.take n) ([l.getD n 0] ++ l.drop (n + 1))
  have h3 := bsum_app [c] (l.drop (n + 1))
  have h4 := bsum_app [l.getD n 0] (l.drop (n + 1))
  have h5 : bsum [c] = c.toNat := by simp [bsum]
  have h6 : bsum [l.getD n 0] = (l.getD n 0).toNat := by simp [bsum]
  rw [e1]
  rw [← e2] at h2
  omega
theorem asum_mod (l : List UInt8) : asum l % 65536 = (1 + bsum l) % 65521 := by
  have := halves_lt _ l rfl
  rw [← halves_fst _ l rfl]
  unfold asum
  omega
theorem asum_set (l : List UInt8) (n : Nat) (c : UInt8) (hn : n < l.length) (hc : c ≠ l.getD n 0) : asum (l.set n c) ≠ asum l := by
  intro h
  have h1 := asum_mod l
  rw [← h, asum_mod] at h1
  have h2 := bsum_set l n c hn
  have h3 := UInt8.toNat_lt c
  have h4 := UInt8.toNat_lt (l.getD n 0)
  have h5 : c.toNat ≠ (l.getD n 0).toNat := fun e => hc (UInt8.toNat_inj.1 e)
  omega
theorem up_set (k : UInt8) (l : List UInt8) (hl : l.length < 4294967296) (n : Nat) (c : UInt8) (hn : n < (parcel k l).length) (hc : c ≠ (parcel k l).getD n 0) : up ((parcel k l).set n c) ≠ none := by
  have hu := up_parcel k l hl
  revert hn hc hu
  generalize parcel k l = p
  intro hn hc hu h
  have sums : ∀ q : List UInt8, up q = none → asum (q.take (q.length - 4)) = num (q.drop (q.length - 4)) ∧ 13 ≤ q.length := by
    intro q hq
    refine ⟨?_, (up_none hq).1⟩
    have h0 := (up_none hq).1
    unfold up at hq
    split at hq
    · cases hq
    split at hq
    · cases hq
    split at hq
    · cases hq
    split at hq
    · cases hq
    split at hq
    · cases hq
    rename_i h5
    exact Classical.not_not.1 h5
  obtain ⟨s1, l1⟩ := sums p hu
  obtain ⟨s2, _⟩ := sums _ h
  rw [List.length_set] at s2
  rcases Nat.lt_or_ge n (p.length - 4) with hlt | hge
  · rw [List.drop_set_of_lt hlt, ← s1, List.take_set] at s2
    refine asum_set _ n c (by simp; omega) ?_ s2
    have : (p.take (p.length - 4)).getD n 0 = p.getD n 0 := by simp only [List.getD]; rw [List.getElem?_take_of_lt hlt]
    rw [this]
    exact hc
  · rw [List.take_set_of_le hge, s1] at s2
    have e1 := be_num 4 (p.drop (p.length - 4)) (by simp; omega)
    have e2 := be_num 4 ((p.set n c).drop (p.length - 4)) (by simp; omega)
    rw [← s2, e1] at e2
    have e3 : (p.drop (p.length - 4))[n - (p.length - 4)]? = ((p.set n c).drop (p.length - 4))[n - (p.length - 4)]? := by rw [← e2]
    rw [List.getElem?_drop, List.getElem?_drop, show p.length - 4 + (n - (p.length - 4)) = n by omega, List.getElem?_set_self hn] at e3
    exact hc (by simp [List.getD, e3])
theorem xor_ne (a b : UInt8) (hb : b ≠ 0) : a ^^^ b ≠ a := by
  intro h
  apply hb
  have : a ^^^ (a ^^^ b) = a ^^^ a := by rw [h]
  rw [← UInt8.xor_assoc, UInt8.xor_self, UInt8.zero_xor] at this
  exact this
end
end Go.Proofs.YtnjkjgmnnmgngaaGreatDoor
