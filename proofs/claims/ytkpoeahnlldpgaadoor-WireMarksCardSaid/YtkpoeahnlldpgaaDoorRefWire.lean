/- The document's answer for layer 3: Sum, Word, Parcel, Same. -/
import Derived.Test.YtkpoeahnlldpgaaDoorParcel
import Derived.Deep.QuietTactic
namespace Go.Proofs.YtkpoeahnlldpgaaDoor
open Go.RowKit

set_option maxRecDepth 100000 in
set_option maxHeartbeats 1000000 in
theorem refSum_any (l : List UInt8) (v : Value) (w : World) (h : BytesV w v l) (hl : l.length ≤ 1000000000) :
    Calls Tryd.prog 34 #[v] w fun e w' => e = .returned (.int .i64 (asum l : Nat)) ∧ w' = w := by
  obtain ⟨A, c, rfl, _⟩ := h.form
  have H := Lib.hid h
  clear h
  go_enter Tryd.func34, Tryd.ntmps34
  go_wp2
  go_loopg [3, 4, 5] l.length (fun g x y z wr => ∃ k, k ≤ l.length ∧ g = l.length - k ∧ x = .int .i64 ((halves (l.take k)).1 : Nat) ∧ y = .int .i64 ((halves (l.take k)).2 : Nat) ∧ z = .int .i64 (k : Nat) ∧ wr = w)
  case atStart => exact ⟨0, by omega, rfl, rfl, rfl, rfl, rfl⟩
  case round =>
    obtain ⟨k, hk, rfl, rfl, rfl, rfl, rfl⟩ := hrel
    obtain ⟨X, hX⟩ : ∃ X, (halves (l.take k)).1 = X := ⟨_, rfl⟩
    obtain ⟨Y, hY⟩ : ∃ Y, (halves (l.take k)).2 = Y := ⟨_, rfl⟩
    have hb := halves_lt _ (l.take k) rfl
    rw [hX, hY] at hb ⊢
    obtain ⟨hX1, hY1⟩ := hb
    by_cases hlt : k < l.length
    · obtain ⟨b, off, rfl, hc⟩ := H.out.at_ hlt
      obtain ⟨z, hz⟩ : ∃ z : Nat, (l.getD k 0).toNat = z := ⟨_, rfl⟩
      have hz1 := UInt8.toNat_lt (l.getD k 0)
      rw [hz] at hc hz1
      have hnext : halves (l.take (k + 1)) = ((X + z) % 65521, (Y + (X + z) % 65521) % 65521) := by rw [take_snoc' l hlt, halves_snoc, hX, hY, hz]
      have HN := Lib.hid hnext
      have t1 : decide (k < l.length) = true := decide_eq_true hlt
      have i0' : (0 : Int) ≤ k := by omega
      have i1' : (k : Int) < l.length := by omega
      have HLT := Lib.hid hlt
      clear hz hX hY hnext
      go_wp2
      go_roundg (l.length - (k + 1))
      case rel => exact ⟨k + 1, HLT.out, rfl, by rw [HN.out]; simp, by rw [HN.out]; simp, by go_num, rfl⟩
      case measure => have := HLT.out; omega
    · obtain rfl : k = l.length := by omega
      have t1 : decide (l.length < l.length) = false := by simp
      have HS : Hid (asum l = Y * 65536 + X) := Lib.hid (by rw [List.take_length] at hX hY; unfold asum; rw [hX, hY])
      clear hX hY
      go_wp2
      go_ret
      exact ⟨by rw [HS.out, Nat.mul_comm]; rfl, rfl⟩

/-- Two lists of bytes that are the same. -/
theorem refSame_true (l : List UInt8) (v u : Value) (w : World) (h : BytesV w v l) (k : BytesV w u l) (hl : l.length ≤ 1000000000) :
    Calls Tryd.prog 12 #[v, u] w fun e w' => e = .returned (.bool true) ∧ ∃ d, w' = w.drewN d := by
  obtain ⟨A, c, rfl, _⟩ := h.form
  obtain ⟨B, c', rfl, _⟩ := k.form
  have H := Lib.hid h
  have K := Lib.hid k
  have t0 : ((l.length : Int) != l.length) = false := by simp
  clear h k
  go_enter Tryd.func12, Tryd.ntmps12
  go_wp2
  go_loopg [5] l.length (fun g z wr => ∃ k, k ≤ l.length ∧ g = l.length - k ∧ z = .int .i64 (k : Nat) ∧ ∃ d, wr = w.drewN d)
  case atStart => exact ⟨0, by omega, rfl, rfl, 0, rfl⟩
  case round =>
    obtain ⟨k, hk, rfl, rfl, d, rfl⟩ := hrel
    by_cases hlt : k < l.length
    · obtain ⟨b, off, rfl, hc⟩ := H.out.at_ hlt
      obtain ⟨b', off', rfl, hc'⟩ := K.out.at_ hlt
      obtain ⟨z, hz⟩ : ∃ z : Int, ((l.getD k 0).toNat : Int) = z := ⟨_, rfl⟩
      rw [hz] at hc hc'
      have t1 : decide (k < l.length) = true := decide_eq_true hlt
      have i0' : (0 : Int) ≤ k := by omega
      have i1' : (k : Int) < l.length := by omega
      have t2 : (z != z) = false := by simp
      have HLT := Lib.hid hlt
      clear hz
      go_wp2
      go_quiet (fail)
      go_wp2
      go_roundg (l.length - (k + 1))
      case rel => exact ⟨k + 1, HLT.out, rfl, by go_num, _, rfl⟩
      case measure => have := HLT.out; omega
    · obtain rfl : k = l.length := by omega
      have t1 : decide (l.length < l.length) = false := by simp
      go_wp2
      go_ret
      exact ⟨rfl, _, rfl⟩

def wordCells (n : Nat) : Array Value := #[.int .u8 ((UInt8.ofNat (n / 16777216)).toNat : Int), .int .u8 ((UInt8.ofNat (n / 65536)).toNat : Int), .int .u8 ((UInt8.ofNat (n / 256)).toNat : Int), .int .u8 ((UInt8.ofNat n).toNat : Int)]
theorem word_bytes (w : World) (n : Nat) : BytesV (w.alloc (.cells (wordCells n) 5)) (.slice (some ⟨w.heap.size, 0, none⟩) 4 4) (be 4 n) := by
  refine ⟨_, 4, by rw [be_len], by rw [be_len]; omega, fun h => ⟨w.heap.size, 0, rfl, fun i hi => ?_⟩⟩
  rw [be_len] at hi
  have hn := (Whole.new w 5 (wordCells n)).cell (0 + i)
  rw [hn]
  match i, hi with
  | 0, _ => simp [wordCells, be]
  | 1, _ => simp [wordCells, be]
  | 2, _ => simp [wordCells, be]
  | 3, _ => simp [wordCells, be]
set_option maxRecDepth 100000 in
theorem refWord_any (n : Nat) (w : World) (hn : n < 4294967296) :
    Calls Tryd.prog 36 #[.int .i64 (n : Nat)] w fun e w' => ∃ v', e = .returned v' ∧ BytesV w' v' (be 4 n) ∧ Below w.heap.size w w' := by
  have hb := Lib.hid (word_bytes w n)
  have e3 : Hid ((UInt8.ofNat (n / 16777216)).toNat = n / 16777216 % 256) := Lib.hid (by simp)
  have e2 : Hid ((UInt8.ofNat (n / 65536)).toNat = n / 65536 % 256) := Lib.hid (by simp)
  have e1 : Hid ((UInt8.ofNat (n / 256)).toNat = n / 256 % 256) := Lib.hid (by simp)
  have e0 : Hid ((UInt8.ofNat n).toNat = n % 256) := Lib.hid (by simp)
  unfold wordCells at hb
  rw [e3.out, e2.out, e1.out, e0.out] at hb
  go_enter Tryd.func36, Tryd.ntmps36
  go_wp2
  go_ret
  exact ⟨_, rfl, hb.out, (Below.refl _ _).alloc (Nat.le_refl _) _⟩
end Go.Proofs.YtkpoeahnlldpgaaDoor
