/- The reader: where it stands; NewReader, Left. wire.Reader: holds, take. wire.Reader: ahead, Num, Long, Text. -/
import Derived.Test.YtnjkjgmnnmgngaaGreatDoorJ9
import Derived.Deep.QuietTactic
import Derived.WalkSpells
namespace Go.Proofs.YtnjkjgmnnmgngaaGreatDoor
section
open Go.RowKit

/-- A reader in block g: its bytes, its place, its error. -/
def ReaderAt (w : World) (g : Nat) (l : List UInt8) (p : Nat) (v : Value) : Prop :=
  p ≤ l.length ∧ ∃ A c, Whole w g 132 #[.slice A l.length c, .int .i64 (p : Nat), v] ∧ BytesV w (.slice A l.length c) l
theorem ReaderAt.below {w w' : World} {g p : Nat} {l : List UInt8} {v : Value} (h : ReaderAt w g l p v) (hb : Below w.heap.size w w') : ReaderAt w' g l p v := by
  obtain ⟨hp, A, c, hw, hv⟩ := h
  exact ⟨hp, A, c, hw.below hb hw.lt, hv.below hb (Nat.le_refl _)⟩

set_option maxRecDepth 100000 in
theorem left_any (g p : Nat) (l : List UInt8) (v : Value) (w : World) (h : ReaderAt w g l p v) (hl : l.length ≤ 1000000000) :
    Calls Tryz.prog 81 #[.pointer (some ⟨g, 0, none⟩)] w fun e w' => e = .returned (.int .i64 ((l.length - p : Nat) : Int)) ∧ ∃ d, w' = w.drewN d := by
  obtain ⟨hp, A, c, hw, hv⟩ := h
  have a0 := hw.cell 0; have a1 := hw.cell 1
  simp at a0 a1
  obtain ⟨n, hn⟩ : ∃ n, l.length = n := ⟨_, rfl⟩
  rw [hn] at a0 hp hl
  have hw64 : wrap64 ((n - p : Nat) : Int) = ((n - p : Nat) : Int) := by unfold wrap64; omega
  have hsub : ((n : Int) - p) = ((n - p : Nat) : Int) := by omega
  have HN := Lib.hid hn
  clear hw hv hn
  go_enter Tryz.func81, Tryz.ntmps81
  go_wp2
  go_quiet (fail)
  go_wp2
  go_ret
  exact ⟨by rw [HN.out]; rfl, _, rfl⟩

set_option maxRecDepth 100000 in
theorem reader_new (l : List UInt8) (v : Value) (w : World) (h : BytesV w v l) (hl : l.length ≤ 1000000000) :
    Calls Tryz.prog 53 #[v] w fun e w' => ∃ g, e = .returned (.pointer (some ⟨g, 0, none⟩)) ∧ w.heap.size ≤ g ∧ ReaderAt w' g l 0 .nilIface ∧ Below w.heap.size w w' := by
  have C1 := Lib.hid (clone_any l v w h hl)
  obtain ⟨A, c, rfl, _⟩ := h.form
  clear h
  go_enter Tryz.func53, Tryz.ntmps53
  go_wp2_with fail
  refine C1.out.mono ?_; rintro e w1 ⟨v1, rfl, ho1, hb1⟩
  obtain ⟨A1, c1, rfl⟩ := own_form ho1
  have HO1 := Lib.hid ho1; have HB1 := Lib.hid hb1
  clear ho1 hb1
  go_wp2
  go_ret
  have ho := HO1.out
  have hA : Below w1.heap.size w1 (w1.alloc (.cells #[.slice A1 l.length c1, .int .i64 0, .nilIface] 132)) := (Below.refl _ _).alloc (Nat.le_refl _) _
  exact ⟨w1.heap.size, rfl, HB1.out.size, ⟨Nat.zero_le _, A1, c1, Whole.new _ _ _, (own_bytesV ho).below hA (Nat.le_refl _)⟩, HB1.out.alloc HB1.out.size _⟩
end

section
open Go.RowKit

set_option maxRecDepth 100000 in
theorem holds_ok (g p n : Nat) (l : List UInt8) (w : World) (h : ReaderAt w g l p .nilIface) (hn : p + n ≤ l.length) (hl : l.length ≤ 1000000000) :
    Calls Tryz.prog 99 #[.pointer (some ⟨g, 0, none⟩), .int .i64 n] w fun e w' => e = .returned (.bool true) ∧ ∃ d, w' = w.drewN d := by
  have L1 := left_any g p l _ w h hl
  obtain ⟨_, A, c, hw, _⟩ := h
  have a2 := hw.cell 2
  simp at a2
  obtain ⟨q, hq⟩ : ∃ q, l.length - p = q := ⟨_, rfl⟩
  rw [hq] at L1
  have t1 : decide (q < n) = false := decide_eq_false (by omega)
  have L2 := Lib.hid L1
  clear hw hq L1
  go_enter Tryz.func99, Tryz.ntmps99
  go_wp2_with fail
  refine L2.out.mono ?_; rintro e w1 ⟨rfl, d, rfl⟩
  go_wp2_with fail
  go_ret
  exact ⟨rfl, _, rfl⟩

set_option maxRecDepth 100000 in
theorem holds_err (g p n T : Nat) (x : Value) (l : List UInt8) (w : World) (h : ReaderAt w g l p (.iface T x)) :
    Calls Tryz.prog 99 #[.pointer (some ⟨g, 0, none⟩), .int .i64 n] w fun e w' => e = .returned (.bool false) ∧ ∃ d, w' = w.drewN d := by
  obtain ⟨_, A, c, hw, _⟩ := h
  have a2 := hw.cell 2
  simp at a2
  clear hw
  go_enter Tryz.func99, Tryz.ntmps99
  go_wp2
  go_ret
  exact ⟨rfl, 0, rfl⟩

theorem reader_apart {w : World} {g p c : Nat} {l : List UInt8} {A : Option Addr} {v : Value} (hw : Whole w g 132 #[.slice A l.length c, .int .i64 (p : Nat), v]) (hv : BytesV w (.slice A l.length c) l) (hl : 0 < l.length) (hx : v = .nilIface ∨ ∃ T x, v = .iface T x) :
    l.length ≤ c ∧ ∃ b off, A = some ⟨b, off, none⟩ ∧ b ≠ g ∧ ∀ i, i < l.length → w.cell? ⟨b, off + i, none⟩ = some (.int .u8 ((l.getD i 0).toNat : Int)) := by
  obtain ⟨_, hc, b, off, rfl, hcell⟩ := hv.cells hl
  refine ⟨hc, b, off, rfl, ?_, hcell⟩
  rintro rfl
  have h1 := hcell 0 hl
  rw [hw.cell] at h1
  match off, h1 with
  | 0, h1 => simp at h1
  | 1, h1 => simp at h1
  | 2, h1 => rcases hx with rfl | ⟨T, x, rfl⟩ <;> simp at h1
  | n + 3, h1 => simp at h1
theorem grown_trans {w w1 w2 : World} {r : Option Nat} (h : w.grownBy w1 r) (k : w1.grownBy w2 r) : w.grownBy w2 r :=
  ⟨k.os.trans h.os, k.tape.trans h.tape, k.output.trans h.output, Nat.le_trans h.size k.size, fun i hi hne => (k.block i (Nat.lt_of_lt_of_le hi h.size) hne).trans (h.block i hi hne)⟩
theorem cell_grown {w w' : World} {g b o : Nat} (h : w.grownBy w' (some g)) (hb : b < w.heap.size) (hne : b ≠ g) : w'.cell? ⟨b, o, none⟩ = w.cell? ⟨b, o, none⟩ :=
  World.cell?_of_block (w := w) (w' := w') (a := ⟨b, o, none⟩) (h.block b hb (fun e => hne (Option.some.inj e)))
theorem grown_below {w w' : World} {r : Option Nat} (h : Below w.heap.size w w') : w.grownBy w' r := ⟨h.os, h.tape, h.output, h.size, fun i hi _ => h.block i hi⟩
theorem ReaderAt.move {w w' : World} {g p q : Nat} {l : List UInt8} {u v : Value} (h : ReaderAt w g l p u) (hx : u = .nilIface ∨ ∃ T x, u = .iface T x) (hg : w.grownBy w' (some g)) (hq : q ≤ l.length) (hw : ∀ A c, Whole w g 132 #[.slice A l.length c, .int .i64 (p : Nat), u] → Whole w' g 132 #[.slice A l.length c, .int .i64 (q : Nat), v]) : ReaderAt w' g l q v := by
  obtain ⟨_, A, c, h1, h2⟩ := h
  refine ⟨hq, A, c, hw A c h1, ?_⟩
  rcases Nat.eq_zero_or_pos l.length with h0 | h0
  · obtain ⟨A', c', e, hc, _⟩ := h2
    exact ⟨A', c', e, hc, fun h3 => by omega⟩
  · obtain ⟨hc, b, off, rfl, hne, _⟩ := reader_apart h1 h2 h0 hx
    refine h2.keep fun b' hb ⟨A', c', off', e, e2⟩ => hg.block b' hb fun e3 => ?_
    injection e with e4 e5 e6
    rw [e2] at e4
    injection e4 with e4
    injection e4 with e4
    injection e3 with e3
    exact hne (e4.trans e3)

set_option maxRecDepth 100000 in
set_option maxHeartbeats 1000000 in
theorem take_ok (g p n : Nat) (l : List UInt8) (w : World) (h : ReaderAt w g l p .nilIface) (hn : p + n ≤ l.length) (h1 : 1 ≤ n) (hl : l.length ≤ 1000000000) :
    Calls Tryz.prog 80 #[.pointer (some ⟨g, 0, none⟩), .int .i64 n] w fun e w' => ∃ b off c', e = .returned (.slice (some ⟨b, off, none⟩) n c') ∧ BytesV w' (.slice (some ⟨b, off, none⟩) n c') ((l.take (p + n)).drop p) ∧ ReaderAt w' g l (p + n) .nilIface ∧ w.grownBy w' (some g) := by
  have H1 := Lib.hid (holds_ok g p n l w h hn hl)
  have HR := Lib.hid h
  clear h
  go_enter Tryz.func80, Tryz.ntmps80
  go_wp2_with fail
  refine H1.out.mono ?_; rintro e w1 ⟨rfl, d, hd⟩
  have hr1 : ReaderAt w1 g l p .nilIface := by rw [hd]; exact HR.out
  have hg1 : w.grownBy w1 (some g) := by rw [hd]; exact ⟨rfl, rfl, rfl, Nat.le_refl _, fun _ _ _ => rfl⟩
  obtain ⟨q, hq⟩ : ∃ q, p + n = q := ⟨_, rfl⟩
  obtain ⟨m, hm⟩ : ∃ m, l.length = m := ⟨_, rfl⟩
  rw [hq, hm] at hn
  rw [hm] at hl
  obtain ⟨_, A, c, hw, hv⟩ := id hr1
  obtain ⟨hc, b, off, rfl, hne, hcell⟩ := reader_apart hw hv (by omega) (Or.inl rfl)
  have a0 := hw.cell 0; have a1 := hw.cell 1; have f1 := hw.free 1
  simp at a0 a1
  rw [hm] at a0 hc
  have hpq : ((p : Int) + n) = q := by omega
  have hqp : ((q : Int) - n) = p := by omega
  have wp : wrap64 (p : Int) = p := by unfold wrap64; omega
  have i1 : (0 : Int) ≤ p := by omega
  have i2 : (p : Int) ≤ q := by omega
  have i3 : (q : Int) ≤ c := by omega
  have i4 : (q : Int) ≤ 1000000000 := by omega
  have HQ := Lib.hid hq; have HM := Lib.hid hm; have HG1 := Lib.hid hg1; have HR1 := Lib.hid hr1; have HC := Lib.hid hcell
  have HN := Lib.hid hn; have HW := Lib.hid hw
  clear hq hm hg1 hr1 hcell hn hw hv hd
  go_wp2
  go_quiet (fail)
  go_wp2
  go_ret
  have e1 : q - p = n := by have := HQ.out; omega
  have hg2 : w1.grownBy ((w1.setCell ⟨g, 1, none⟩ (.int .i64 (q : Nat))).drewN nq) (some g) := ⟨rfl, rfl, rfl, by simp [World.setCell], fun k _ hne => Below.heap_setCell w1 ⟨g, 1, none⟩ _ k (fun e => hne (by rw [e]))⟩
  obtain ⟨W, hW⟩ : ∃ W, (w1.setCell ⟨g, 1, none⟩ (.int .i64 (q : Nat))).drewN nq = W := ⟨_, rfl⟩
  have hwW : ∀ A c, Whole w1 g 132 #[.slice A l.length c, .int .i64 (p : Nat), .nilIface] → Whole W g 132 #[.slice A l.length c, .int .i64 (q : Nat), .nilIface] := fun A c h => by rw [← hW]; exact (h.put 1 _).drewN nq
  rw [hW] at hg2 ⊢
  refine ⟨b, off + p, c - p, ?_, ?_, ?_, grown_trans HG1.out hg2⟩
  · show Ending.returned (Value.slice _ (q - p) _) = _
    rw [e1]
  · rw [HQ.out, ← e1]
    exact window (fun i hi => (cell_grown hg2 (World.block_lt_of_cell? _ _ (HC.out i hi)) hne).trans (HC.out i hi)) p q (c - p) (by omega) (by have := HN.out; have := HM.out; omega) (by omega)
  · rw [HQ.out]
    exact HR1.out.move (Or.inl rfl) hg2 (by have := HN.out; have := HM.out; omega) hwW

/-- An error of the reader's: nothing yet, or a code at a place. -/
def RErr (w : World) (v : Value) : Option (Int × Nat) → Prop
  | none => v = .nilIface
  | some (c, p) => ∃ (b : Nat) (s : ByteArray), v = .iface 60 (.pointer (some ⟨b, 0, none⟩)) ∧ Whole w b 63 #[.int .i64 c, .int .i64 (p : Nat), .string s] ∧ s.size ≤ 100
theorem RErr.form {w : World} {v : Value} {E : Option (Int × Nat)} (h : RErr w v E) : v = .nilIface ∨ ∃ T x, v = .iface T x := by
  cases E with
  | none => exact Or.inl h
  | some p => obtain ⟨b, s, rfl, _⟩ := h; exact Or.inr ⟨_, _, rfl⟩
theorem RErr.keep {w w' : World} {v : Value} {E : Option (Int × Nat)} (h : RErr w v E) (hk : ∀ b cs, Whole w b 63 cs → Whole w' b 63 cs) : RErr w' v E := by
  cases E with
  | none => exact h
  | some p => obtain ⟨b, s, rfl, hw, hs⟩ := h; exact ⟨b, s, rfl, hk _ _ hw, hs⟩
/-- A reader and its error. -/
def RdAt (w : World) (g : Nat) (l : List UInt8) (p : Nat) (E : Option (Int × Nat)) : Prop := ∃ v, ReaderAt w g l p v ∧ RErr w v E
theorem RdAt.lt {w : World} {g p : Nat} {l : List UInt8} {E : Option (Int × Nat)} (h : RdAt w g l p E) : g < w.heap.size := by
  obtain ⟨v, ⟨_, A, c, hw, _⟩, _⟩ := h
  exact hw.lt
theorem RdAt.below {w w' : World} {g p : Nat} {l : List UInt8} {E : Option (Int × Nat)} (h : RdAt w g l p E) (hb : Below w.heap.size w w') : RdAt w' g l p E := by
  obtain ⟨v, h1, h2⟩ := h
  exact ⟨v, h1.below hb, h2.keep fun b cs hw => hw.below hb hw.lt⟩
theorem RdAt.drewN {w : World} {g p : Nat} {l : List UInt8} {E : Option (Int × Nat)} (h : RdAt w g l p E) (d : Nat) : RdAt (w.drewN d) g l p E := h
theorem RdAt.none {w : World} {g p : Nat} {l : List UInt8} (h : RdAt w g l p none) : ReaderAt w g l p .nilIface := by
  obtain ⟨v, h1, h2⟩ := h
  obtain rfl : v = .nilIface := h2
  exact h1
/-- The first error is kept. -/
def orP : Option (Int × Nat) → Int × Nat → Option (Int × Nat)
  | none, x => some x
  | some y, _ => some y
theorem rd_set {w : World} {g p d : Nat} {l : List UInt8} {s : ByteArray} {c : Int} (h : ReaderAt w g l p .nilIface) (hs : s.size ≤ 100) :
    RdAt ((((w.drewN d).alloc (.cells #[.int .i64 c, .int .i64 (p : Nat), .string s] 63)).setCell ⟨g, 2, none⟩ (.iface 60 (.pointer (some ⟨w.heap.size, 0, none⟩))))) g l p (some (c, p)) := by
  have hlt : g < w.heap.size := by obtain ⟨_, A, c', hw, _⟩ := h; exact hw.lt
  have hb : Below w.heap.size w ((w.drewN d).alloc (.cells #[.int .i64 c, .int .i64 (p : Nat), .string s] 63)) := (below_drewN' (Below.refl _ _) d).alloc (Nat.le_refl _) _
  have h1 := h.below hb
  have hF := Whole.new (w.drewN d) 63 #[.int .i64 c, .int .i64 (p : Nat), .string s]
  refine ⟨_, h1.move (Or.inl rfl) (grown_set _ g 2 _) h1.1 (fun A c' hw => hw.put 2 _), w.heap.size, s, rfl, hF.other (p := ⟨g, 2, none⟩) (fun e => ?_) _, hs⟩
  have e' : w.heap.size = g := e
  omega

set_option maxRecDepth 100000 in
theorem holds_no (g p n : Nat) (E : Option (Int × Nat)) (l : List UInt8) (w : World) (h : RdAt w g l p E) (hn : E ≠ none ∨ l.length < p + n) (hl : l.length ≤ 1000000000) :
    Calls Tryz.prog 99 #[.pointer (some ⟨g, 0, none⟩), .int .i64 n] w fun e w' => e = .returned (.bool false) ∧ RdAt w' g l p (orP E (9, p)) ∧ w.grownBy w' (some g) := by
  cases E with
  | some E =>
    have HR := Lib.hid h
    obtain ⟨v, h1, b, s, rfl, h2⟩ := h
    refine (holds_err g p n _ _ l w h1).mono fun e w' ⟨he, d, hd⟩ => ⟨he, ?_, ?_⟩
    · rw [hd]; exact HR.out.drewN d
    · rw [hd]; exact ⟨rfl, rfl, rfl, Nat.le_refl _, fun _ _ _ => rfl⟩
  | none =>
    have hn : l.length < p + n := by rcases hn with h | h; exact absurd rfl h; exact h
    have hR := h.none
    have L1 := left_any g p l _ w hR hl
    have HR := Lib.hid hR
    obtain ⟨_, A, c, hw, _⟩ := hR
    have a1 := hw.cell 1; have a2 := hw.cell 2; have f2 := hw.free 2
    have hlt := hw.lt
    simp at a1 a2
    obtain ⟨q, hq⟩ : ∃ q, l.length - p = q := ⟨_, rfl⟩
    rw [hq] at L1
    have t1 : decide (q < n) = true := decide_eq_true (by omega)
    have L2 := Lib.hid L1
    clear hw hq L1 h hn
    go_enter Tryz.func99, Tryz.ntmps99
    go_wp2_with fail
    refine L2.out.mono ?_; rintro e w1 ⟨rfl, d, rfl⟩
    go_wp2_with fail
    refine (new_any _ _ _ _).mono ?_; rintro e w2 ⟨rfl, hw2⟩
    have hb2 : Below w.heap.size w w2 := by rw [← hw2]; exact (below_drewN' (Below.refl _ _) d).alloc (Nat.le_refl _) _
    have b2 := (hb2.cell (p := ⟨g, 2, none⟩) hlt).trans a2
    have b3 := (hb2.frozen (p := ⟨g, 2, none⟩) hlt).trans f2
    have hsz2 : w.heap.size + 1 = w2.heap.size := by rw [← hw2]; simp
    have HB2 := Lib.hid hb2; have HW2 := Lib.hid hw2
    clear hw2 hb2 hsz2
    go_wp2_with fail
    go_ret
    refine ⟨rfl, ?_, ?_⟩
    · rw [← HW2.out]; exact rd_set HR.out (by decide)
    · exact grown_trans (grown_below HB2.out) (grown_set _ g 2 _)
end

section
open Go.RowKit

/-- n bytes from a place on. -/
def sub (l : List UInt8) (p n : Nat) : List UInt8 := (l.take (p + n)).drop p
theorem sub_len (l : List UInt8) (p n : Nat) (h : p + n ≤ l.length) : (sub l p n).length = n := by simp [sub]; omega

set_option maxRecDepth 100000 in
theorem take_no (g p n : Nat) (E : Option (Int × Nat)) (l : List UInt8) (w : World) (h : RdAt w g l p E) (hn : E ≠ none ∨ l.length < p + n) (hl : l.length ≤ 1000000000) :
    Calls Tryz.prog 80 #[.pointer (some ⟨g, 0, none⟩), .int .i64 n] w fun e w' => e = .returned (.slice none 0 0) ∧ RdAt w' g l p (orP E (9, p)) ∧ w.grownBy w' (some g) := by
  have H1 := Lib.hid (holds_no g p n E l w h hn hl)
  clear h hn
  go_enter Tryz.func80, Tryz.ntmps80
  go_wp2_with fail
  refine H1.out.mono ?_; rintro e w1 ⟨rfl, hr1, hg1⟩
  have HR1 := Lib.hid hr1; have HG1 := Lib.hid hg1
  clear hr1 hg1
  go_wp2_with fail
  go_ret
  exact ⟨rfl, HR1.out, HG1.out⟩

set_option maxRecDepth 100000 in
theorem ahead_no (g p : Nat) (E : Option (Int × Nat)) (l : List UInt8) (w : World) (h : RdAt w g l p E) (hn : E ≠ none ∨ l.length < p + 4) (hl : l.length ≤ 1000000000) :
    Calls Tryz.prog 79 #[.pointer (some ⟨g, 0, none⟩)] w fun e w' => e = .returned (.tuple #[.int .i64 0, .bool false]) ∧ RdAt w' g l p (orP E (9, p)) ∧ w.grownBy w' (some g) := by
  have H1 := Lib.hid (holds_no g p 4 E l w h hn hl)
  clear h hn
  go_enter Tryz.func79, Tryz.ntmps79
  go_wp2_with fail
  refine H1.out.mono ?_; rintro e w1 ⟨rfl, hr1, hg1⟩
  have HR1 := Lib.hid hr1; have HG1 := Lib.hid hg1
  clear hr1 hg1
  go_wp2_with fail
  go_ret2
  exact ⟨rfl, HR1.out, HG1.out⟩

set_option maxRecDepth 100000 in
set_option maxHeartbeats 1000000 in
theorem ahead_ok (g p : Nat) (l : List UInt8) (w : World) (h : ReaderAt w g l p .nilIface) (hn : p + 4 ≤ l.length) (hl : l.length ≤ 1000000000) :
    Calls Tryz.prog 79 #[.pointer (some ⟨g, 0, none⟩)] w fun e w' => e = .returned (.tuple #[.int .i64 (num (sub l p 4) : Nat), .bool true]) ∧ ∃ d, w' = w.drewN d := by
  have H1 := Lib.hid (holds_ok g p 4 l w h hn hl)
  obtain ⟨_, A, c, hw, hv⟩ := h
  obtain ⟨hc, b, off, rfl, hne, hcell⟩ := reader_apart hw hv (by omega) (Or.inl rfl)
  obtain ⟨q, hq⟩ : ∃ q, p + 4 = q := ⟨_, rfl⟩
  have hwin := window hcell p q (c - p) (by omega) (by omega) (by omega)
  have hsl := sub_len l p 4 hn
  have hN := num_lt 4 (sub l p 4) hsl
  obtain ⟨N, hN2⟩ : ∃ N, num (sub l p 4) = N := ⟨_, rfl⟩
  rw [hN2] at hN
  have G := Lib.hid (fun (d : Nat) => get_any (sub l p 4) (.slice (some ⟨b, off + p, none⟩) (q - p) (c - p)) (w.drewN d) (by unfold sub; rw [hq]; exact hwin) (by omega))
  rw [hN2] at G
  obtain ⟨m, hm⟩ : ∃ m, l.length = m := ⟨_, rfl⟩
  rw [hq, hm] at hn
  rw [hm] at hl hc
  have a0 := hw.cell 0; have a1 := hw.cell 1
  simp at a0 a1
  rw [hm] at a0
  have hpq : ((p : Int) + 4) = q := by omega
  have wq : wrap64 (q : Int) = q := by unfold wrap64; omega
  have i1 : (0 : Int) ≤ p := by omega
  have i2 : (p : Int) ≤ q := by omega
  have i3 : (q : Int) ≤ c := by omega
  have i4 : (q : Int) ≤ 1000000000 := by omega
  have HN2 := Lib.hid hN2
  have hN3 : N < 4294967296 := by omega
  have wN : IntKind.i64.wrap (N : Int) = N := by rw [IntKind.wrap_i64]; omega
  clear hq hm hcell hn hw hv hwin hsl hN hN2
  go_enter Tryz.func79, Tryz.ntmps79
  go_wp2_with fail
  refine H1.out.mono ?_; rintro e w1 ⟨rfl, d, rfl⟩
  go_wp2_with fail
  obtain ⟨W, hW⟩ : ∃ W, w.drewN d = W := ⟨_, rfl⟩
  have b0 : W.cell? ⟨g, 0, none⟩ = some (.slice (some ⟨b, off, none⟩) m c) := by rw [← hW]; exact a0
  have b1 : W.cell? ⟨g, 1, none⟩ = some (.int .i64 (p : Nat)) := by rw [← hW]; exact a1
  have G2 : Hid (∀ d', Calls Tryz.prog 78 #[.slice (some ⟨b, off + p, none⟩) (q - p) (c - p)] (W.drewN d') fun e w' => e = .returned (.int .u64 (N : Nat)) ∧ w' = W.drewN d') := Lib.hid (fun d' => by rw [← hW, World.drewN_drewN]; exact G.out (d + d'))
  rw [hW]
  have HW := Lib.hid hW
  clear hW a0 a1
  go_quiet ((go_at_call 78; with_reducible exact Calls.quiet_of_same (G2.out _)))
  go_wp2
  go_ret2
  exact ⟨by rw [HN2.out]; rfl, _, by rw [← HW.out, World.drewN_drewN]⟩

theorem addr_add (b o j : Nat) : (⟨b, o, none⟩ : Addr).add j = ⟨b, o + j, none⟩ := by unfold Addr.add; split <;> simp_all
/-- What a Reader tells at its end. -/
def endE (E : Option (Int × Nat)) (p n : Nat) : Option (Int × Nat) := match E with | none => if p < n then some (2, p) else none | some x => some x
set_option maxRecDepth 100000 in
theorem rend_any (g p : Nat) (E : Option (Int × Nat)) (l : List UInt8) (w : World) (h : RdAt w g l p E) (hl : l.length ≤ 1000000000) :
    Calls Tryz.prog 55 #[.pointer (some ⟨g, 0, none⟩)] w fun e w' => ∃ v, e = .returned v ∧ RErr w' v (endE E p l.length) ∧ Below w.heap.size w w' := by
  cases E with
  | some E =>
    obtain ⟨v, h1, b, s, rfl, h2⟩ := h
    have HF := Lib.hid h2
    obtain ⟨_, A, c, hw, _⟩ := h1
    have a2 := hw.cell 2
    simp at a2
    clear hw h2
    go_enter Tryz.func55, Tryz.ntmps55
    go_wp2_with fail
    go_ret
    exact ⟨_, rfl, ⟨b, s, rfl, HF.out⟩, Below.refl _ _⟩
  | none =>
    have hR := h.none
    have L1 := left_any g p l _ w hR hl
    obtain ⟨hp, A, c, hw, _⟩ := hR
    have a2 := hw.cell 2; have a1 := hw.cell 1
    simp at a2 a1
    obtain ⟨q, hq⟩ : ∃ q, l.length - p = q := ⟨_, rfl⟩
    rw [hq] at L1
    have L2 := Lib.hid L1
    by_cases hlt : p < l.length
    · have hE : Hid (endE none p l.length = some (2, p)) := Lib.hid (by unfold endE; rw [if_pos hlt])
      have t1 : decide (0 < q) = true := decide_eq_true (by omega)
      have t2 : decide ((0 : Int) < q) = true := decide_eq_true (by omega)
      clear hw hq L1 h hlt hp
      go_enter Tryz.func55, Tryz.ntmps55
      go_wp2_with fail
      refine L2.out.mono ?_; rintro e w1 ⟨rfl, d, rfl⟩
      go_wp2_with fail
      refine (new_any _ _ _ _).mono ?_; rintro e w2 ⟨rfl, hw2⟩
      have hb2 : Below w.heap.size w w2 := by rw [← hw2]; exact (below_drewN' (Below.refl _ _) d).alloc (Nat.le_refl _) _
      have hF := Whole.new (w.drewN d) 63 #[.int .i64 2, .int .i64 (p : Nat), .string ⟨#[98, 121, 116, 101, 115, 32, 97, 114, 101, 32, 108, 101, 102, 116]⟩]
      rw [hw2] at hF
      have HF := Lib.hid hF; have HB := Lib.hid hb2
      clear hw2 hF hb2
      go_wp2_with fail
      go_ret
      refine ⟨_, rfl, ?_, HB.out⟩
      rw [hE.out]
      exact ⟨_, _, rfl, HF.out, by decide⟩
    · have hE : Hid (endE none p l.length = none) := Lib.hid (by unfold endE; rw [if_neg hlt])
      have q0 : q = 0 := by omega
      subst q0
      clear hw hq L1 h hlt hp
      go_enter Tryz.func55, Tryz.ntmps55
      go_wp2_with fail
      refine L2.out.mono ?_; rintro e w1 ⟨rfl, d, hd⟩
      have hb2 : Below w.heap.size w w1 := by rw [hd]; exact below_drewN' (Below.refl _ _) d
      have HB := Lib.hid hb2
      clear hd hb2
      go_wp2_with fail
      go_ret
      refine ⟨_, rfl, ?_, HB.out⟩
      rw [hE.out]
      rfl
end
end Go.Proofs.YtnjkjgmnnmgngaaGreatDoor
