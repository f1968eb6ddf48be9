/- wire.Writer: what its calls put. -/
import Derived.Test.YtkpoeahnlldpgaaDoorWriter
import Derived.Test.YtkpoeahnlldpgaaDoorInts
namespace Go.Proofs.YtkpoeahnlldpgaaDoor
open Go.RowKit

theorem wnum_any (g base : Nat) (n : Int) (l : List UInt8) (E : Option Nat) (w : World) (h : WriterAt w g base l E) (hl : l.length ≤ 1000000) :
    Calls Tryd.prog 20 #[.pointer (some ⟨g, 0, none⟩), .int .i64 n] w fun e w' => e = .returned (.tuple #[]) ∧ WriterAt w' g base (l ++ numB n) (numE E n l.length) ∧ Below base w w' := by
  by_cases hf : 0 ≤ n ∧ n ≤ 4294967295
  · have hF : fitsN n = true := decide_eq_true hf
    obtain ⟨m, rfl⟩ : ∃ m : Nat, n = m := ⟨n.toNat, by omega⟩
    unfold numB numE
    rw [hF]
    simp only [if_true, Int.toNat_natCast]
    exact wnum_ok g base m l E w h (by omega) hl
  · have hF : fitsN n = false := decide_eq_false hf
    unfold numB numE
    rw [hF]
    simp only [Bool.false_eq_true, if_false]
    exact wnum_bad g base n l E w h (by omega) hl

set_option maxRecDepth 100000 in
set_option maxHeartbeats 4000000 in
theorem wlong_any (g base : Nat) (n : Int) (l : List UInt8) (E : Option Nat) (w : World) (h : WriterAt w g base l E) (hl : l.length ≤ 1000000) :
    Calls Tryd.prog 21 #[.pointer (some ⟨g, 0, none⟩), .int .i64 n] w fun e w' => e = .returned (.tuple #[]) ∧ WriterAt w' g base (l ++ be 8 (n % 18446744073709551616).toNat) E ∧ Below base w w' := by
  obtain ⟨hbg, A, c, v, hw, hown, hE⟩ := h
  have hgl := hw.lt
  obtain ⟨m, hm⟩ : ∃ m, (n % 18446744073709551616).toNat = m := ⟨_, rfl⟩
  have hm1 : IntKind.u64.wrap n = (m : Int) := by rw [IntKind.wrap_u64]; omega
  rw [hm]
  have P1 := Lib.hid (put8 base l.length m m rfl _ _ w hown (by omega) (by omega) (by omega))
  have a0 := hw.cell 0; have a1 := hw.free 0
  simp at a0
  have HW := Lib.hid hw; have HO := Lib.hid hown; have HE := Lib.hid hE
  clear hw hown hE hm
  go_enter Tryd.func21, Tryd.ntmps21
  go_wp2_with fail
  refine P1.out.mono ?_; rintro e w2 ⟨v2, rfl, hown2, hgrow2⟩
  obtain ⟨A2, c2, rfl⟩ := own_form hown2
  have hw2 := hgrow2.whole HW.out HO.out (by decide)
  have b0 := hw2.cell 0; have b1 := hw2.free 0
  simp at b0
  have HW2 := Lib.hid hw2; have HO2 := Lib.hid hown2; have HG2 := Lib.hid hgrow2
  clear hw2 hown2 hgrow2
  go_wp2_with fail
  go_end0
  have e1 : (l ++ be 8 m).length = l.length + 8 := by simp [be_len]
  refine ⟨rfl, ⟨hbg, A2, c2, v, ?_, ?_, ?_⟩, ?_⟩
  · rw [e1]; exact HW2.out.put 0 _
  · rw [e1, byteCells_app]; exact own_put HO2.out (own_ne HO2.out HW2.out (by decide)) _
  · exact HE.out.keep fun b cs hb => (HG2.out.whole hb HO.out (by decide)).other (p := ⟨g, 0, none⟩) (whole_ne hb HW.out (by decide)) _
  · exact (HG2.out.below HO.out (Below.refl _ _) (Nat.le_refl _) (by omega)).setCell hbg _

theorem strCells_eq (s : ByteArray) : Lib.strCells s = Lib.byteCells s.data.toList := rfl
set_option maxRecDepth 100000 in
set_option maxHeartbeats 4000000 in
theorem wtext_any (g base : Nat) (s : ByteArray) (l : List UInt8) (E : Option Nat) (w : World) (h : WriterAt w g base l E) (hl : l.length ≤ 900000) (hs : s.size ≤ 1000) :
    Calls Tryd.prog 22 #[.pointer (some ⟨g, 0, none⟩), .string s] w fun e w' => e = .returned (.tuple #[]) ∧ WriterAt w' g base (l ++ be 4 s.size ++ s.data.toList) E ∧ Below base w w' := by
  obtain ⟨i0, hi, hz0, hz1, hz2⟩ := info_parts Tryd.infoU8
  have N1 := Lib.hid (wnum_ok g base s.size l E w h (by omega) (by omega))
  have hbg := h.1
  have hbs : base ≤ w.heap.size := by obtain ⟨_, A, c, v, hw, _⟩ := h; have := hw.lt; omega
  clear h
  go_enter Tryd.func22, Tryd.ntmps22
  go_wp2_with fail
  refine N1.out.mono ?_; rintro e w2 ⟨rfl, hwr, hb2⟩
  obtain ⟨_, A, c, v, hw, hown, hE⟩ := hwr
  have hl2 : (l ++ be 4 s.size).length = l.length + 4 := by simp [be_len]
  obtain ⟨l2, hl3⟩ : ∃ l2, l ++ be 4 s.size = l2 := ⟨_, rfl⟩
  rw [hl3] at hw hown hl2
  have HL3 := Lib.hid hl3
  have hlen : l2.length ≤ 950000 := by omega
  have a0 := hw.cell 0; have a1 := hw.free 0
  simp at a0
  have hbs2 : base ≤ w2.heap.size := Nat.le_trans hbs hb2.size
  have HW := Lib.hid hw; have HO := Lib.hid hown; have HE := Lib.hid hE; have HB := Lib.hid hb2
  clear hw hown hE hb2 hl3 hl2
  go_wp2_with (at_builtin; refine Lib.wpList_append_own_string _ rfl _ _ 27 9 rfl base 5 i0 Tryd.underlying27 Tryd.underlying9 hi hz0 hz1 hz2 _ l2.length _ rfl HO.out s rfl (by unfold maxLen; omega) (by omega) hbs2 ?_)
  intro v3 w3 hown3 hgrow3 _
  obtain ⟨A3, c3, rfl⟩ := own_form hown3
  have hw3 : Whole w3 g 60 #[.slice A l2.length c, v] := HW.out.grown hgrow3 (fun he => own_ne HO.out HW.out (by decide) he.symm)
  have b0 := hw3.cell 0; have b1 := hw3.free 0
  simp at b0
  have HW3 := Lib.hid hw3; have HO3 := Lib.hid hown3; have HG3 := Lib.hid hgrow3
  clear hw3 hown3 hgrow3
  go_wp2_with fail
  go_end0
  have e1 : (l2 ++ s.data.toList).length = l2.length + s.size := by rw [List.length_append, Array.length_toList]; rfl
  rw [HL3.out]
  refine ⟨rfl, ⟨hbg, A3, c3, v, ?_, ?_, ?_⟩, ?_⟩
  · rw [e1]; exact HW3.out.put 0 _
  · rw [e1, byteCells_app, ← strCells_eq]; exact own_put HO3.out (own_ne HO3.out HW3.out (by decide)) _
  · exact HE.out.keep fun b cs hb => (hb.grown HG3.out (fun he => own_ne HO.out hb (by decide) he.symm)).other (p := ⟨g, 0, none⟩) (whole_ne hb HW.out (by decide)) _
  · exact (HB.out.grown HG3.out hbs2 (fun k hk => (HO.out.lt k hk).1)).setCell hbg _

/-- The bytes of numbers, and the error behind them. -/
def numsB (Z : Nat → Int) : Nat → List UInt8
  | 0 => []
  | k + 1 => numsB Z k ++ numB (Z k)
def numsE (Z : Nat → Int) (E : Option Nat) (at_ : Nat) : Nat → Option Nat
  | 0 => E
  | k + 1 => numE (numsE Z E at_ k) (Z k) (at_ + 4 * k)
theorem numsB_len (Z : Nat → Int) : ∀ k, (numsB Z k).length = 4 * k
  | 0 => rfl
  | k + 1 => by simp [numsB, numsB_len Z k, numB_len]; omega

set_option maxRecDepth 100000 in
set_option maxHeartbeats 4000000 in
theorem wlist_any (g base n : Nat) (Z : Nat → Int) (u : Value) (l : List UInt8) (E : Option Nat) (w : World) (h : WriterAt w g base l E) (hu : IntsV w u n Z) (hbase : w.heap.size ≤ base ∨ ∀ w', Below base w w' → IntsV w' u n Z) (hl : l.length ≤ 900000) (hn : n ≤ 1000) :
    Calls Tryd.prog 23 #[.pointer (some ⟨g, 0, none⟩), u] w fun e w' => e = .returned (.tuple #[]) ∧ WriterAt w' g base (l ++ be 4 n ++ numsB Z n) (numsE Z E (l.length + 4) n) ∧ Below base w w' := by
  have hkeep : ∀ w', Below base w w' → IntsV w' u n Z := by
    intro w' hb
    rcases hbase with h1 | h1
    · exact hu.below hb h1
    · exact h1 w' hb
  clear hbase
  obtain ⟨A, c, rfl⟩ := hu.form
  have N1 := Lib.hid (wnum_ok g base n l E w h (by omega) (by omega))
  have HK := Lib.hid hkeep
  clear h hu hkeep
  go_enter Tryd.func23, Tryd.ntmps23
  go_wp2_with fail
  refine N1.out.mono ?_; rintro e w2 ⟨rfl, hwr, hb2⟩
  have HWR := Lib.hid hwr; have HB2 := Lib.hid hb2
  clear hwr hb2
  go_wp2_with fail
  go_loopg [12] n (fun t y wr => ∃ k, k ≤ n ∧ t = n - k ∧ y = .int .i64 (k : Nat) ∧ WriterAt wr g base (l ++ be 4 n ++ numsB Z k) (numsE Z E (l.length + 4) k) ∧ Below base w wr)
  case atStart => exact ⟨0, by omega, rfl, rfl, by simpa [numsB, numsE] using HWR.out, HB2.out⟩
  case round =>
    obtain ⟨k, hk, rfl, rfl, hwr, hb⟩ := hrel
    by_cases hlt : k < n
    · obtain ⟨b, off, rfl, hcell⟩ := (HK.out wr hb).pos hlt
      have hc := hcell k hlt
      obtain ⟨z, hz⟩ : ∃ z, Z k = z := ⟨_, rfl⟩
      rw [hz] at hc
      have N2 := Lib.hid (wnum_any g base z _ _ wr hwr (by simp [be_len, numsB_len]; omega))
      have HB := Lib.hid hb; have HZ := Lib.hid hz; have HLT := Lib.hid hlt
      have t1 : decide (k < n) = true := decide_eq_true hlt
      have i0' : (0 : Int) ≤ k := by omega
      have i1' : (k : Int) < n := by omega
      clear hwr hb hz hcell
      go_wp2_with fail
      refine N2.out.mono ?_; rintro e w3 ⟨rfl, hwr3, hb3⟩
      have HW3 := Lib.hid hwr3; have HB3 := Lib.hid (HB.out.trans hb3)
      clear hwr3 hb3
      go_wp2_with fail
      go_roundg (n - (k + 1))
      case rel =>
        refine ⟨k + 1, by omega, rfl, by go_num, ?_, HB3.out⟩
        have h1 := HW3.out
        rw [← HZ.out, List.append_assoc] at h1
        have e1 : (l ++ be 4 n ++ numsB Z k).length = l.length + 4 + 4 * k := by simp [be_len, numsB_len]; omega
        rw [e1] at h1
        exact h1
      case measure => omega
    · obtain rfl : k = n := by omega
      have t1 : decide (k < k) = false := by simp
      have HWR' := Lib.hid hwr; have HB := Lib.hid hb
      clear hwr hb
      go_wp2
      go_end0
      exact ⟨rfl, HWR'.out, HB.out⟩

set_option maxRecDepth 100000 in
theorem wbytes_any (g base : Nat) (l : List UInt8) (E : Option Nat) (w : World) (h : WriterAt w g base l E) (hl : l.length ≤ 1000000) :
    Calls Tryd.prog 13 #[.pointer (some ⟨g, 0, none⟩)] w fun e w' => ∃ v', e = .returned v' ∧ w'.ownsRow w.heap.size 5 1 v' l.length (Lib.byteCells l) ∧ Below w.heap.size w w' := by
  obtain ⟨hbg, A, c, v, hw, hown, hE⟩ := h
  have C1 := Lib.hid (clone_any l _ w (own_bytesV hown) (by omega))
  have a0 := hw.cell 0
  simp at a0
  clear hw hown hE
  go_enter Tryd.func13, Tryd.ntmps13
  go_wp2_with fail
  refine C1.out.mono ?_; rintro e w2 ⟨v2, rfl, hown2, hb2⟩
  have HO2 := Lib.hid hown2; have HB2 := Lib.hid hb2
  clear hown2 hb2
  go_wp2_with fail
  go_ret
  exact ⟨_, rfl, HO2.out, HB2.out⟩
theorem WriterAt.below {w w' : World} {g base : Nat} {l : List UInt8} {E : Option Nat} (h : WriterAt w g base l E) (hb : Below w.heap.size w w') : WriterAt w' g base l E := by
  obtain ⟨hbg, A, c, v, hw, hown, hE⟩ := h
  exact ⟨hbg, A, c, v, hw.below hb hw.lt, own_below hown hb (Nat.le_refl _), hE.keep fun b cs hbb => hbb.below hb hbb.lt⟩
theorem writer_new (w : World) (base : Nat) (hb : base ≤ w.heap.size) : WriterAt (w.alloc (.cells #[.slice none 0 0, .nilIface] 60)) w.heap.size base [] none :=
  ⟨hb, none, 0, .nilIface, Whole.new _ _ _, World.ownsRow_nil _ _ _ _, rfl⟩
end Go.Proofs.YtkpoeahnlldpgaaDoor
