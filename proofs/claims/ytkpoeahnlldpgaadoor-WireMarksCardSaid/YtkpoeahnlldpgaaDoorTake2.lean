/- wire.Reader: ahead, Num, Long, Text. -/
import Derived.Test.YtkpoeahnlldpgaaDoorTake
import Derived.WalkSpells
namespace Go.Proofs.YtkpoeahnlldpgaaDoor
open Go.RowKit

/-- n bytes from a place on. -/
def sub (l : List UInt8) (p n : Nat) : List UInt8 := (l.take (p + n)).drop p
theorem sub_len (l : List UInt8) (p n : Nat) (h : p + n ≤ l.length) : (sub l p n).length = n := by simp [sub]; omega

set_option maxRecDepth 100000 in
theorem take_no (g p n : Nat) (E : Option (Int × Nat)) (l : List UInt8) (w : World) (h : RdAt w g l p E) (hn : E ≠ none ∨ l.length < p + n) (hl : l.length ≤ 1000000000) :
    Calls Tryd.prog 44 #[.pointer (some ⟨g, 0, none⟩), .int .i64 n] w fun e w' => e = .returned (.slice none 0 0) ∧ RdAt w' g l p (orP E (9, p)) ∧ w.grownBy w' (some g) := by
  have H1 := Lib.hid (holds_no g p n E l w h hn hl)
  clear h hn
  go_enter Tryd.func44, Tryd.ntmps44
  go_wp2_with fail
  refine H1.out.mono ?_; rintro e w1 ⟨rfl, hr1, hg1⟩
  have HR1 := Lib.hid hr1; have HG1 := Lib.hid hg1
  clear hr1 hg1
  go_wp2_with fail
  go_ret
  exact ⟨rfl, HR1.out, HG1.out⟩

set_option maxRecDepth 100000 in
theorem ahead_no (g p : Nat) (E : Option (Int × Nat)) (l : List UInt8) (w : World) (h : RdAt w g l p E) (hn : E ≠ none ∨ l.length < p + 4) (hl : l.length ≤ 1000000000) :
    Calls Tryd.prog 45 #[.pointer (some ⟨g, 0, none⟩)] w fun e w' => e = .returned (.tuple #[.int .i64 0, .bool false]) ∧ RdAt w' g l p (orP E (9, p)) ∧ w.grownBy w' (some g) := by
  have H1 := Lib.hid (holds_no g p 4 E l w h hn hl)
  clear h hn
  go_enter Tryd.func45, Tryd.ntmps45
  go_wp2_with fail
  refine H1.out.mono ?_; rintro e w1 ⟨rfl, hr1, hg1⟩
  have HR1 := Lib.hid hr1; have HG1 := Lib.hid hg1
  clear hr1 hg1
  go_wp2_with fail
  go_ret2
  exact ⟨rfl, HR1.out, HG1.out⟩

set_option maxRecDepth 100000 in
set_option maxHeartbeats 1000000 in
theorem ahead_ok (g p : Nat) (l : List UInt8) (w : World) (h : ReaderAt w g l p .nilIface) (hn : p + 4 ≤ l.length) (hl : l.length ≤ 1000000000) :
    Calls Tryd.prog 45 #[.pointer (some ⟨g, 0, none⟩)] w fun e w' => e = .returned (.tuple #[.int .i64 (num (sub l p 4) : Nat), .bool true]) ∧ ∃ d, w' = w.drewN d := by
  have H1 := Lib.hid (holds_ok g p 4 l w h hn hl)
  obtain ⟨_, A, c, hw, hv⟩ := h
  obtain ⟨hc, b, off, rfl, hne, hcell⟩ := reader_apart hw hv (by omega) (Or.inl rfl)
  obtain ⟨q, hq⟩ : ∃ q, p + 4 = q := ⟨_, rfl⟩
  have hwin := window hcell p q (c - p) (by omega) (by omega) (by omega)
  have hsl := sub_len l p 4 hn
  have hN := num_lt 4 (sub l p 4) hsl
  obtain ⟨N, hN2⟩ : ∃ N, num (sub l p 4) = N := ⟨_, rfl⟩
  rw [hN2] at hN
  have G := Lib.hid (fun (d : Nat) => get_any (sub l p 4) (.slice (some ⟨b, off + p, none⟩) (q - p) (c - p)) (w.drewN d) (by unfold sub; rw [hq]; exact hwin) (by omega))
  rw [hN2] at G
  obtain ⟨m, hm⟩ : ∃ m, l.length = m := ⟨_, rfl⟩
  rw [hq, hm] at hn
  rw [hm] at hl hc
  have a0 := hw.cell 0; have a1 := hw.cell 1
  simp at a0 a1
  rw [hm] at a0
  have hpq : ((p : Int) + 4) = q := by omega
  have wq : wrap64 (q : Int) = q := by unfold wrap64; omega
  have i1 : (0 : Int) ≤ p := by omega
  have i2 : (p : Int) ≤ q := by omega
  have i3 : (q : Int) ≤ c := by omega
  have i4 : (q : Int) ≤ 1000000000 := by omega
  have HN2 := Lib.hid hN2
  have hN3 : N < 4294967296 := by omega
  have wN : IntKind.i64.wrap (N : Int) = N := by rw [IntKind.wrap_i64]; omega
  clear hq hm hcell hn hw hv hwin hsl hN hN2
  go_enter Tryd.func45, Tryd.ntmps45
  go_wp2_with fail
  refine H1.out.mono ?_; rintro e w1 ⟨rfl, d, rfl⟩
  go_wp2_with fail
  obtain ⟨W, hW⟩ : ∃ W, w.drewN d = W := ⟨_, rfl⟩
  have b0 : W.cell? ⟨g, 0, none⟩ = some (.slice (some ⟨b, off, none⟩) m c) := by rw [← hW]; exact a0
  have b1 : W.cell? ⟨g, 1, none⟩ = some (.int .i64 (p : Nat)) := by rw [← hW]; exact a1
  have G2 : Hid (∀ d', Calls Tryd.prog 43 #[.slice (some ⟨b, off + p, none⟩) (q - p) (c - p)] (W.drewN d') fun e w' => e = .returned (.int .u64 (N : Nat)) ∧ w' = W.drewN d') := Lib.hid (fun d' => by rw [← hW, World.drewN_drewN]; exact G.out (d + d'))
  rw [hW]
  have HW := Lib.hid hW
  clear hW a0 a1
  go_quiet ((go_at_call 43; with_reducible exact Calls.quiet_of_same (G2.out _)))
  go_wp2
  go_ret2
  exact ⟨by rw [HN2.out]; rfl, _, by rw [← HW.out, World.drewN_drewN]⟩

set_option maxRecDepth 100000 in
theorem rnum_ok (g p : Nat) (l : List UInt8) (w : World) (h : ReaderAt w g l p .nilIface) (hn : p + 4 ≤ l.length) (hl : l.length ≤ 1000000000) :
    Calls Tryd.prog 26 #[.pointer (some ⟨g, 0, none⟩)] w fun e w' => e = .returned (.int .i64 (num (sub l p 4) : Nat)) ∧ ReaderAt w' g l (p + 4) .nilIface ∧ w.grownBy w' (some g) := by
  have H1 := Lib.hid (take_ok g p 4 l w h hn (by omega) hl)
  have hsl := sub_len l p 4 hn
  have hN := num_lt 4 (sub l p 4) hsl
  obtain ⟨N, hN2⟩ : ∃ N, num (sub l p 4) = N := ⟨_, rfl⟩
  rw [hN2] at hN
  have HN2 := Lib.hid hN2
  have wN : IntKind.i64.wrap (N : Int) = N := by rw [IntKind.wrap_i64]; omega
  have hN3 : N < 4294967296 := by omega
  clear h hN hN2
  go_enter Tryd.func26, Tryd.ntmps26
  go_wp2_with fail
  refine H1.out.mono ?_; rintro e w1 ⟨b, off, c', rfl, hb, hr, hg⟩
  have G := Lib.hid (get_any (sub l p 4) _ w1 hb (by omega))
  rw [HN2.out] at G
  have HR := Lib.hid hr; have HG := Lib.hid hg
  clear hb hr hg hsl
  go_wp2_with fail
  refine G.out.mono ?_; rintro e w2 ⟨rfl, rfl⟩
  go_wp2_with fail
  go_ret
  exact ⟨by rw [HN2.out]; rfl, HR.out, HG.out⟩

set_option maxRecDepth 100000 in
theorem rlong_ok (g p : Nat) (l : List UInt8) (w : World) (h : ReaderAt w g l p .nilIface) (hn : p + 8 ≤ l.length) (hl : l.length ≤ 1000000000) :
    Calls Tryd.prog 27 #[.pointer (some ⟨g, 0, none⟩)] w fun e w' => e = .returned (.int .i64 (IntKind.i64.wrap (num (sub l p 8) : Nat))) ∧ ReaderAt w' g l (p + 8) .nilIface ∧ w.grownBy w' (some g) := by
  have H1 := Lib.hid (take_ok g p 8 l w h hn (by omega) hl)
  have hsl := sub_len l p 8 hn
  obtain ⟨N, hN2⟩ : ∃ N, num (sub l p 8) = N := ⟨_, rfl⟩
  have HN2 := Lib.hid hN2
  obtain ⟨z, hz⟩ : ∃ z, IntKind.i64.wrap (N : Int) = z := ⟨_, rfl⟩
  clear h hN2
  go_enter Tryd.func27, Tryd.ntmps27
  go_wp2_with fail
  refine H1.out.mono ?_; rintro e w1 ⟨b, off, c', rfl, hb, hr, hg⟩
  have G := Lib.hid (get_any (sub l p 8) _ w1 hb (by omega))
  rw [HN2.out] at G
  have HR := Lib.hid hr; have HG := Lib.hid hg
  clear hb hr hg hsl
  go_wp2_with fail
  refine G.out.mono ?_; rintro e w2 ⟨rfl, rfl⟩
  go_wp2_with fail
  go_ret
  exact ⟨by rw [HN2.out, hz]; rfl, HR.out, HG.out⟩

theorem addr_add (b o j : Nat) : (⟨b, o, none⟩ : Addr).add j = ⟨b, o + j, none⟩ := by unfold Addr.add; split <;> simp_all
set_option maxRecDepth 100000 in
set_option maxHeartbeats 1000000 in
theorem rtext_ok (g p n : Nat) (l : List UInt8) (w : World) (h : ReaderAt w g l p .nilIface) (hnum : num (sub l p 4) = n) (hn : p + 4 + n ≤ l.length) (hl : l.length ≤ 1000000000) :
    Calls Tryd.prog 28 #[.pointer (some ⟨g, 0, none⟩)] w fun e w' => e = .returned (.string ⟨(sub l (p + 4) n).toArray⟩) ∧ ReaderAt w' g l (p + 4 + n) .nilIface ∧ w.grownBy w' (some g) := by
  have H1 := Lib.hid (ahead_ok g p l w h (by omega) hl)
  rw [hnum] at H1
  have HR := Lib.hid h
  obtain ⟨t, ht⟩ : ∃ t, 4 + n = t := ⟨_, rfl⟩
  have ht' : ((4 : Int) + n) = t := by omega
  have i1 : n ≤ 1000000000 := by omega
  have HT := Lib.hid ht; have HN := Lib.hid hn; have HNUM := Lib.hid hnum
  clear h hn ht hnum
  go_enter Tryd.func28, Tryd.ntmps28
  go_wp2_with fail
  refine H1.out.mono ?_; rintro e w1 ⟨rfl, d, hd⟩
  have hr1 : ReaderAt w1 g l p .nilIface := by rw [hd]; exact HR.out
  have hg1 : w.grownBy w1 (some g) := by rw [hd]; exact ⟨rfl, rfl, rfl, Nat.le_refl _, fun _ _ _ => rfl⟩
  have H2 := Lib.hid (take_ok g p t l w1 hr1 (by have := HT.out; have := HN.out; omega) (by have := HT.out; omega) hl)
  have HG1 := Lib.hid hg1
  clear hr1 hg1 hd
  go_wp2_with fail
  refine H2.out.mono ?_; rintro e w2 ⟨b, off, c', rfl, hb, hr, hg⟩
  have HR2 := Lib.hid hr; have HG2 := Lib.hid hg
  have hT := HT.out
  have hsl := sub_len l p t (by have := HN.out; omega)
  obtain ⟨hxx, hcc, b', off', e1, hcell⟩ := hb.cells (show 0 < (sub l p t).length by omega)
  injection e1 with e1
  injection e1 with e1 e2
  subst e1 e2
  clear hxx
  have hle : t ≤ c' := by
    have h1 := hcc
    change (sub l p t).length ≤ c' at h1
    omega
  have h4 : 4 ≤ t := by omega
  have HE : Hid ((sub l p t).drop 4 = sub l (p + 4) n) := Lib.hid (by unfold sub; rw [List.drop_drop, ← hT, show p + (4 + n) = p + 4 + n by omega])
  have hlen4 : ((sub l p t).drop 4).length = t - 4 := by rw [List.length_drop, hsl]
  have i2 : (4 : Int) ≤ t := by omega
  have i3 : (t : Int) ≤ c' := by omega
  rcases Nat.eq_or_lt_of_le (show 4 ≤ c' by omega) with hc4 | hc4
  · subst hc4
    have hn0 : t = 4 := by omega
    subst hn0
    have kb := run_convert_bytes_back (P := Tryd.prog) w2 27 9 5 ⟨b, off, none⟩ 0 [] Tryd.underlying27 Tryd.underlying5 Tryd.underlying9 (fun j hj => by simp at hj)
    rw [show ([] : List UInt8).length = 0 from rfl] at kb
    have HL : Hid (sub l (p + 4) n = []) := Lib.hid (by rw [← HE.out]; exact List.eq_nil_of_length_eq_zero (by rw [hlen4]))
    have hq := Lib.run_eql_slice_nil (P := Tryd.prog) w2 27 5 (some ⟨b, off, none⟩) 4 4 0 0 Tryd.underlying27
    clear hb hr hg hT hsl hcell hcc hlen4 ht' i1
    go_wp2_with fail
    go_ret
    refine ⟨?_, ?_, ?_⟩
    · rw [HL.out]; rfl
    · have := HR2.out; rw [← HT.out, ← Nat.add_assoc] at this; exact this
    · exact grown_trans HG1.out HG2.out
  · have kb := run_convert_bytes_back (P := Tryd.prog) w2 27 9 5 ⟨b, off + 4, none⟩ (c' - 4) ((sub l p t).drop 4) Tryd.underlying27 Tryd.underlying5 Tryd.underlying9 (fun j hj => by
      have hj' : j < t - 4 := by rw [← hlen4]; exact hj
      have h3 := hcell (4 + j) (by change 4 + j < (sub l p t).length; omega)
      rw [addr_add, Nat.add_assoc, h3]
      have h5 : 4 + j < (sub l p t).length := by omega
      change some (Value.int .u8 (((sub l p t).getD (4 + j) 0).toNat : Int)) = _
      simp [List.getD, h5])
    rw [hlen4] at kb
    obtain ⟨s, hs⟩ : ∃ s : ByteArray, (⟨((sub l p t).drop 4).toArray⟩ : ByteArray) = s := ⟨_, rfl⟩
    rw [hs] at kb
    have HS := Lib.hid hs
    have hne : (c' == 4) = false := by simp; omega
    have hne2 : (4 == c') = false := by simp; omega
    have hq := Lib.run_eql_slice_nil (P := Tryd.prog) w2 27 5 (some ⟨b, off, none⟩) t c' 0 0 Tryd.underlying27
    clear hb hr hg hT hsl hcell hcc hlen4 hs ht' i1
    go_wp2_with fail
    go_ret
    refine ⟨?_, ?_, ?_⟩
    · rw [← HS.out, HE.out]; rfl
    · have := HR2.out; rw [← HT.out, ← Nat.add_assoc] at this; exact this
    · exact grown_trans HG1.out HG2.out

/-- What a Reader tells at its end. -/
def endE (E : Option (Int × Nat)) (p n : Nat) : Option (Int × Nat) := match E with | none => if p < n then some (2, p) else none | some x => some x
set_option maxRecDepth 100000 in
theorem rend_any (g p : Nat) (E : Option (Int × Nat)) (l : List UInt8) (w : World) (h : RdAt w g l p E) (hl : l.length ≤ 1000000000) :
    Calls Tryd.prog 24 #[.pointer (some ⟨g, 0, none⟩)] w fun e w' => ∃ v, e = .returned v ∧ RErr w' v (endE E p l.length) ∧ Below w.heap.size w w' := by
  cases E with
  | some E =>
    obtain ⟨v, h1, b, s, rfl, h2⟩ := h
    have HF := Lib.hid h2
    obtain ⟨_, A, c, hw, _⟩ := h1
    have a2 := hw.cell 2
    simp at a2
    clear hw h2
    go_enter Tryd.func24, Tryd.ntmps24
    go_wp2_with fail
    go_ret
    exact ⟨_, rfl, ⟨b, s, rfl, HF.out⟩, Below.refl _ _⟩
  | none =>
    have hR := h.none
    have L1 := left_any g p l _ w hR hl
    obtain ⟨hp, A, c, hw, _⟩ := hR
    have a2 := hw.cell 2; have a1 := hw.cell 1
    simp at a2 a1
    obtain ⟨q, hq⟩ : ∃ q, l.length - p = q := ⟨_, rfl⟩
    rw [hq] at L1
    have L2 := Lib.hid L1
    by_cases hlt : p < l.length
    · have hE : Hid (endE none p l.length = some (2, p)) := Lib.hid (by unfold endE; rw [if_pos hlt])
      have t1 : decide (0 < q) = true := decide_eq_true (by omega)
      have t2 : decide ((0 : Int) < q) = true := decide_eq_true (by omega)
      clear hw hq L1 h hlt hp
      go_enter Tryd.func24, Tryd.ntmps24
      go_wp2_with fail
      refine L2.out.mono ?_; rintro e w1 ⟨rfl, d, rfl⟩
      go_wp2_with fail
      refine (new_any _ _ _ _).mono ?_; rintro e w2 ⟨rfl, hw2⟩
      have hb2 : Below w.heap.size w w2 := by rw [← hw2]; exact (below_drewN' (Below.refl _ _) d).alloc (Nat.le_refl _) _
      have hF := Whole.new (w.drewN d) 71 #[.int .i64 2, .int .i64 (p : Nat), .string ⟨#[98, 121, 116, 101, 115, 32, 97, 114, 101, 32, 108, 101, 102, 116]⟩]
      rw [hw2] at hF
      have HF := Lib.hid hF; have HB := Lib.hid hb2
      clear hw2 hF hb2
      go_wp2_with fail
      go_ret
      refine ⟨_, rfl, ?_, HB.out⟩
      rw [hE.out]
      exact ⟨_, _, rfl, HF.out⟩
    · have hE : Hid (endE none p l.length = none) := Lib.hid (by unfold endE; rw [if_neg hlt])
      have q0 : q = 0 := by omega
      subst q0
      clear hw hq L1 h hlt hp
      go_enter Tryd.func24, Tryd.ntmps24
      go_wp2_with fail
      refine L2.out.mono ?_; rintro e w1 ⟨rfl, d, hd⟩
      have hb2 : Below w.heap.size w w1 := by rw [hd]; exact below_drewN' (Below.refl _ _) d
      have HB := Lib.hid hb2
      clear hd hb2
      go_wp2_with fail
      go_ret
      refine ⟨_, rfl, ?_, HB.out⟩
      rw [hE.out]
      rfl
end Go.Proofs.YtkpoeahnlldpgaaDoor
