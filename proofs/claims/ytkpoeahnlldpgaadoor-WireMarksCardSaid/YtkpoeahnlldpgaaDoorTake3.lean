/- wire.Reader: what is told behind an error; List; a reader and a writer that are nil. -/
import Derived.Test.YtkpoeahnlldpgaaDoorRefPut
namespace Go.Proofs.YtkpoeahnlldpgaaDoor
open Go.RowKit

theorem get_nil (w : World) : Calls Tryd.prog 43 #[.slice none 0 0] w fun e w' => e = .returned (.int .u64 0) ∧ w' = w := get_any [] (.slice none 0 0) w (bytesV_nil _ _ _) (by decide)

set_option maxRecDepth 100000 in
theorem rnum_no (g p : Nat) (E : Option (Int × Nat)) (l : List UInt8) (w : World) (h : RdAt w g l p E) (hn : E ≠ none ∨ l.length < p + 4) (hl : l.length ≤ 1000000000) :
    Calls Tryd.prog 26 #[.pointer (some ⟨g, 0, none⟩)] w fun e w' => e = .returned (.int .i64 0) ∧ RdAt w' g l p (orP E (9, p)) ∧ w.grownBy w' (some g) := by
  have H1 := Lib.hid (take_no g p 4 E l w h hn hl)
  clear h hn
  go_enter Tryd.func26, Tryd.ntmps26
  go_wp2_with fail
  refine H1.out.mono ?_; rintro e w1 ⟨rfl, hr, hg⟩
  have HR := Lib.hid hr; have HG := Lib.hid hg
  clear hr hg
  go_wp2_with fail
  refine (get_nil _).mono ?_; rintro e w2 ⟨rfl, rfl⟩
  go_wp2_with fail
  go_ret
  exact ⟨rfl, HR.out, HG.out⟩

set_option maxRecDepth 100000 in
theorem rlong_no (g p : Nat) (E : Option (Int × Nat)) (l : List UInt8) (w : World) (h : RdAt w g l p E) (hn : E ≠ none ∨ l.length < p + 8) (hl : l.length ≤ 1000000000) :
    Calls Tryd.prog 27 #[.pointer (some ⟨g, 0, none⟩)] w fun e w' => e = .returned (.int .i64 0) ∧ RdAt w' g l p (orP E (9, p)) ∧ w.grownBy w' (some g) := by
  have H1 := Lib.hid (take_no g p 8 E l w h hn hl)
  clear h hn
  go_enter Tryd.func27, Tryd.ntmps27
  go_wp2_with fail
  refine H1.out.mono ?_; rintro e w1 ⟨rfl, hr, hg⟩
  have HR := Lib.hid hr; have HG := Lib.hid hg
  clear hr hg
  go_wp2_with fail
  refine (get_nil _).mono ?_; rintro e w2 ⟨rfl, rfl⟩
  go_wp2_with fail
  go_ret
  exact ⟨rfl, HR.out, HG.out⟩

set_option maxRecDepth 100000 in
theorem rtext_no (g p : Nat) (E : Option (Int × Nat)) (l : List UInt8) (w : World) (h : RdAt w g l p E) (hn : E ≠ none ∨ l.length < p + 4) (hl : l.length ≤ 1000000000) :
    Calls Tryd.prog 28 #[.pointer (some ⟨g, 0, none⟩)] w fun e w' => e = .returned (.string ⟨#[]⟩) ∧ RdAt w' g l p (orP E (9, p)) ∧ w.grownBy w' (some g) := by
  have H1 := Lib.hid (ahead_no g p E l w h hn hl)
  clear h hn
  go_enter Tryd.func28, Tryd.ntmps28
  go_wp2_with fail
  refine H1.out.mono ?_; rintro e w1 ⟨rfl, hr, hg⟩
  have HR := Lib.hid hr; have HG := Lib.hid hg
  clear hr hg
  go_wp2_with fail
  go_ret
  exact ⟨rfl, HR.out, HG.out⟩

set_option maxRecDepth 100000 in
theorem rlist_no (g p : Nat) (most : Int) (E : Option (Int × Nat)) (l : List UInt8) (w : World) (h : RdAt w g l p E) (hn : E ≠ none ∨ l.length < p + 4) (hl : l.length ≤ 1000000000) :
    Calls Tryd.prog 29 #[.pointer (some ⟨g, 0, none⟩), .int .i64 most] w fun e w' => e = .returned (.slice none 0 0) ∧ RdAt w' g l p (orP E (9, p)) ∧ w.grownBy w' (some g) := by
  have H1 := Lib.hid (ahead_no g p E l w h hn hl)
  clear h hn
  go_enter Tryd.func29, Tryd.ntmps29
  go_wp2_with fail
  refine H1.out.mono ?_; rintro e w1 ⟨rfl, hr, hg⟩
  have HR := Lib.hid hr; have HG := Lib.hid hg
  clear hr hg
  go_wp2_with fail
  go_ret
  exact ⟨rfl, HR.out, HG.out⟩

theorem Tryd.infoInt : (Tryd.prog.info? 3).map (fun i => (i.zero, i.size, i.bytes)) = some (some (.int .i64 0), 1, 8) := by kernel_rfl

theorem sub_sub (l : List UInt8) (p n i j k : Nat) (hj : j = i + k) (h : i + k ≤ n) : ((sub l p n).take j).drop i = sub l (p + i) k := by
  subst hj
  apply List.ext_getElem?
  intro t
  unfold sub
  simp only [List.getElem?_drop, List.getElem?_take]
  by_cases ht : t < k
  · rw [if_pos (by omega), if_pos (by omega), if_pos (by omega), Nat.add_assoc]
  · rw [if_neg (by omega), if_neg (by omega)]

set_option maxRecDepth 100000 in
set_option maxHeartbeats 4000000 in
theorem rlist_ok (g p n most : Nat) (l : List UInt8) (w : World) (h : ReaderAt w g l p .nilIface) (hnum : num (sub l p 4) = n) (hn : p + 4 + 4 * n ≤ l.length) (hm : n ≤ most) (hM : most ≤ 1000000000) (hl : l.length ≤ 1000000000) :
    Calls Tryd.prog 29 #[.pointer (some ⟨g, 0, none⟩), .int .i64 most] w fun e w' => ∃ b : Nat, e = .returned (.slice (some ⟨b, 0, none⟩) n n) ∧ w.heap.size ≤ b ∧ IntsV w' (.slice (some ⟨b, 0, none⟩) n n) n (fun i => (num (sub l (p + 4 + 4 * i) 4) : Nat)) ∧ ReaderAt w' g l (p + 4 + 4 * n) .nilIface ∧ w.grownBy w' (some g) := by
  obtain ⟨i0, hi, hz0, hz1, hz2⟩ := info_parts Tryd.infoInt
  have H1 := Lib.hid (ahead_ok g p l w h (by omega) hl)
  rw [hnum] at H1
  have HR := Lib.hid h
  obtain ⟨t, ht⟩ : ∃ t, 4 + 4 * n = t := ⟨_, rfl⟩
  have ht' : ((4 : Int) + 4 * n) = t := by omega
  have i1 : n ≤ 1000000000 := by omega
  have tm : decide (most < n) = false := decide_eq_false (by omega)
  have tm2 : decide ((most : Int) < n) = false := decide_eq_false (by omega)
  have hmax : max (most : Int) 0 = most := by omega
  have HT := Lib.hid ht; have HN := Lib.hid hn; have HNUM := Lib.hid hnum; have HM := Lib.hid hm
  clear h hn ht hnum hm
  go_enter Tryd.func29, Tryd.ntmps29
  go_wp2_with fail
  refine H1.out.mono ?_; rintro e w1 ⟨rfl, d, hd⟩
  have hr1 : ReaderAt w1 g l p .nilIface := by rw [hd]; exact HR.out
  have hg1 : w.grownBy w1 (some g) := by rw [hd]; exact ⟨rfl, rfl, rfl, Nat.le_refl _, fun _ _ _ => rfl⟩
  have H2 := Lib.hid (take_ok g p t l w1 hr1 (by have := HT.out; have := HN.out; omega) (by have := HT.out; omega) hl)
  have HG1 := Lib.hid hg1
  clear hr1 hg1 hd
  go_wp2_with fail
  refine H2.out.mono ?_; rintro e w2 ⟨b, off, c', rfl, hb, hr, hg⟩
  have HR2 := Lib.hid hr; have HG2 := Lib.hid hg
  have hT := HT.out
  have hsl := sub_len l p t (by have := HN.out; omega)
  obtain ⟨hxx, hcc, b', off', e1, hcell⟩ := hb.cells (show 0 < (sub l p t).length by omega)
  clear hxx
  injection e1 with e1
  injection e1 with e1 e2
  subst e1 e2
  have hle : t ≤ c' := by
    have h1 := hcc
    change (sub l p t).length ≤ c' at h1
    omega
  have hbl : b < w2.heap.size := World.block_lt_of_cell? _ _ (hcell 0 (by change 0 < (sub l p t).length; omega))
  have HCELL := Lib.hid hcell
  have hq := Lib.run_eql_slice_nil (P := Tryd.prog) w2 27 5 (some ⟨b, off, none⟩) t c' 0 0 Tryd.underlying27
  have HSL := Lib.hid hsl
  clear hb hr hg hT hsl hcell hcc ht'
  go_wp2_with (at_make; refine wpList_make_full _ rfl _ _ 38 rfl w2.heap.size 3 i0 (.int .i64 0) 1 Tryd.underlying38 hi hz0 hz1 _ _ _ _ n rfl rfl rfl rfl ?b2 ?b3 (Nat.le_refl _) ?_)
  case b2 => rw [hz2]; omega
  case b3 => unfold maxLen; omega
  intro w3 hown hgr
  have hb3 : Below w2.heap.size w2 w3 := (Below.refl _ _).grown hgr (Nat.le_refl _) (fun k hk => by cases hk)
  clear hgr hq
  have HO3 := Lib.hid hown; have HB3 := Lib.hid hb3
  clear hown hb3
  go_wp2
  go_loopg [40] n (fun g' y wr => ∃ (k : Nat) (xs : List Value), k ≤ n ∧ g' = n - k ∧ y = .int .i64 (k : Nat) ∧ wr.ownsRow w2.heap.size 3 1 (.slice (some ⟨w2.heap.size, 0, none⟩) n n) n xs ∧ (∀ j, j < k → xs[j]? = some (.int .i64 (num (sub l (p + 4 + 4 * j) 4) : Nat))) ∧ Below w2.heap.size w2 wr)
  case atStart => exact ⟨0, _, by omega, rfl, rfl, HO3.out, fun j hj => by omega, HB3.out⟩
  case round =>
    obtain ⟨k, xs, hk, rfl, rfl, ho, hxs, hb⟩ := hrel
    have HX := Lib.hid hxs; have HO := Lib.hid ho; have HB := Lib.hid hb
    by_cases hlt : k < n
    · have hw := window (w := wr) (b := b) (off := off) (l := sub l p t) (fun i hi => (hb.cell (p := ⟨b, off + i, none⟩) hbl).trans (HCELL.out i hi)) (4 + 4 * k) (8 + 4 * k) (c' - (4 + 4 * k)) (by omega) (by rw [HSL.out]; have := HT.out; omega) (by have := HT.out; omega)
      rw [sub_sub l p t (4 + 4 * k) (8 + 4 * k) 4 (by omega) (by have := HT.out; omega), show p + (4 + 4 * k) = p + 4 + 4 * k by omega] at hw
      have hsl := sub_len l (p + 4 + 4 * k) 4 (by have := HN.out; omega)
      have hN := num_lt 4 (sub l (p + 4 + 4 * k) 4) hsl
      have G := get_any (sub l (p + 4 + 4 * k) 4) _ wr hw (by omega)
      obtain ⟨N, hN2⟩ : ∃ N, num (sub l (p + 4 + 4 * k) 4) = N := ⟨_, rfl⟩
      rw [hN2] at hN G
      have HN2 := Lib.hid hN2; have HGG := Lib.hid G
      have hN3 : N < 4294967296 := by omega
      have wN : IntKind.i64.wrap (N : Int) = N := by rw [IntKind.wrap_i64]; omega
      have hlen : xs.length = n := by have := ho.1; omega
      have c0 := ho.cellAt k (by omega)
      obtain ⟨x0, hx0⟩ : ∃ x0, xs[k]? = some x0 := ⟨_, List.getElem?_eq_getElem (by omega)⟩
      rw [hx0] at c0
      have f0 := ho.frozenAt k
      have hst := (ho.stored k (.int .i64 (N : Nat))).1
      have hsb := hb.setCell (p := ⟨w2.heap.size, k, none⟩) (Nat.le_refl _) (.int .i64 (N : Nat))
      have HST := Lib.hid hst; have HSB := Lib.hid hsb; have HLEN := Lib.hid hlen; have HLT := Lib.hid hlt
      have i2 : (0 : Int) ≤ k := by omega
      have i3 : (k : Int) < n := by omega
      have i5 : (8 : Int) + 4 * k ≤ c' := by have := HT.out; omega
      have i6 : k ≤ 1000000000 := by omega
      clear hx0 hw hsl hN hN2 G hlen hst hsb hlt ho hxs hb
      go_wp2_with fail
      refine HGG.out.mono ?_; rintro e w4 ⟨rfl, hw4⟩; obtain rfl := hw4.symm
      go_wp2_with fail
      go_roundg (n - (k + 1))
      case rel =>
        refine ⟨k + 1, _, HLT.out, rfl, by go_num, HST.out, fun j hj => ?_, HSB.out⟩
        have h1 := HLT.out; have h2 := HLEN.out
        rcases (by omega : j < k ∨ j = k) with h3 | rfl
        · rw [List.getElem?_set_ne (by omega)]; exact HX.out j h3
        · rw [List.getElem?_set_self (by omega), HN2.out]
      case measure => have := HLT.out; omega
    · obtain rfl : k = n := by omega
      have t7 : decide (k < k) = false := by simp
      clear ho hxs hb hlt
      go_wp2
      go_ret
      have hB := HB.out
      have hG : w2.grownBy wr (some g) := grown_below hB
      refine ⟨w2.heap.size, rfl, Nat.le_trans HG1.out.size HG2.out.size, ?_, ?_, grown_trans HG1.out (grown_trans HG2.out hG)⟩
      · rcases Nat.eq_zero_or_pos k with h0 | h0
        · subst h0; exact Or.inl ⟨rfl, _, _, rfl⟩
        · exact Or.inr ⟨h0, _, 0, _, rfl, fun i hi => by rw [Nat.zero_add, HO.out.cellAt i (by have := HO.out.1; omega)]; exact HX.out i hi⟩
      · have h1 := HR2.out.below hB
        rw [← HT.out, ← Nat.add_assoc] at h1
        exact h1

section
set_option maxRecDepth 100000
theorem left_nil (w : World) : Calls Tryd.prog 25 #[.pointer none] w fun e w' => e = .returned (.int .i64 0) ∧ w' = w := by
  go_enter Tryd.func25, Tryd.ntmps25
  go_wp2
  go_ret
  exact ⟨rfl, rfl⟩
theorem holds_nil (n : Int) (w : World) : Calls Tryd.prog 47 #[.pointer none, .int .i64 n] w fun e w' => e = .returned (.bool false) ∧ w' = w := by
  go_enter Tryd.func47, Tryd.ntmps47
  go_wp2
  go_ret
  exact ⟨rfl, rfl⟩
theorem take_nil (n : Int) (w : World) : Calls Tryd.prog 44 #[.pointer none, .int .i64 n] w fun e w' => e = .returned (.slice none 0 0) ∧ w' = w := by
  go_enter Tryd.func44, Tryd.ntmps44
  go_wp2_with fail
  refine (holds_nil _ _).mono ?_; rintro e w1 ⟨rfl, rfl⟩
  go_wp2_with fail
  go_ret
  exact ⟨rfl, rfl⟩
theorem ahead_nil (w : World) : Calls Tryd.prog 45 #[.pointer none] w fun e w' => e = .returned (.tuple #[.int .i64 0, .bool false]) ∧ w' = w := by
  go_enter Tryd.func45, Tryd.ntmps45
  go_wp2_with fail
  refine (holds_nil _ _).mono ?_; rintro e w1 ⟨rfl, rfl⟩
  go_wp2_with fail
  go_ret2
  exact ⟨rfl, rfl⟩
theorem rnum_nil (w : World) : Calls Tryd.prog 26 #[.pointer none] w fun e w' => e = .returned (.int .i64 0) ∧ w' = w := by
  go_enter Tryd.func26, Tryd.ntmps26
  go_wp2_with fail
  refine (take_nil _ _).mono ?_; rintro e w1 ⟨rfl, rfl⟩
  go_wp2_with fail
  refine (get_nil _).mono ?_; rintro e w2 ⟨rfl, rfl⟩
  go_wp2_with fail
  go_ret
  exact ⟨rfl, rfl⟩
theorem rlong_nil (w : World) : Calls Tryd.prog 27 #[.pointer none] w fun e w' => e = .returned (.int .i64 0) ∧ w' = w := by
  go_enter Tryd.func27, Tryd.ntmps27
  go_wp2_with fail
  refine (take_nil _ _).mono ?_; rintro e w1 ⟨rfl, rfl⟩
  go_wp2_with fail
  refine (get_nil _).mono ?_; rintro e w2 ⟨rfl, rfl⟩
  go_wp2_with fail
  go_ret
  exact ⟨rfl, rfl⟩
theorem rtext_nil (w : World) : Calls Tryd.prog 28 #[.pointer none] w fun e w' => e = .returned (.string ⟨#[]⟩) ∧ w' = w := by
  go_enter Tryd.func28, Tryd.ntmps28
  go_wp2_with fail
  refine (ahead_nil _).mono ?_; rintro e w1 ⟨rfl, rfl⟩
  go_wp2_with fail
  go_ret
  exact ⟨rfl, rfl⟩
theorem rlist_nil (m : Int) (w : World) : Calls Tryd.prog 29 #[.pointer none, .int .i64 m] w fun e w' => e = .returned (.slice none 0 0) ∧ w' = w := by
  go_enter Tryd.func29, Tryd.ntmps29
  go_wp2_with fail
  refine (ahead_nil _).mono ?_; rintro e w1 ⟨rfl, rfl⟩
  go_wp2_with fail
  go_ret
  exact ⟨rfl, rfl⟩
theorem rend_nil (w : World) : Calls Tryd.prog 24 #[.pointer none] w fun e w' => ∃ b : Nat, e = .returned (.iface 68 (.pointer (some ⟨b, 0, none⟩))) ∧ w'.cell? ⟨b, 0, none⟩ = some (.int .i64 10) ∧ Below w.heap.size w w' := by
  go_enter Tryd.func24, Tryd.ntmps24
  go_wp2_with fail
  refine (new_any _ _ _ _).mono ?_; rintro e w1 ⟨rfl, rfl⟩
  go_wp2_with fail
  go_ret
  exact ⟨_, rfl, by rw [(Whole.new w _ _).cell 0]; rfl, (Below.refl _ _).alloc (Nat.le_refl _) _⟩
theorem wnum_nil (n : Int) (w : World) : Calls Tryd.prog 20 #[.pointer none, .int .i64 n] w fun e w' => e = .returned (.tuple #[]) ∧ w' = w := by
  go_enter Tryd.func20, Tryd.ntmps20
  go_wp2
  refine bodyPost_ret (results_none rfl _ _ _) rfl ?_
  exact ⟨rfl, rfl⟩
theorem wlong_nil (n : Int) (w : World) : Calls Tryd.prog 21 #[.pointer none, .int .i64 n] w fun e w' => e = .returned (.tuple #[]) ∧ w' = w := by
  go_enter Tryd.func21, Tryd.ntmps21
  go_wp2
  refine bodyPost_ret (results_none rfl _ _ _) rfl ?_
  exact ⟨rfl, rfl⟩
theorem wtext_nil (s : ByteArray) (w : World) : Calls Tryd.prog 22 #[.pointer none, .string s] w fun e w' => e = .returned (.tuple #[]) ∧ w' = w := by
  go_enter Tryd.func22, Tryd.ntmps22
  go_wp2
  refine bodyPost_ret (results_none rfl _ _ _) rfl ?_
  exact ⟨rfl, rfl⟩
theorem wlist_nil (w : World) : Calls Tryd.prog 23 #[.pointer none, .slice none 0 0] w fun e w' => e = .returned (.tuple #[]) ∧ w' = w := by
  go_enter Tryd.func23, Tryd.ntmps23
  go_wp2_with fail
  refine (wnum_nil _ _).mono ?_; rintro e w1 ⟨rfl, rfl⟩
  go_wp2_with fail
  refine wp_loop_rounds 1 ?_
  rw [rounds_succ]
  go_wp2
  go_end0
  exact ⟨rfl, rfl⟩
theorem wbytes_nil (w : World) : Calls Tryd.prog 13 #[.pointer none] w fun e w' => e = .returned (.slice none 0 0) ∧ w' = w := by
  go_enter Tryd.func13, Tryd.ntmps13
  go_wp2
  go_ret
  exact ⟨rfl, rfl⟩
theorem werr_nil (w : World) : Calls Tryd.prog 14 #[.pointer none] w fun e w' => ∃ b : Nat, e = .returned (.iface 68 (.pointer (some ⟨b, 0, none⟩))) ∧ w'.cell? ⟨b, 0, none⟩ = some (.int .i64 10) ∧ Below w.heap.size w w' := by
  go_enter Tryd.func14, Tryd.ntmps14
  go_wp2_with fail
  refine (new_any _ _ _ _).mono ?_; rintro e w1 ⟨rfl, rfl⟩
  go_wp2_with fail
  go_ret
  exact ⟨_, rfl, by rw [(Whole.new w _ _).cell 0]; rfl, (Below.refl _ _).alloc (Nat.le_refl _) _⟩
end
end Go.Proofs.YtkpoeahnlldpgaaDoor
