/- WireBack: the law. -/
import Derived.Test.YtkpoeahnlldpgaaDoorLTake
import Derived.Test.YtkpoeahnlldpgaaDoorSameInts
import Derived.Test.YtkpoeahnlldpgaaDoorItemsView
namespace Go.Proofs.YtkpoeahnlldpgaaDoor
open Go.RowKit

theorem sameI_refl (Z : Nat → Int) (n : Nat) : sameI Z n Z n = true := by
  simp [sameI, eqUpto_iff]

set_option maxRecDepth 100000 in
set_option maxHeartbeats 4000000 in
theorem same_true (K N : Int) (S : ByteArray) (n : Nat) (Z Y : Nat → Int) (u u' : Value) (w : World) (h : IntsV w u n Z) (k : IntsV w u' n Y) (hZ : ∀ i, i < n → Z i = Y i) (hl : n ≤ 1000000000) :
    Calls Tryd.prog 19 #[.agg #[.int .i64 K, .int .i64 N, .string S, u], .agg #[.int .i64 K, .int .i64 N, .string S, u']] w fun e w' => e = .returned (.bool true) ∧ Below w.heap.size w w' := by
  obtain ⟨A, c, rfl⟩ := h.form
  obtain ⟨B, c', rfl⟩ := k.form
  have hb : Below w.heap.size w ((w.alloc (.cells #[.int .i64 K, .int .i64 N, .string S, .slice A n c] 40)).alloc (.cells #[.int .i64 K, .int .i64 N, .string S, .slice B n c'] 40)) := ((Below.refl _ _).alloc (Nat.le_refl _) _).alloc (by simp) _
  have S1 := sameInts_any n n Z Y _ _ _ (h.below hb (Nat.le_refl _)) (k.below hb (Nat.le_refl _)) hl
  have hs : sameI Z n Y n = true := by simp [sameI, eqUpto_iff]; exact hZ
  rw [hs] at S1
  have HS := Lib.hid S1; have HB := Lib.hid hb
  clear h k hb S1 hs hZ
  go_enter Tryd.func19, Tryd.ntmps19
  go_wp2_with fail
  refine HS.out.mono ?_; rintro e w1 ⟨rfl, d, rfl⟩
  go_wp2_with fail
  go_ret
  exact ⟨rfl, below_drewN' HB.out d⟩

theorem numE_none {E : Option Nat} {n : Int} {a : Nat} (h : numE E n a = none) : E = none ∧ fitsN n = true := by
  unfold numE at h
  cases hf : fitsN n with
  | true => rw [hf] at h; exact ⟨h, rfl⟩
  | false =>
    rw [hf] at h
    cases E <;> simp [orE] at h
theorem numsE_none {Z : Nat → Int} {E : Option Nat} {a : Nat} : ∀ {n : Nat}, numsE Z E a n = none → E = none ∧ ∀ i, i < n → fitsN (Z i) = true
  | 0, h => ⟨h, fun i hi => by omega⟩
  | n + 1, h => by
    obtain ⟨h1, h2⟩ := numE_none (show numE (numsE Z E a n) (Z n) (a + 4 * n) = none from h)
    obtain ⟨h3, h4⟩ := numsE_none h1
    refine ⟨h3, fun i hi => ?_⟩
    rcases (by omega : i < n ∨ i = n) with h5 | rfl
    · exact h4 i h5
    · exact h2
/-- Can an item be put? -/
def Puts1 (x : ItemR) : Prop := (x.K = 0 → fitsN x.N = true) ∧ (x.K = 3 → ∀ i, i < x.li → fitsN (x.Z i) = true)
theorem itemE_none {E : Option Nat} {x : ItemR} {a : Nat} (h : itemE E x a = none) : E = none ∧ Puts1 x := by
  unfold itemE at h
  by_cases h0 : x.K = 0
  · rw [if_pos h0] at h
    obtain ⟨h1, h2⟩ := numE_none h
    exact ⟨h1, fun _ => h2, fun h3 => by omega⟩
  · rw [if_neg h0] at h
    by_cases h1 : x.K = 1
    · rw [if_pos h1] at h; exact ⟨h, fun h2 => by omega, fun h3 => by omega⟩
    · rw [if_neg h1] at h
      by_cases h2 : x.K = 2
      · rw [if_pos h2] at h; exact ⟨h, fun h3 => by omega, fun h3 => by omega⟩
      · rw [if_neg h2] at h
        obtain ⟨h3, h4⟩ := numsE_none h
        exact ⟨h3, fun h5 => by omega, fun _ => h4⟩
theorem itemsE_none {I : Nat → ItemR} : ∀ k, itemsE I k = none → ∀ i, i < k → Puts1 (I i)
  | 0, _, i, hi => by omega
  | k + 1, h, i, hi => by
    obtain ⟨h1, h2⟩ := itemE_none (show itemE (itemsE I k) (I k) (itemsB I k).length = none from h)
    rcases (by omega : i < k ∨ i = k) with h3 | rfl
    · exact itemsE_none k h1 i h3
    · exact h2
theorem itemsB_split (I : Nat → ItemR) (k : Nat) : ∀ n, k < n → ∃ r, itemsB I n = itemsB I k ++ itemB (I k) ++ r
  | 0, h => by omega
  | n + 1, h => by
    rcases (by omega : k < n ∨ k = n) with h1 | rfl
    · obtain ⟨r, hr⟩ := itemsB_split I k n h1
      exact ⟨r ++ itemB (I n), by rw [itemsB, hr, List.append_assoc]⟩
    · exact ⟨[], by rw [List.append_nil]; rfl⟩
theorem sub_part (I : Nat → ItemR) (k n a m : Nat) (hk : k < n) (ha : a + m ≤ (itemB (I k)).length) : sub (itemsB I n) ((itemsB I k).length + a) m = sub (itemB (I k)) a m := by
  obtain ⟨r, hr⟩ := itemsB_split I k n hk
  have h1 : sub (itemsB I n) (itemsB I k).length (itemB (I k)).length = itemB (I k) := by
    rw [hr]
    unfold sub
    rw [List.take_append_of_le_length (by simp), ← List.length_append, List.take_length, List.drop_left]
  have h2 := sub_sub (itemsB I n) (itemsB I k).length (itemB (I k)).length a (a + m) m rfl ha
  rw [h1] at h2
  exact h2.symm
theorem itemsB_le (I : Nat → ItemR) (k n : Nat) (hk : k < n) : (itemsB I k).length + (itemB (I k)).length ≤ (itemsB I n).length := by
  obtain ⟨r, hr⟩ := itemsB_split I k n hk
  rw [hr]
  simp only [List.length_append]
  omega
theorem sub_pre (a b : List UInt8) (n : Nat) (h : a.length = n) : sub (a ++ b) 0 n = a := by
  subst h
  simp [sub]
theorem sub_post (a b : List UInt8) (p n : Nat) (h : a.length = p) (hn : b.length = n) : sub (a ++ b) p n = b := by
  subst h hn
  unfold sub
  rw [← List.length_append, List.take_length, List.drop_left]
theorem sub_all (a : List UInt8) (n : Nat) (h : a.length = n) : sub a 0 n = a := by
  subst h
  simp [sub]
theorem numsB_sub (Z : Nat → Int) (i : Nat) : ∀ n, i < n → sub (numsB Z n) (4 * i) 4 = numB (Z i)
  | 0, h => by omega
  | n + 1, h => by
    rcases (by omega : i < n ∨ i = n) with h1 | rfl
    · have h2 := numsB_sub Z i n h1
      have h3 := numsB_len Z n
      rw [numsB]
      unfold sub at h2 ⊢
      rw [List.take_append_of_le_length (by omega)]
      exact h2
    · rw [numsB]
      exact sub_post _ _ _ _ (numsB_len Z i) (numB_len _)
theorem num_numB {n : Int} (h : fitsN n = true) : ((num (numB n) : Nat) : Int) = n := by
  have h1 : 0 ≤ n ∧ n ≤ 4294967295 := of_decide_eq_true h
  unfold numB
  rw [h, if_pos rfl, num_be]
  omega
theorem num_be4 (n : Nat) (h : n < 4294967296) : num (be 4 n) = n := by
  rw [num_be]
  omega
theorem wrap_long (n : Int) (h : -9223372036854775808 ≤ n ∧ n ≤ 9223372036854775807) : IntKind.i64.wrap ((num (be 8 (n % 18446744073709551616).toNat) : Nat) : Int) = n := by
  rw [num_be, IntKind.wrap_i64]
  omega

theorem grown_below' {w w' : World} {g B : Nat} (h : w.grownBy w' (some g)) (hB : B ≤ w.heap.size) (hg : B ≤ g) : Below B w w' := ⟨h.os, h.tape, h.output, h.size, fun i hi => h.block i (by omega) (fun e => by injection e with e; omega)⟩

set_option maxRecDepth 100000 in
set_option maxHeartbeats 8000000 in
theorem back_law (n : Nat) (I : Nat → ItemR) (v : Value) (w : World) (hg : ErrT w) (h : ItemsV w v n I) (hok : ∀ i, ItemOk (I i)) :
    Calls Tryd.prog 4 #[v] w fun e w' => e = .returned (.bool true) ∧ Below w.heap.size w w' := by
  obtain ⟨A, c, rfl⟩ := h.form
  have H := Lib.hid h; have HG := Lib.hid hg; have HIO := Lib.hid hok
  have AL := Lib.hid (alive_ok w hg)
  clear h hg hok
  by_cases hfar : farN I n = true
  · go_enter Tryd.func4, Tryd.ntmps4
    go_wp2_with fail
    refine AL.out.mono ?_; rintro e w1 ⟨rfl, hb1⟩
    have F1 := far_any n I _ w1 (H.out.below hb1 (Nat.le_refl _))
    rw [hfar] at F1
    have HF1 := Lib.hid F1; have HB1 := Lib.hid hb1
    clear F1 hb1 hfar
    go_wp2_with fail
    refine HF1.out.mono ?_; rintro e w2 ⟨rfl, hw2⟩; obtain rfl := hw2.symm
    go_wp2_with fail
    go_ret
    exact ⟨rfl, HB1.out⟩
  · have hfar' : farN I n = false := by simpa using hfar
    have hok : FarOk I n := farN_no hfar'
    have HOK := Lib.hid hok
    have hlen := itemsB_len hok n (Nat.le_refl _)
    have h40 := hok.1
    obtain ⟨L, hL⟩ : ∃ L, itemsB I n = L := ⟨_, rfl⟩
    rw [hL] at hlen
    have hLL : L.length ≤ 9760 := by omega
    obtain ⟨E, hE⟩ : ∃ E, itemsE I n = E := ⟨_, rfl⟩
    have HL := Lib.hid hL; have HE := Lib.hid hE
    have HFAR := Lib.hid hfar'
    clear hfar hfar' hok hlen h40 hL hE
    go_enter Tryd.func4, Tryd.ntmps4
    go_wp2_with fail
    refine AL.out.mono ?_; rintro e w1 ⟨rfl, hb1⟩
    have hI1 := H.out.below hb1 (Nat.le_refl _)
    have F1 := far_any n I _ w1 hI1
    rw [HFAR.out] at F1
    have P1 := lput_any n I _ w1 hI1 HOK.out
    rw [HL.out, HE.out] at P1
    have HF1 := Lib.hid F1; have HB1 := Lib.hid hb1; have HP1 := Lib.hid P1
    clear F1 hb1 P1 hI1
    go_wp2_with fail
    refine HF1.out.mono ?_; rintro e w2 ⟨rfl, hw2⟩; obtain rfl := hw2.symm
    go_wp2_with fail
    refine HP1.out.mono ?_; rintro e w2 ⟨rfl, hw2, hb2⟩
    have hB2 := HB1.out.trans (hb2.mono HB1.out.size)
    have E2 := Lib.hid (werr_any _ _ _ _ w2 hw2)
    have HW2 := Lib.hid hw2; have HB2 := Lib.hid hB2
    clear hw2 hb2 hB2
    go_wp2_with fail
    refine E2.out.mono ?_; rintro e w6 ⟨v6, rfl, hv6, hw6⟩; obtain rfl := hw6.symm
    cases E with
    | some p =>
      obtain ⟨b6, s6, rfl, hF⟩ := hv6
      clear hF
      go_wp2_with fail
      go_ret
      exact ⟨rfl, HB2.out⟩
    | none =>
      obtain rfl : v6 = .nilIface := hv6
      have HP := Lib.hid (itemsE_none n HE.out)
      have Y3 := Lib.hid (wbytes_any _ _ L _ w2 HW2.out (by omega))
      go_wp2_with fail
      refine Y3.out.mono ?_; rintro e w3 ⟨v3, rfl, ho3, hb3⟩
      have R3 := Lib.hid (reader_new L _ w3 (own_bytesV ho3) (by omega))
      have hB3 := HB2.out.trans (hb3.mono HB2.out.size)
      have HB3 := Lib.hid hB3
      obtain ⟨A3, c3, rfl⟩ := own_form ho3
      clear ho3 hb3 hB3
      go_wp2_with fail
      refine R3.out.mono ?_; rintro e w4 ⟨g, rfl, hgb, hr4, hb4⟩
      have hB4 := HB3.out.trans (hb4.mono HB3.out.size)
      have hgw : w.heap.size ≤ g := Nat.le_trans HB3.out.size hgb
      have HR4 := Lib.hid (rdAt_of hr4); have HB4 := Lib.hid hB4
      clear hgb hr4 hb4 hB4
      go_wp2_with fail
      go_loopg [5] n (fun t i wr => ∃ k, k ≤ n ∧ t = n - k ∧ i = .int .i64 (k : Nat) ∧ RdAt wr g L (itemsB I k).length none ∧ Below w.heap.size w wr)
      case atStart => exact ⟨0, by omega, rfl, rfl, HR4.out, HB4.out⟩
      case round =>
        obtain ⟨k, hk, rfl, rfl, hr, hb⟩ := hrel
        by_cases hlt : k < n
        · obtain ⟨b, off, rfl, d0, d1, d2, d3⟩ := H.out.pos hlt
          have hbl : b < w.heap.size := World.block_lt_of_cell? _ _ d0
          have hu := H.out.1 k hlt
          obtain ⟨A', c', hform⟩ := hu.form
          obtain ⟨f1, f2, f3, f4⟩ := HOK.out.2 k hlt
          obtain ⟨_, hN64, _⟩ := HIO.out k
          obtain ⟨hp0, hp3⟩ := HP.out k hlt
          have hsub := fun a m => sub_part I k n a m hlt
          have hle := itemsB_le I k n hlt
          have hBB : itemB (I k) = if (I k).K = 0 then numB (I k).N else if (I k).K = 1 then be 8 ((I k).N % 18446744073709551616).toNat else if (I k).K = 2 then be 4 (I k).S.size ++ (I k).S.data.toList else be 4 (I k).li ++ numsB (I k).Z (I k).li := rfl
          have hB1 : (itemsB I (k + 1)).length = (itemsB I k).length + (itemB (I k)).length := by rw [itemsB, List.length_append]
          rw [HL.out] at hsub hle
          obtain ⟨p, hp⟩ : ∃ p, (itemsB I k).length = p := ⟨_, rfl⟩
          obtain ⟨X, hX⟩ : ∃ X, itemB (I k) = X := ⟨_, rfl⟩
          rw [hp, hX] at hsub hle hB1
          rw [hp] at hr
          rw [hX] at hBB
          rw [hform] at hu d3
          obtain ⟨K, hK⟩ : ∃ K, (I k).K = K := ⟨_, rfl⟩
          obtain ⟨N, hN⟩ : ∃ N, (I k).N = N := ⟨_, rfl⟩
          obtain ⟨S, hS⟩ : ∃ S, (I k).S = S := ⟨_, rfl⟩
          obtain ⟨li, hli⟩ : ∃ li, (I k).li = li := ⟨_, rfl⟩
          obtain ⟨Z, hZ⟩ : ∃ Z, (I k).Z = Z := ⟨_, rfl⟩
          rw [hK, hN, hS, hli, hZ] at hBB
          rw [hK, hN] at hp0
          rw [hK, hli, hZ] at hp3
          rw [hK] at d0 f3 f4
          rw [hN] at d1 hN64
          rw [hS] at d2 f1
          rw [hli] at d3 hu f2
          rw [hZ] at hu
          have hcc : ∀ w', Below w.heap.size w w' → w'.cell? ⟨b, off + k * 4, none⟩ = some (.int .i64 K) ∧ w'.cell? ⟨b, off + k * 4 + 1, none⟩ = some (.int .i64 N) ∧ w'.cell? ⟨b, off + k * 4 + 2, none⟩ = some (.string S) ∧ w'.cell? ⟨b, off + k * 4 + 3, none⟩ = some (.slice A' li c') := fun w' hb' =>
            ⟨(hb'.cell (p := ⟨b, off + k * 4, none⟩) hbl).trans d0, (hb'.cell (p := ⟨b, off + k * 4 + 1, none⟩) hbl).trans d1, (hb'.cell (p := ⟨b, off + k * 4 + 2, none⟩) hbl).trans d2, (hb'.cell (p := ⟨b, off + k * 4 + 3, none⟩) hbl).trans d3⟩
          obtain ⟨c0, c1', c2, c3'⟩ := hcc wr hb
          have i1 : (k : Int) < n := by omega
          have i2 : (0 : Int) ≤ k := by omega
          have hsz : w.heap.size ≤ wr.heap.size := hb.size
          have hn40 := HOK.out.1
          have hRN := hr.none
          have HCC := Lib.hid hcc; have HLT := Lib.hid hlt; have HB := Lib.hid hb; have HUU := Lib.hid hu; have HRR := Lib.hid hRN; have HSUB := Lib.hid hsub; have HLE := Lib.hid hle; have HN64 := Lib.hid hN64; have HP0 := Lib.hid hp0; have HP3 := Lib.hid hp3; have HB1' := Lib.hid hB1; have HX := Lib.hid hX
          clear hcc hlt hb hu hRN hsub hle hN64 hp0 hp3 hB1 d0 d1 d2 d3 hK hN hS hli hZ hform hp hX hr
          have hlo : Below wr.heap.size wr (wr.alloc (.cells #[.int .i64 K, .int .i64 N, .string S, .slice A' li c'] 40)) := (Below.refl _ _).alloc (Nat.le_refl _) _
          have HLO := Lib.hid hlo
          have hR1 := HRR.out.below hlo
          rcases (by omega : K = 0 ∨ K = 1 ∨ K = 2 ∨ K = 3) with rfl | rfl | rfl | rfl
          · rw [if_pos rfl] at hBB
            have hle := HLE.out
            have hxl : X.length = 4 := by rw [hBB, numB_len]
            have hs4 : sub L p 4 = X := by
              have h1 := HSUB.out 0 4 (by omega)
              rw [Nat.add_zero] at h1
              rw [h1]
              exact sub_all _ _ hxl
            have hnum : ((num (sub L p 4) : Nat) : Int) = N := by rw [hs4, hBB]; exact num_numB (HP0.out rfl)
            have T1 := ltake0 g p N S (.slice A' li c') L _ hR1 (by omega) (by omega)
            rw [hnum] at T1
            have HT1 := Lib.hid T1
            have HPOS : Hid ((itemsB I (k + 1)).length = p + 4) := Lib.hid (by rw [HB1'.out, hxl])
            clear hBB hxl hle T1 hR1 hlo hs4 hnum
            go_wp2_with fail
            refine HT1.out.mono ?_; rintro e w5 ⟨N', S', u', rfl, ⟨rfl, rfl, rfl⟩, hr5, hg5⟩
            have hB5 : Below w.heap.size w w5 := HB.out.trans ((HLO.out.mono hsz).trans (grown_below' hg5 (by simp; omega) hgw))
            obtain ⟨c0, c1', c2, c3'⟩ := HCC.out w5 hB5
            have hbl5 : b < w5.heap.size := World.block_lt_of_cell? _ _ c0
            skip
            have hal : Below w5.heap.size w5 ((w5.alloc (.cells #[.int .i64 0, .int .i64 N, .string ⟨#[]⟩, .slice none 0 0] 40)).alloc (.cells #[.int .i64 0, .int .i64 N, .string ⟨#[]⟩, .slice none 0 0] 40)) := ((Below.refl _ _).alloc (Nat.le_refl _) _).alloc (by simp) _
            have SM := Lib.hid (same_true 0 (N) (⟨#[]⟩) 0 (fun _ => 0) (fun _ => 0) (.slice none 0 0) (.slice none 0 0) ((w5.alloc (.cells #[.int .i64 0, .int .i64 N, .string ⟨#[]⟩, .slice none 0 0] 40)).alloc (.cells #[.int .i64 0, .int .i64 N, .string ⟨#[]⟩, .slice none 0 0] 40)) (Or.inl ⟨rfl, _, _, rfl⟩) (Or.inl ⟨rfl, _, _, rfl⟩) (fun _ _ => rfl) (by omega))
            have HR5 := Lib.hid hr5; have HB5 := Lib.hid hB5; have HAL := Lib.hid hal
            clear hr5 hg5 hB5 hal
            go_wp2_with fail
            refine SM.out.mono ?_; rintro e w6 ⟨rfl, hb6⟩
            have h56 : Below w5.heap.size w5 w6 := HAL.out.trans (hb6.mono (by simp; omega))
            have HR6 := Lib.hid (HR5.out.below h56); have HB6 := Lib.hid (HB5.out.trans (h56.mono HB5.out.size))
            clear hb6 h56
            go_wp2_with fail
            go_roundg (n - (k + 1))
            case rel => exact ⟨k + 1, HLT.out, rfl, by go_num, by rw [HPOS.out]; exact HR6.out, HB6.out⟩
            case measure => have := HLT.out; omega
          · rw [if_neg (by decide), if_pos rfl] at hBB
            have hle := HLE.out
            have hxl : X.length = 8 := by rw [hBB, be_len]
            have hs4 : sub L p 8 = X := by
              have h1 := HSUB.out 0 8 (by omega)
              rw [Nat.add_zero] at h1
              rw [h1]
              exact sub_all _ _ hxl
            have hnum : IntKind.i64.wrap ((num (sub L p 8) : Nat) : Int) = N := by rw [hs4, hBB]; exact wrap_long _ HN64.out
            have T1 := ltake1 g p N N S (.slice A' li c') L _ hnum hR1 (by omega) (by omega)
            have HT1 := Lib.hid T1
            have HPOS : Hid ((itemsB I (k + 1)).length = p + 8) := Lib.hid (by rw [HB1'.out, hxl])
            clear hBB hxl hle T1 hR1 hlo hs4 hnum
            go_wp2_with fail
            refine HT1.out.mono ?_; rintro e w5 ⟨N', S', u', rfl, ⟨rfl, rfl, rfl⟩, hr5, hg5⟩
            have hB5 : Below w.heap.size w w5 := HB.out.trans ((HLO.out.mono hsz).trans (grown_below' hg5 (by simp; omega) hgw))
            obtain ⟨c0, c1', c2, c3'⟩ := HCC.out w5 hB5
            have hbl5 : b < w5.heap.size := World.block_lt_of_cell? _ _ c0
            skip
            have hal : Below w5.heap.size w5 ((w5.alloc (.cells #[.int .i64 1, .int .i64 N, .string ⟨#[]⟩, .slice none 0 0] 40)).alloc (.cells #[.int .i64 1, .int .i64 N, .string ⟨#[]⟩, .slice none 0 0] 40)) := ((Below.refl _ _).alloc (Nat.le_refl _) _).alloc (by simp) _
            have SM := Lib.hid (same_true 1 (N) (⟨#[]⟩) 0 (fun _ => 0) (fun _ => 0) (.slice none 0 0) (.slice none 0 0) ((w5.alloc (.cells #[.int .i64 1, .int .i64 N, .string ⟨#[]⟩, .slice none 0 0] 40)).alloc (.cells #[.int .i64 1, .int .i64 N, .string ⟨#[]⟩, .slice none 0 0] 40)) (Or.inl ⟨rfl, _, _, rfl⟩) (Or.inl ⟨rfl, _, _, rfl⟩) (fun _ _ => rfl) (by omega))
            have HR5 := Lib.hid hr5; have HB5 := Lib.hid hB5; have HAL := Lib.hid hal
            clear hr5 hg5 hB5 hal
            go_wp2_with fail
            refine SM.out.mono ?_; rintro e w6 ⟨rfl, hb6⟩
            have h56 : Below w5.heap.size w5 w6 := HAL.out.trans (hb6.mono (by simp; omega))
            have HR6 := Lib.hid (HR5.out.below h56); have HB6 := Lib.hid (HB5.out.trans (h56.mono HB5.out.size))
            clear hb6 h56
            go_wp2_with fail
            go_roundg (n - (k + 1))
            case rel => exact ⟨k + 1, HLT.out, rfl, by go_num, by rw [HPOS.out]; exact HR6.out, HB6.out⟩
            case measure => have := HLT.out; omega
          · rw [if_neg (by decide), if_neg (by decide), if_pos rfl] at hBB
            have hle := HLE.out
            have hxl : X.length = 4 + S.size := by rw [hBB, List.length_append, be_len, bsz]
            have hs4 : sub L p 4 = be 4 S.size := by
              have h1 := HSUB.out 0 4 (by omega)
              rw [Nat.add_zero] at h1
              rw [h1, hBB]
              exact sub_pre _ _ _ (be_len _ _)
            have hnum : num (sub L p 4) = S.size := by rw [hs4]; exact num_be4 _ (by omega)
            have hstr : (⟨(sub L (p + 4) S.size).toArray⟩ : ByteArray) = S := by
              rw [HSUB.out 4 S.size (by omega), hBB, sub_post _ _ _ _ (be_len _ _) (bsz S)]
            have T1 := ltake2 g p S.size N S (.slice A' li c') L _ hR1 hnum (by omega) (by omega)
            rw [hstr] at T1
            have HT1 := Lib.hid T1
            have HPOS : Hid ((itemsB I (k + 1)).length = p + 4 + S.size) := Lib.hid (by rw [HB1'.out, hxl]; omega)
            clear hBB hxl hle T1 hR1 hlo hs4 hnum hstr
            go_wp2_with fail
            refine HT1.out.mono ?_; rintro e w5 ⟨N', S', u', rfl, ⟨rfl, rfl, rfl⟩, hr5, hg5⟩
            have hB5 : Below w.heap.size w w5 := HB.out.trans ((HLO.out.mono hsz).trans (grown_below' hg5 (by simp; omega) hgw))
            obtain ⟨c0, c1', c2, c3'⟩ := HCC.out w5 hB5
            have hbl5 : b < w5.heap.size := World.block_lt_of_cell? _ _ c0
            skip
            have hal : Below w5.heap.size w5 ((w5.alloc (.cells #[.int .i64 2, .int .i64 0, .string S, .slice none 0 0] 40)).alloc (.cells #[.int .i64 2, .int .i64 0, .string S, .slice none 0 0] 40)) := ((Below.refl _ _).alloc (Nat.le_refl _) _).alloc (by simp) _
            have SM := Lib.hid (same_true 2 (0) (S) 0 (fun _ => 0) (fun _ => 0) (.slice none 0 0) (.slice none 0 0) ((w5.alloc (.cells #[.int .i64 2, .int .i64 0, .string S, .slice none 0 0] 40)).alloc (.cells #[.int .i64 2, .int .i64 0, .string S, .slice none 0 0] 40)) (Or.inl ⟨rfl, _, _, rfl⟩) (Or.inl ⟨rfl, _, _, rfl⟩) (fun _ _ => rfl) (by omega))
            have HR5 := Lib.hid hr5; have HB5 := Lib.hid hB5; have HAL := Lib.hid hal
            clear hr5 hg5 hB5 hal
            go_wp2_with fail
            refine SM.out.mono ?_; rintro e w6 ⟨rfl, hb6⟩
            have h56 : Below w5.heap.size w5 w6 := HAL.out.trans (hb6.mono (by simp; omega))
            have HR6 := Lib.hid (HR5.out.below h56); have HB6 := Lib.hid (HB5.out.trans (h56.mono HB5.out.size))
            clear hb6 h56
            go_wp2_with fail
            go_roundg (n - (k + 1))
            case rel => exact ⟨k + 1, HLT.out, rfl, by go_num, by rw [HPOS.out]; exact HR6.out, HB6.out⟩
            case measure => have := HLT.out; omega
          · rw [if_neg (by decide), if_neg (by decide), if_neg (by decide)] at hBB
            have hle := HLE.out
            have hxl : X.length = 4 + 4 * li := by rw [hBB, List.length_append, be_len, numsB_len]
            have hs4 : sub L p 4 = be 4 li := by
              have h1 := HSUB.out 0 4 (by omega)
              rw [Nat.add_zero] at h1
              rw [h1, hBB]
              exact sub_pre _ _ _ (be_len _ _)
            have hnum : num (sub L p 4) = li := by rw [hs4]; exact num_be4 _ (by omega)
            have hnums : ∀ i, i < li → ((num (sub L (p + 4 + 4 * i) 4) : Nat) : Int) = Z i := by
              intro i hi
              have h1 := HSUB.out (4 + 4 * i) 4 (by omega)
              rw [Nat.add_assoc, h1, hBB]
              have h2 : sub (be 4 li ++ numsB Z li) (4 + 4 * i) 4 = sub (numsB Z li) (4 * i) 4 := by
                have h3 := sub_sub (be 4 li ++ numsB Z li) 4 (4 * li) (4 * i) (4 * i + 4) 4 rfl (by omega)
                rw [sub_post _ _ _ _ (be_len _ _) (numsB_len Z li)] at h3
                exact h3.symm
              rw [h2, numsB_sub Z i li hi]
              exact num_numB (HP3.out rfl i hi)
            have HNUMS := Lib.hid hnums
            have hR1' := HRR.out.below (show Below wr.heap.size wr (wr.alloc (.cells #[.int .i64 3, .int .i64 60, .string S, .slice A' li c'] 40)) from (Below.refl _ _).alloc (Nat.le_refl _) _)
            have T1 := ltake3 g p li 60 S (.slice A' li c') L _ hR1' hnum (by omega) (by omega) (by omega) (by omega)
            rw [show ((60 : Nat) : Int) = 60 from rfl] at T1
            have HLO := Lib.hid (show Below wr.heap.size wr (wr.alloc (.cells #[.int .i64 3, .int .i64 60, .string S, .slice A' li c'] 40)) from (Below.refl _ _).alloc (Nat.le_refl _) _)
            have HT1 := Lib.hid T1
            have HPOS : Hid ((itemsB I (k + 1)).length = p + 4 + 4 * li) := Lib.hid (by rw [HB1'.out, hxl]; omega)
            clear hBB hxl hle T1 hR1 hlo hs4 hnum hnums hR1'
            go_wp2_with fail
            refine HT1.out.mono ?_; rintro e w5 ⟨N', S', u', rfl, ⟨rfl, rfl, hu5⟩, hr5, hg5⟩
            have hB5 : Below w.heap.size w w5 := HB.out.trans ((HLO.out.mono hsz).trans (grown_below' hg5 (by simp; omega) hgw))
            obtain ⟨c0, c1', c2, c3'⟩ := HCC.out w5 hB5
            have hbl5 : b < w5.heap.size := World.block_lt_of_cell? _ _ c0
            obtain ⟨A5, c5, rfl⟩ := hu5.form
            have hal : Below w5.heap.size w5 ((w5.alloc (.cells #[.int .i64 3, .int .i64 0, .string ⟨#[]⟩, .slice A5 li c5] 40)).alloc (.cells #[.int .i64 3, .int .i64 0, .string ⟨#[]⟩, .slice A' li c'] 40)) := ((Below.refl _ _).alloc (Nat.le_refl _) _).alloc (by simp) _
            have SM := Lib.hid (same_true 3 (0) (⟨#[]⟩) li _ (Z) _ _ ((w5.alloc (.cells #[.int .i64 3, .int .i64 0, .string ⟨#[]⟩, .slice A5 li c5] 40)).alloc (.cells #[.int .i64 3, .int .i64 0, .string ⟨#[]⟩, .slice A' li c'] 40)) (hu5.below hal (Nat.le_refl _)) ((HUU.out.below hB5 (Nat.le_refl _)).below hal (Nat.le_refl _)) (HNUMS.out) (by omega))
            have HR5 := Lib.hid hr5; have HB5 := Lib.hid hB5; have HAL := Lib.hid hal
            clear hr5 hg5 hB5 hal hu5
            go_wp2_with fail
            refine SM.out.mono ?_; rintro e w6 ⟨rfl, hb6⟩
            have h56 : Below w5.heap.size w5 w6 := HAL.out.trans (hb6.mono (by simp; omega))
            have HR6 := Lib.hid (HR5.out.below h56); have HB6 := Lib.hid (HB5.out.trans (h56.mono HB5.out.size))
            clear hb6 h56
            go_wp2_with fail
            go_roundg (n - (k + 1))
            case rel => exact ⟨k + 1, HLT.out, rfl, by go_num, by rw [HPOS.out]; exact HR6.out, HB6.out⟩
            case measure => have := HLT.out; omega
        · obtain rfl : k = n := by omega
          rw [HL.out] at hr
          have N1 := Lib.hid (rend_any g L.length none L wr hr (by omega))
          have HR := Lib.hid hr; have HB := Lib.hid hb
          clear hr hb hlt
          go_wp2_with fail
          refine (wnum_nil _ _).mono ?_; rintro e x1 ⟨rfl, hx⟩; obtain rfl := hx.symm
          go_wp2_with fail
          refine (wlong_nil _ _).mono ?_; rintro e x1 ⟨rfl, hx⟩; obtain rfl := hx.symm
          go_wp2_with fail
          refine (wtext_nil _ _).mono ?_; rintro e x1 ⟨rfl, hx⟩; obtain rfl := hx.symm
          go_wp2_with fail
          refine (wlist_nil _).mono ?_; rintro e x1 ⟨rfl, hx⟩; obtain rfl := hx.symm
          go_wp2_with fail
          refine N1.out.mono ?_; rintro e x2 ⟨v2, rfl, hv2, hb2⟩
          have hE0 : endE none L.length L.length = none := by unfold endE; rw [if_neg (by omega)]
          rw [hE0] at hv2
          obtain rfl : v2 = .nilIface := hv2
          have hL2 := left_any g L.length L _ x2 (HR.out.below hb2).none (by omega)
          rw [Nat.sub_self] at hL2
          have HL2 := Lib.hid hL2
          have HB2' := Lib.hid (HB.out.trans (hb2.mono HB.out.size))
          clear hb2 hE0 hL2
          go_wp2_with fail
          refine HL2.out.mono ?_; rintro e x3 ⟨rfl, d3, hx3⟩
          have hB3 : Below w.heap.size w x3 := by rw [hx3]; exact below_drewN' HB2'.out d3
          have HB3' := Lib.hid hB3
          clear hB3 hx3
          go_wp2_with fail
          refine (rnum_nil _).mono ?_; rintro e x1 ⟨rfl, hx⟩; obtain rfl := hx.symm
          go_wp2_with fail
          refine (rlong_nil _).mono ?_; rintro e x1 ⟨rfl, hx⟩; obtain rfl := hx.symm
          go_wp2_with fail
          refine (rtext_nil _).mono ?_; rintro e x1 ⟨rfl, hx⟩; obtain rfl := hx.symm
          go_wp2_with fail
          refine (rlist_nil _ _).mono ?_; rintro e x1 ⟨rfl, hx⟩; obtain rfl := hx.symm
          go_wp2_with fail
          refine (left_nil _).mono ?_; rintro e x1 ⟨rfl, hx⟩; obtain rfl := hx.symm
          go_wp2_with fail
          refine (rend_nil _).mono ?_; rintro e x4 ⟨b4, rfl, hc4, hb4'⟩
          have hB4 := HB3'.out.trans (hb4'.mono HB3'.out.size)
          have C4 := Lib.hid (code_hit b4 10 x4 (HG.out.below hB4 (Nat.le_refl _)) hc4)
          have HB4' := Lib.hid hB4
          clear hc4 hb4' hB4
          go_wp2_with fail
          refine C4.out.mono ?_; rintro e x5 ⟨rfl, hb5⟩
          have HB5' := Lib.hid (HB4'.out.trans (hb5.mono HB4'.out.size))
          clear hb5
          go_wp2_with fail
          refine (werr_nil _).mono ?_; rintro e x6 ⟨b6, rfl, hc6, hb6⟩
          have hB6 := HB5'.out.trans (hb6.mono HB5'.out.size)
          have C6 := Lib.hid (code_hit b6 10 x6 (HG.out.below hB6 (Nat.le_refl _)) hc6)
          have HB6' := Lib.hid hB6
          clear hc6 hb6 hB6
          go_wp2_with fail
          refine C6.out.mono ?_; rintro e x7 ⟨rfl, hb7⟩
          have HB7' := Lib.hid (HB6'.out.trans (hb7.mono HB6'.out.size))
          clear hb7
          go_wp2_with fail
          refine (wbytes_nil _).mono ?_; rintro e x1 ⟨rfl, hx⟩; obtain rfl := hx.symm
          go_wp2_with fail
          go_ret
          exact ⟨rfl, HB7'.out⟩
end Go.Proofs.YtkpoeahnlldpgaaDoor
