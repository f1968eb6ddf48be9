/- Layer 3: the document's Put. -/
import Derived.Test.YtkpoeahnlldpgaaDoorPuts
namespace Go.Proofs.YtkpoeahnlldpgaaDoor
open Go.RowKit

set_option maxRecDepth 100000 in
theorem refFits_any (n : Int) (w : World) :
    Calls Tryd.prog 35 #[.int .i64 n] w fun e w' => e = .returned (.bool (fitsN n)) ∧ w' = w := by
  by_cases h1 : 0 ≤ n
  · have t1 : decide (0 ≤ n) = true := decide_eq_true h1
    by_cases h2 : n ≤ 4294967295
    · have t2 : decide (n ≤ 4294967295) = true := decide_eq_true h2
      have hF : Hid (fitsN n = true) := Lib.hid (decide_eq_true ⟨h1, h2⟩)
      clear h1 h2
      go_enter Tryd.func35, Tryd.ntmps35
      go_wp2
      go_ret
      exact ⟨by rw [hF.out]; rfl, rfl⟩
    · have t2 : decide (n ≤ 4294967295) = false := decide_eq_false h2
      have hF : Hid (fitsN n = false) := Lib.hid (decide_eq_false (by omega))
      clear h1 h2
      go_enter Tryd.func35, Tryd.ntmps35
      go_wp2
      go_ret
      exact ⟨by rw [hF.out]; rfl, rfl⟩
  · have t1 : decide (0 ≤ n) = false := decide_eq_false h1
    have hF : Hid (fitsN n = false) := Lib.hid (decide_eq_false (by omega))
    clear h1
    go_enter Tryd.func35, Tryd.ntmps35
    go_wp2
    go_ret
    exact ⟨by rw [hF.out]; rfl, rfl⟩
theorem refWord_int (n : Int) (m : Nat) (w : World) (hn : n = m) (hm : m < 4294967296) :
    Calls Tryd.prog 36 #[.int .i64 n] w fun e w' => ∃ v', e = .returned v' ∧ BytesV w' v' (be 4 m) ∧ Below w.heap.size w w' := by
  subst hn
  exact refWord_any m w hm

def badI : Option Nat → Int
  | none => -1
  | some p => (p : Int)
/-- The document's bytes so far, and the place of the first number that can't be. -/
def RefSt (w wr : World) (b bad : Value) (L : List UInt8) (E : Option Nat) : Prop :=
  ∃ A c, b = .slice A L.length c ∧ bad = .int .i64 (badI E) ∧ wr.ownsRow w.heap.size 5 1 (.slice A L.length c) L.length (Lib.byteCells L) ∧ Below w.heap.size w wr
theorem refSt_mk {w wr : World} {A : Option Addr} {c m' : Nat} {bad : Int} {L' : List UInt8} {E : Option Nat} {xs : List Value} (hm : L'.length = m') (hx : xs = Lib.byteCells L') (hbad : bad = badI E) (hown : wr.ownsRow w.heap.size 5 1 (.slice A m' c) m' xs) (hb : Below w.heap.size w wr) : RefSt w wr (.slice A m' c) (.int .i64 bad) L' E := by
  subst hm hx hbad
  exact ⟨A, c, rfl, rfl, hown, hb⟩
theorem be8_halves (M : Nat) : be 8 M = be 4 (M / 4294967296) ++ be 4 (M % 4294967296) := by
  have h1 : be (4 + 4) M = be 4 (M / 256 ^ 4) ++ be 4 M := be_app 4 4 M
  have h2 : be 4 (num (be 4 M)) = be 4 M := be_num 4 _ (be_len _ _)
  rw [num_be] at h2
  have e : (256 : Nat) ^ 4 = 4294967296 := by decide
  rw [e] at h1 h2
  rw [h2]
  exact h1

set_option maxRecDepth 100000 in
set_option maxHeartbeats 8000000 in
theorem refPut_any (n : Nat) (I : Nat → ItemR) (v : Value) (w : World) (h : ItemsV w v n I) (hf : FarOk I n) :
    Calls Tryd.prog 11 #[v] w fun e w' => ∃ v', e = .returned (.tuple #[v', .int .i64 (badI (itemsE I n))]) ∧ w'.ownsRow w.heap.size 5 1 v' (itemsB I n).length (Lib.byteCells (itemsB I n)) ∧ Below w.heap.size w w' := by
  obtain ⟨i0, hi, hz0, hz1, hz2⟩ := info_parts Tryd.infoU8
  obtain ⟨A, c, rfl⟩ := h.form
  have H := Lib.hid h; have HF := Lib.hid hf
  clear h hf
  go_enter Tryd.func11, Tryd.ntmps11
  go_wp2_with fail
  go_loopg [4, 5, 6] n (fun g b bad i wr => ∃ k, k ≤ n ∧ g = n - k ∧ i = .int .i64 (k : Nat) ∧ RefSt w wr b bad (itemsB I k) (itemsE I k))
  case atStart => exact ⟨0, by omega, rfl, rfl, none, 0, rfl, rfl, World.ownsRow_nil _ _ _ _, Below.refl _ _⟩
  case round =>
    obtain ⟨k, hk, rfl, rfl, A1, c1, rfl, rfl, ho, hb⟩ := hrel
    by_cases hlt : k < n
    · have hlen := itemsB_len HF.out k hk
      have hn40 := HF.out.1
      obtain ⟨f1, f2, f3, f4⟩ := HF.out.2 k hlt
      obtain ⟨b, off, rfl, d0, d1, d2, d3⟩ := H.out.pos hlt
      have hbl : b < w.heap.size := World.block_lt_of_cell? _ _ d0
      have hu := H.out.1 k hlt
      obtain ⟨A', c', hform⟩ := hu.form
      have hLL : (itemsB I k).length ≤ 9760 := by omega
      have hB1 : itemsB I (k + 1) = itemsB I k ++ itemB (I k) := rfl
      have hE1 : itemsE I (k + 1) = itemE (itemsE I k) (I k) (itemsB I k).length := rfl
      obtain ⟨L, hL⟩ : ∃ L, itemsB I k = L := ⟨_, rfl⟩
      obtain ⟨E, hE⟩ : ∃ E, itemsE I k = E := ⟨_, rfl⟩
      rw [hL] at ho hLL hB1 hE1 ⊢
      rw [hE] at hE1 ⊢
      have i1 : (k : Int) < n := by omega
      have i2 : (0 : Int) ≤ k := by omega
      have HLT := Lib.hid hlt
      have HB := Lib.hid hb
      have hBB : itemB (I k) = if (I k).K = 0 then numB (I k).N else if (I k).K = 1 then be 8 ((I k).N % 18446744073709551616).toNat else if (I k).K = 2 then be 4 (I k).S.size ++ (I k).S.data.toList else be 4 (I k).li ++ numsB (I k).Z (I k).li := rfl
      have hEE : itemE E (I k) L.length = if (I k).K = 0 then numE E (I k).N L.length else if (I k).K = 1 then E else if (I k).K = 2 then E else numsE (I k).Z E (L.length + 4) (I k).li := rfl
      rw [hBB] at hB1
      rw [hEE] at hE1
      rw [hform] at hu d3
      obtain ⟨K, hK⟩ : ∃ K, (I k).K = K := ⟨_, rfl⟩
      obtain ⟨N, hN⟩ : ∃ N, (I k).N = N := ⟨_, rfl⟩
      obtain ⟨S, hS⟩ : ∃ S, (I k).S = S := ⟨_, rfl⟩
      obtain ⟨li, hli⟩ : ∃ li, (I k).li = li := ⟨_, rfl⟩
      obtain ⟨Z, hZ⟩ : ∃ Z, (I k).Z = Z := ⟨_, rfl⟩
      rw [hK, hN, hS, hli, hZ] at hB1
      rw [hK, hN, hli, hZ] at hE1
      rw [hK] at d0 f3 f4
      rw [hN] at d1
      rw [hS] at d2 f1
      rw [hli] at d3 hu f2
      rw [hZ] at hu
      obtain ⟨m, hm⟩ : ∃ m, L.length = m := ⟨_, rfl⟩
      rw [hm] at ho hLL hE1 ⊢
      have HM := Lib.hid hm; have HO := Lib.hid ho; have HU := Lib.hid hu
      have hsz : w.heap.size ≤ wr.heap.size := hb.size
      have hcc : ∀ w', Below w.heap.size w w' → w'.cell? ⟨b, off + k * 4, none⟩ = some (.int .i64 K) ∧ w'.cell? ⟨b, off + k * 4 + 1, none⟩ = some (.int .i64 N) ∧ w'.cell? ⟨b, off + k * 4 + 2, none⟩ = some (.string S) ∧ w'.cell? ⟨b, off + k * 4 + 3, none⟩ = some (.slice A' li c') := fun w' hb' =>
        ⟨(hb'.cell (p := ⟨b, off + k * 4, none⟩) hbl).trans d0, (hb'.cell (p := ⟨b, off + k * 4 + 1, none⟩) hbl).trans d1, (hb'.cell (p := ⟨b, off + k * 4 + 2, none⟩) hbl).trans d2, (hb'.cell (p := ⟨b, off + k * 4 + 3, none⟩) hbl).trans d3⟩
      obtain ⟨c0, c1', c2, c3⟩ := hcc wr hb
      have HCC := Lib.hid hcc
      clear hBB hEE hK hN hS hli hZ hform hL hE hb hlen hlt hm ho hu d0 d1 d2 d3 hcc hbl
      rcases (by omega : K = 0 ∨ K = 1 ∨ K = 2 ∨ K = 3) with rfl | rfl | rfl | rfl
      · rw [if_pos rfl] at hB1 hE1
        by_cases hfit : fitsN N = true
        · have hN : 0 ≤ N ∧ N ≤ 4294967295 := of_decide_eq_true hfit
          unfold numB at hB1
          unfold numE at hE1
          rw [hfit, if_pos rfl] at hB1 hE1
          have HB1 := Lib.hid hB1; have HE1 := Lib.hid hE1
          have F1 := refFits_any N wr
          rw [hfit] at F1
          have HF1 := Lib.hid F1
          have W1 := Lib.hid (refWord_int N N.toNat wr (by omega) (by omega))
          clear hB1 hE1 F1 hfit hN
          go_wp2_with fail
          refine HF1.out.mono ?_; rintro e w1 ⟨rfl, hw1⟩; obtain rfl := hw1.symm
          go_wp2_with fail
          refine W1.out.mono ?_; rintro e w2 ⟨u2, rfl, hu2, hb2⟩
          have ho2 := own_below HO.out hb2 (Nat.le_refl _)
          have hB2 := HB.out.trans (hb2.mono hsz)
          have hs2 := hB2.size
          have HU2 := Lib.hid hu2; have HO2 := Lib.hid ho2; have HB2 := Lib.hid hB2
          clear hu2 hb2 ho2 hB2
          go_wp2_with (at_builtin; refine wpList_appBytes _ rfl _ _ 27 rfl w.heap.size i0 Tryd.underlying27 hi hz0 hz1 hz2 _ m _ rfl HO2.out _ (be 4 N.toNat) rfl HU2.out (by rw [be_len]; omega) hs2 ?_)
          intro A3 c3 w3 hown3 hgrow3
          have hb3 : Below w.heap.size w w3 := hgrow3.below HO2.out HB2.out (Nat.le_refl _) hs2
          rw [be_len] at hown3 ⊢
          have hs3 := hb3.size
          have HR := Lib.hid (refSt_mk (E := itemsE I (k + 1)) (L' := itemsB I (k + 1)) (by rw [HB1.out, List.length_append, be_len, HM.out]) (by rw [HB1.out, byteCells_app]) (by rw [HE1.out]) hown3 hb3)
          clear hown3 hgrow3 hb3
          go_wp2_with fail
          go_roundg (n - (k + 1))
          case rel => exact ⟨k + 1, HLT.out, rfl, by go_num, HR.out⟩
          case measure => have := HLT.out; omega
        · have hfit' : fitsN N = false := by simpa using hfit
          unfold numB at hB1
          unfold numE at hE1
          rw [hfit', if_neg (by decide)] at hB1 hE1
          have F1 := refFits_any N wr
          rw [hfit'] at F1
          have HF1 := Lib.hid F1
          have W1 := Lib.hid (refWord_int 0 0 wr rfl (by omega))
          have HB1 := Lib.hid hB1
          cases E with
          | none =>
            have HE1 : Hid (itemsE I (k + 1) = some m) := Lib.hid hE1
            have tb : decide (badI none < 0) = true := rfl
            have tb2 : badI none = -1 := rfl
            clear hB1 hE1 F1 hfit hfit'
            go_wp2_with fail
            refine HF1.out.mono ?_; rintro e w1 ⟨rfl, hw1⟩; obtain rfl := hw1.symm
            go_wp2_with fail
            refine W1.out.mono ?_; rintro e w2 ⟨u2, rfl, hu2, hb2⟩
            have ho2 := own_below HO.out hb2 (Nat.le_refl _)
            have hB2 := HB.out.trans (hb2.mono hsz)
            have hs2 := hB2.size
            have HU2 := Lib.hid hu2; have HO2 := Lib.hid ho2; have HB2 := Lib.hid hB2
            clear hu2 hb2 ho2 hB2
            go_wp2_with (at_builtin; refine wpList_appBytes _ rfl _ _ 27 rfl w.heap.size i0 Tryd.underlying27 hi hz0 hz1 hz2 _ m _ rfl HO2.out _ (be 4 0) rfl HU2.out (by rw [be_len]; omega) hs2 ?_)
            intro A3 c3 w3 hown3 hgrow3
            have hb3 : Below w.heap.size w w3 := hgrow3.below HO2.out HB2.out (Nat.le_refl _) hs2
            rw [be_len] at hown3 ⊢
            have hs3 := hb3.size
            have HR := Lib.hid (refSt_mk (bad := (m : Int)) (E := itemsE I (k + 1)) (L' := itemsB I (k + 1)) (by rw [HB1.out, List.length_append, be_len, HM.out]) (by rw [HB1.out, byteCells_app]) (by rw [HE1.out]; rfl) hown3 hb3)
            clear hown3 hgrow3 hb3
            go_wp2_with fail
            go_roundg (n - (k + 1))
            case rel => exact ⟨k + 1, HLT.out, rfl, by go_num, HR.out⟩
            case measure => have := HLT.out; omega
          | some p =>
            have HE1 : Hid (itemsE I (k + 1) = some p) := Lib.hid hE1
            have tb2 : badI (some p) = (p : Int) := rfl
            have tb : decide ((p : Int) < 0) = false := decide_eq_false (by omega)
            clear hB1 hE1 F1 hfit hfit'
            rw [tb2]
            go_wp2_with fail
            refine HF1.out.mono ?_; rintro e w1 ⟨rfl, hw1⟩; obtain rfl := hw1.symm
            go_wp2_with fail
            refine W1.out.mono ?_; rintro e w2 ⟨u2, rfl, hu2, hb2⟩
            have ho2 := own_below HO.out hb2 (Nat.le_refl _)
            have hB2 := HB.out.trans (hb2.mono hsz)
            have hs2 := hB2.size
            have HU2 := Lib.hid hu2; have HO2 := Lib.hid ho2; have HB2 := Lib.hid hB2
            clear hu2 hb2 ho2 hB2
            go_wp2_with (at_builtin; refine wpList_appBytes _ rfl _ _ 27 rfl w.heap.size i0 Tryd.underlying27 hi hz0 hz1 hz2 _ m _ rfl HO2.out _ (be 4 0) rfl HU2.out (by rw [be_len]; omega) hs2 ?_)
            intro A3 c3 w3 hown3 hgrow3
            have hb3 : Below w.heap.size w w3 := hgrow3.below HO2.out HB2.out (Nat.le_refl _) hs2
            rw [be_len] at hown3 ⊢
            have hs3 := hb3.size
            have HR := Lib.hid (refSt_mk (bad := (p : Int)) (E := itemsE I (k + 1)) (L' := itemsB I (k + 1)) (by rw [HB1.out, List.length_append, be_len, HM.out]) (by rw [HB1.out, byteCells_app]) (by rw [HE1.out]; rfl) hown3 hb3)
            clear hown3 hgrow3 hb3
            go_wp2_with fail
            go_roundg (n - (k + 1))
            case rel => exact ⟨k + 1, HLT.out, rfl, by go_num, HR.out⟩
            case measure => have := HLT.out; omega
      · rw [if_neg (by decide), if_pos rfl] at hB1 hE1
        obtain ⟨M, hM⟩ : ∃ M, (N % 18446744073709551616).toNat = M := ⟨_, rfl⟩
        have hw1 : IntKind.u64.wrap N = (M : Int) := by rw [IntKind.wrap_u64]; omega
        rw [hM, be8_halves] at hB1
        obtain ⟨q, hq⟩ : ∃ q, M / 4294967296 = q := ⟨_, rfl⟩
        obtain ⟨r, hr⟩ : ∃ r, M % 4294967296 = r := ⟨_, rfl⟩
        have hq1 : q < 4294967296 := by omega
        have hr1 : r < 4294967296 := by omega
        have hqI : (M : Int) / 4294967296 = (q : Int) := by omega
        have hrI : (M : Int) % 4294967296 = (r : Int) := by omega
        rw [hq, hr, ← List.append_assoc] at hB1
        have HB1 := Lib.hid hB1; have HE1 := Lib.hid hE1
        have W1 := Lib.hid (refWord_any q wr hq1)
        clear hB1 hE1 hM hq hr
        go_wp2_with fail
        refine W1.out.mono ?_; rintro e w2 ⟨u2, rfl, hu2, hb2⟩
        have ho2 := own_below HO.out hb2 (Nat.le_refl _)
        have hB2 := HB.out.trans (hb2.mono hsz)
        have hs2 := hB2.size
        have HU2 := Lib.hid hu2; have HO2 := Lib.hid ho2; have HB2 := Lib.hid hB2
        clear hu2 hb2 ho2 hB2
        go_wp2_with (at_builtin; refine wpList_appBytes _ rfl _ _ 27 rfl w.heap.size i0 Tryd.underlying27 hi hz0 hz1 hz2 _ m _ rfl HO2.out _ (be 4 q) rfl HU2.out (by rw [be_len]; omega) hs2 ?_)
        intro A3 c3 w3 hown3 hgrow3
        have hb3 : Below w.heap.size w w3 := hgrow3.below HO2.out HB2.out (Nat.le_refl _) hs2
        rw [be_len] at hown3 ⊢
        have hs3 := hb3.size
        have HO3 := Lib.hid hown3; have HB3 := Lib.hid hb3
        have W3 := Lib.hid (refWord_any r w3 hr1)
        clear hown3 hgrow3 hb3
        go_wp2_with fail
        refine W3.out.mono ?_; rintro e w4 ⟨u4, rfl, hu4, hb4⟩
        have ho4 := own_below HO3.out hb4 (Nat.le_refl _)
        have hB4 := HB3.out.trans (hb4.mono hs3)
        have hs4 := hB4.size
        have HU4 := Lib.hid hu4; have HO4 := Lib.hid ho4; have HB4 := Lib.hid hB4
        clear hu4 hb4 ho4 hB4
        go_wp2_with (at_builtin; refine wpList_appBytes _ rfl _ _ 27 rfl w.heap.size i0 Tryd.underlying27 hi hz0 hz1 hz2 _ (m + 4) _ rfl HO4.out _ (be 4 r) rfl HU4.out (by rw [be_len]; omega) hs4 ?_)
        intro A5 c5 w5 hown5 hgrow5
        have hb5 : Below w.heap.size w w5 := hgrow5.below HO4.out HB4.out (Nat.le_refl _) hs4
        rw [be_len] at hown5 ⊢
        have hs5 := hb5.size
        have HR := Lib.hid (refSt_mk (E := itemsE I (k + 1)) (L' := itemsB I (k + 1)) (by rw [HB1.out, List.length_append, List.length_append, be_len, be_len, HM.out]) (by rw [HB1.out, byteCells_app, byteCells_app, List.append_assoc]) (by rw [HE1.out]) hown5 hb5)
        clear hown5 hgrow5 hb5
        go_wp2_with fail
        go_roundg (n - (k + 1))
        case rel => exact ⟨k + 1, HLT.out, rfl, by go_num, HR.out⟩
        case measure => have := HLT.out; omega
      · rw [if_neg (by decide), if_neg (by decide), if_pos rfl] at hB1 hE1
        rw [← List.append_assoc] at hB1
        have HB1 := Lib.hid hB1; have HE1 := Lib.hid hE1
        have W1 := Lib.hid (refWord_any S.size wr (by omega))
        clear hB1 hE1
        go_wp2_with fail
        refine W1.out.mono ?_; rintro e w2 ⟨u2, rfl, hu2, hb2⟩
        have ho2 := own_below HO.out hb2 (Nat.le_refl _)
        have hB2 := HB.out.trans (hb2.mono hsz)
        have hs2 := hB2.size
        have HU2 := Lib.hid hu2; have HO2 := Lib.hid ho2; have HB2 := Lib.hid hB2
        clear hu2 hb2 ho2 hB2
        go_wp2_with (at_builtin; refine wpList_appBytes _ rfl _ _ 27 rfl w.heap.size i0 Tryd.underlying27 hi hz0 hz1 hz2 _ m _ rfl HO2.out _ (be 4 S.size) rfl HU2.out (by rw [be_len]; omega) hs2 ?_)
        intro A3 c3 w3 hown3 hgrow3
        have hb3 : Below w.heap.size w w3 := hgrow3.below HO2.out HB2.out (Nat.le_refl _) hs2
        rw [be_len] at hown3 ⊢
        have hs3 := hb3.size
        have HO3 := Lib.hid hown3; have HB3 := Lib.hid hb3
        obtain ⟨g0, g1, g2, g3⟩ := HCC.out w3 hb3
        clear hown3 hgrow3 hb3
        go_wp2_with (at_builtin; refine Lib.wpList_append_own_string _ rfl _ _ 27 9 rfl w.heap.size 5 i0 Tryd.underlying27 Tryd.underlying9 hi hz0 hz1 hz2 _ (m + 4) _ rfl HO3.out S rfl (by unfold maxLen; omega) (by omega) hs3 ?_)
        intro v5 w5 hown5 hgrow5 _
        obtain ⟨A5, c5, rfl⟩ := own_form hown5
        have hb5 : Below w.heap.size w w5 := HB3.out.grown hgrow5 hs3 (fun k hk => (HO3.out.lt k hk).1)
        have HR := Lib.hid (refSt_mk (E := itemsE I (k + 1)) (L' := itemsB I (k + 1)) (by rw [HB1.out, List.length_append, List.length_append, be_len, bsz, HM.out]) (by rw [HB1.out, byteCells_app, byteCells_app, List.append_assoc]; rfl) (by rw [HE1.out]) hown5 hb5)
        clear hown5 hgrow5 hb5
        go_wp2_with fail
        go_roundg (n - (k + 1))
        case rel => exact ⟨k + 1, HLT.out, rfl, by go_num, HR.out⟩
        case measure => have := HLT.out; omega
      · rw [if_neg (by decide), if_neg (by decide), if_neg (by decide)] at hB1 hE1
        rw [← List.append_assoc] at hB1
        have HB1 := Lib.hid hB1; have HE1 := Lib.hid hE1
        have W1 := Lib.hid (refWord_any li wr (by omega))
        clear hB1 hE1
        go_wp2_with fail
        refine W1.out.mono ?_; rintro e w2 ⟨u2, rfl, hu2, hb2⟩
        have ho2 := own_below HO.out hb2 (Nat.le_refl _)
        have hB2 := HB.out.trans (hb2.mono hsz)
        have hs2 := hB2.size
        have HU2 := Lib.hid hu2; have HO2 := Lib.hid ho2; have HB2 := Lib.hid hB2
        clear hu2 hb2 ho2 hB2
        go_wp2_with (at_builtin; refine wpList_appBytes _ rfl _ _ 27 rfl w.heap.size i0 Tryd.underlying27 hi hz0 hz1 hz2 _ m _ rfl HO2.out _ (be 4 li) rfl HU2.out (by rw [be_len]; omega) hs2 ?_)
        intro A3 c3 w3 hown3 hgrow3
        have hb3 : Below w.heap.size w w3 := hgrow3.below HO2.out HB2.out (Nat.le_refl _) hs2
        rw [be_len] at hown3 ⊢
        have hs3 := hb3.size
        have HR0 : Hid (RefSt w w3 (.slice A3 (m + 4) c3) (.int .i64 (badI E)) (L ++ be 4 li ++ numsB Z 0) (numsE Z E (m + 4) 0)) := Lib.hid (refSt_mk (by simp only [List.length_append, be_len, numsB_len, HM.out]) (by simp only [numsB, List.append_nil, byteCells_app]) rfl hown3 hb3)
        clear hown3 hgrow3 hb3
        obtain ⟨wo, rfl⟩ : ∃ wo : World, wo = wr := ⟨_, rfl⟩
        go_wp2_with fail
        go_loopg [4, 5, 9] li (fun g b bad y wr => ∃ j, j ≤ li ∧ g = li - j ∧ y = .int .i64 (j : Nat) ∧ RefSt w wr b bad (L ++ be 4 li ++ numsB Z j) (numsE Z E (m + 4) j))
        case atStart => exact ⟨0, by omega, rfl, rfl, HR0.out⟩
        case round =>
          obtain ⟨j, hj, rfl, rfl, A4, c4, rfl, rfl, ho4, hb4⟩ := hrel
          have hlenj : (L ++ be 4 li ++ numsB Z j).length = m + 4 + 4 * j := by simp only [List.length_append, be_len, numsB_len, HM.out]
          obtain ⟨LJ, hLJ⟩ : ∃ LJ, L ++ be 4 li ++ numsB Z j = LJ := ⟨_, rfl⟩
          obtain ⟨EJ, hEJ⟩ : ∃ EJ, numsE Z E (m + 4) j = EJ := ⟨_, rfl⟩
          rw [hLJ] at hlenj ho4 ⊢
          rw [hEJ]
          obtain ⟨mj, hmj⟩ : ∃ mj, LJ.length = mj := ⟨_, rfl⟩
          rw [hmj] at hlenj ho4 ⊢
          have HLJ := Lib.hid hLJ; have HEJ := Lib.hid hEJ; have HMJ := Lib.hid hmj; have HO4 := Lib.hid ho4; have HB4 := Lib.hid hb4; have HLEN := Lib.hid hlenj
          have hs4 := hb4.size
          obtain ⟨g0, g1, g2, g3⟩ := HCC.out _ hb4
          have hmb : mj ≤ 12000 := by omega
          by_cases hjl : j < li
          · obtain ⟨b5, o5, rfl, hcell⟩ := (HU.out.below hb4 (Nat.le_refl _)).pos hjl
            have g4 := hcell j hjl
            obtain ⟨N', hN'⟩ : ∃ N', Z j = N' := ⟨_, rfl⟩
            rw [hN'] at g4
            have hB2 : Hid (L ++ be 4 li ++ numsB Z (j + 1) = LJ ++ be 4 (if fitsN N' then N'.toNat else 0)) := Lib.hid (by rw [← HLJ.out, ← hN']; simp only [numsB, numB, List.append_assoc])
            have hE2 : Hid (numsE Z E (m + 4) (j + 1) = if fitsN N' then EJ else orE EJ mj) := Lib.hid (by rw [← HEJ.out, ← hN', HLEN.out]; rfl)
            have HJ := Lib.hid hjl
            have i3 : (j : Int) < li := by omega
            have i4 : (0 : Int) ≤ j := by omega
            have t7 : decide (j < li) = true := decide_eq_true hjl
            clear hLJ hEJ hmj hlenj ho4 hb4 hcell hN' hjl
            by_cases hfit : fitsN N' = true
            · have hN : 0 ≤ N' ∧ N' ≤ 4294967295 := of_decide_eq_true hfit
              rw [hfit, if_pos rfl] at hB2 hE2
              have F1 := refFits_any N' wr
              rw [hfit] at F1
              have HF1 := Lib.hid F1
              have W1 := Lib.hid (refWord_int N' N'.toNat wr (by omega) (by omega))
              clear F1 hfit hN
              go_wp2_with fail
              refine HF1.out.mono ?_; rintro e w1 ⟨rfl, hw1⟩; obtain rfl := hw1.symm
              go_wp2_with fail
              refine W1.out.mono ?_; rintro e w2 ⟨u2, rfl, hu2, hb2⟩
              have ho2 := own_below HO4.out hb2 (Nat.le_refl _)
              have hB2 := HB4.out.trans (hb2.mono hs4)
              have hs2 := hB2.size
              have HU2 := Lib.hid hu2; have HO2 := Lib.hid ho2; have HB2 := Lib.hid hB2
              clear hu2 hb2 ho2 hB2
              go_wp2_with (at_builtin; refine wpList_appBytes _ rfl _ _ 27 rfl w.heap.size i0 Tryd.underlying27 hi hz0 hz1 hz2 _ mj _ rfl HO2.out _ (be 4 N'.toNat) rfl HU2.out (by rw [be_len]; omega) hs2 ?_)
              intro A3 c3 w3 hown3 hgrow3
              have hb3 : Below w.heap.size w w3 := hgrow3.below HO2.out HB2.out (Nat.le_refl _) hs2
              rw [be_len] at hown3 ⊢
              have hs3 := hb3.size
              have HR := Lib.hid (refSt_mk (E := numsE Z E (m + 4) (j + 1)) (L' := L ++ be 4 li ++ numsB Z (j + 1)) (by rw [hB2.out, List.length_append, be_len, HMJ.out]) (by rw [hB2.out, byteCells_app]) (by rw [hE2.out]) hown3 hb3)
              clear hown3 hgrow3 hb3
              go_wp2_with fail
              go_roundg (li - (j + 1))
              case rel => exact ⟨j + 1, HJ.out, rfl, by go_num, HR.out⟩
              case measure => have := HJ.out; omega
            · have hfit' : fitsN N' = false := by simpa using hfit
              rw [hfit', if_neg (by decide)] at hB2 hE2
              have F1 := refFits_any N' wr
              rw [hfit'] at F1
              have HF1 := Lib.hid F1
              have W1 := Lib.hid (refWord_int 0 0 wr rfl (by omega))
              cases EJ with
              | none =>
                have tb : decide (badI none < 0) = true := rfl
                have tb2 : badI none = -1 := rfl
                clear F1 hfit hfit'
                go_wp2_with fail
                refine HF1.out.mono ?_; rintro e w1 ⟨rfl, hw1⟩; obtain rfl := hw1.symm
                go_wp2_with fail
                refine W1.out.mono ?_; rintro e w2 ⟨u2, rfl, hu2, hb2⟩
                have ho2 := own_below HO4.out hb2 (Nat.le_refl _)
                have hB2 := HB4.out.trans (hb2.mono hs4)
                have hs2 := hB2.size
                have HU2 := Lib.hid hu2; have HO2 := Lib.hid ho2; have HB2 := Lib.hid hB2
                clear hu2 hb2 ho2 hB2
                go_wp2_with (at_builtin; refine wpList_appBytes _ rfl _ _ 27 rfl w.heap.size i0 Tryd.underlying27 hi hz0 hz1 hz2 _ mj _ rfl HO2.out _ (be 4 0) rfl HU2.out (by rw [be_len]; omega) hs2 ?_)
                intro A3 c3 w3 hown3 hgrow3
                have hb3 : Below w.heap.size w w3 := hgrow3.below HO2.out HB2.out (Nat.le_refl _) hs2
                rw [be_len] at hown3 ⊢
                have hs3 := hb3.size
                have HR := Lib.hid (refSt_mk (bad := (mj : Int)) (E := numsE Z E (m + 4) (j + 1)) (L' := L ++ be 4 li ++ numsB Z (j + 1)) (by rw [hB2.out, List.length_append, be_len, HMJ.out]) (by rw [hB2.out, byteCells_app]) (by rw [hE2.out]; rfl) hown3 hb3)
                clear hown3 hgrow3 hb3
                go_wp2_with fail
                go_roundg (li - (j + 1))
                case rel => exact ⟨j + 1, HJ.out, rfl, by go_num, HR.out⟩
                case measure => have := HJ.out; omega
              | some p =>
                have tb2 : badI (some p) = (p : Int) := rfl
                have tb : decide ((p : Int) < 0) = false := decide_eq_false (by omega)
                clear F1 hfit hfit'
                rw [tb2]
                go_wp2_with fail
                refine HF1.out.mono ?_; rintro e w1 ⟨rfl, hw1⟩; obtain rfl := hw1.symm
                go_wp2_with fail
                refine W1.out.mono ?_; rintro e w2 ⟨u2, rfl, hu2, hb2⟩
                have ho2 := own_below HO4.out hb2 (Nat.le_refl _)
                have hB2 := HB4.out.trans (hb2.mono hs4)
                have hs2 := hB2.size
                have HU2 := Lib.hid hu2; have HO2 := Lib.hid ho2; have HB2 := Lib.hid hB2
                clear hu2 hb2 ho2 hB2
                go_wp2_with (at_builtin; refine wpList_appBytes _ rfl _ _ 27 rfl w.heap.size i0 Tryd.underlying27 hi hz0 hz1 hz2 _ mj _ rfl HO2.out _ (be 4 0) rfl HU2.out (by rw [be_len]; omega) hs2 ?_)
                intro A3 c3 w3 hown3 hgrow3
                have hb3 : Below w.heap.size w w3 := hgrow3.below HO2.out HB2.out (Nat.le_refl _) hs2
                rw [be_len] at hown3 ⊢
                have hs3 := hb3.size
                have HR := Lib.hid (refSt_mk (bad := (p : Int)) (E := numsE Z E (m + 4) (j + 1)) (L' := L ++ be 4 li ++ numsB Z (j + 1)) (by rw [hB2.out, List.length_append, be_len, HMJ.out]) (by rw [hB2.out, byteCells_app]) (by rw [hE2.out]; rfl) hown3 hb3)
                clear hown3 hgrow3 hb3
                go_wp2_with fail
                go_roundg (li - (j + 1))
                case rel => exact ⟨j + 1, HJ.out, rfl, by go_num, HR.out⟩
                case measure => have := HJ.out; omega
          · obtain rfl : j = li := by omega
            have HR : Hid (RefSt w wr (.slice A4 mj c4) (.int .i64 (badI EJ)) (itemsB I (k + 1)) (itemsE I (k + 1))) := Lib.hid (by
              rw [HB1.out, HE1.out, HLJ.out, HEJ.out]
              exact refSt_mk HMJ.out rfl rfl HO4.out HB4.out)
            have t7 : decide (j < j) = false := by simp
            clear hLJ hEJ hmj hlenj ho4 hb4 hjl
            go_wp2_with fail
            go_roundg (n - (k + 1))
            case rel => exact ⟨k + 1, HLT.out, rfl, by go_num, HR.out⟩
            case measure => have := HLT.out; omega
    · obtain rfl : k = n := by omega
      have HW := Lib.hid ho; have HB := Lib.hid hb
      clear hb hlt ho
      go_wp2_with fail
      go_ret2
      exact ⟨_, rfl, HW.out, HB.out⟩
end Go.Proofs.YtkpoeahnlldpgaaDoor
