/- Layer 3: what put puts, and the document's Put. -/
import Derived.Test.YtkpoeahnlldpgaaDoorItems
namespace Go.Proofs.YtkpoeahnlldpgaaDoor
open Go.RowKit

/-- An item's bytes, and the first number that can't be. -/
def itemB (x : ItemR) : List UInt8 := if x.K = 0 then numB x.N else if x.K = 1 then be 8 (x.N % 18446744073709551616).toNat else if x.K = 2 then be 4 x.S.size ++ x.S.data.toList else be 4 x.li ++ numsB x.Z x.li
def itemE (E : Option Nat) (x : ItemR) (at_ : Nat) : Option Nat := if x.K = 0 then numE E x.N at_ else if x.K = 1 then E else if x.K = 2 then E else numsE x.Z E (at_ + 4) x.li
def itemsB (I : Nat → ItemR) : Nat → List UInt8
  | 0 => []
  | k + 1 => itemsB I k ++ itemB (I k)
def itemsE (I : Nat → ItemR) : Nat → Option Nat
  | 0 => none
  | k + 1 => itemE (itemsE I k) (I k) (itemsB I k).length
/-- Items that are looked at. -/
def FarOk (I : Nat → ItemR) (n : Nat) : Prop := n ≤ 40 ∧ ∀ k, k < n → (I k).S.size ≤ 200 ∧ (I k).li ≤ 60 ∧ 0 ≤ (I k).K ∧ (I k).K ≤ 3
theorem bsz (s : ByteArray) : s.data.toList.length = s.size := by rw [Array.length_toList]; rfl
theorem itemB_len (x : ItemR) (h : x.S.size ≤ 200 ∧ x.li ≤ 60 ∧ 0 ≤ x.K ∧ x.K ≤ 3) : (itemB x).length ≤ 244 := by
  unfold itemB
  split
  · rw [numB_len]; omega
  · split
    · rw [be_len]; omega
    · split
      · rw [List.length_append, be_len, bsz]; omega
      · rw [List.length_append, be_len, numsB_len]; omega
theorem itemsB_len {I : Nat → ItemR} {n : Nat} (h : FarOk I n) : ∀ k, k ≤ n → (itemsB I k).length ≤ 244 * k
  | 0, _ => by simp [itemsB]
  | k + 1, hk => by
    have h1 := itemsB_len h k (by omega)
    have h2 := itemB_len (I k) (h.2 k (by omega))
    simp only [itemsB, List.length_append]
    omega

set_option maxRecDepth 100000 in
set_option maxHeartbeats 4000000 in
theorem lput_any (n : Nat) (I : Nat → ItemR) (v : Value) (w : World) (h : ItemsV w v n I) (hf : FarOk I n) :
    Calls Tryd.prog 10 #[v] w fun e w' => e = .returned (.pointer (some ⟨w.heap.size, 0, none⟩)) ∧ WriterAt w' w.heap.size w.heap.size (itemsB I n) (itemsE I n) ∧ Below w.heap.size w w' := by
  obtain ⟨A, c, rfl⟩ := h.form
  have H := Lib.hid h; have HF := Lib.hid hf
  have W0 := Lib.hid (writer_new w w.heap.size (Nat.le_refl _))
  clear h hf
  go_enter Tryd.func10, Tryd.ntmps10
  go_wp2_with fail
  go_loopg [4] n (fun g i wr => ∃ k, k ≤ n ∧ g = n - k ∧ i = .int .i64 (k : Nat) ∧ WriterAt wr w.heap.size w.heap.size (itemsB I k) (itemsE I k) ∧ Below w.heap.size w wr)
  case atStart => exact ⟨0, by omega, rfl, rfl, W0.out, (Below.refl _ _).alloc (Nat.le_refl _) _⟩
  case round =>
    obtain ⟨k, hk, rfl, rfl, hw, hb⟩ := hrel
    by_cases hlt : k < n
    · have hlen := itemsB_len HF.out k hk
      have hn40 := HF.out.1
      obtain ⟨f1, f2, f3, f4⟩ := HF.out.2 k hlt
      have hV := H.out.below hb (Nat.le_refl _)
      obtain ⟨b, off, rfl, c0, c1, c2, c3⟩ := hV.pos hlt
      have hu := hV.1 k hlt
      obtain ⟨A', c', hform⟩ := hu.form
      have hLL : (itemsB I k).length ≤ 9760 := by omega
      have hB1 : itemsB I (k + 1) = itemsB I k ++ itemB (I k) := rfl
      have hE1 : itemsE I (k + 1) = itemE (itemsE I k) (I k) (itemsB I k).length := rfl
      obtain ⟨L, hL⟩ : ∃ L, itemsB I k = L := ⟨_, rfl⟩
      obtain ⟨E, hE⟩ : ∃ E, itemsE I k = E := ⟨_, rfl⟩
      rw [hL, hE] at hw
      rw [hL] at hLL hB1 hE1
      rw [hE] at hE1
      have i1 : (k : Int) < n := by omega
      have i2 : (0 : Int) ≤ k := by omega
      have HLT := Lib.hid hlt
      have HB := Lib.hid hb
      have hVV : ∀ w', Below w.heap.size wr w' → IntsV w' (I k).u (I k).li (I k).Z := fun w' hb' => (H.out.1 k hlt).below (hb.trans hb') (Nat.le_refl _)
      have hBB : itemB (I k) = if (I k).K = 0 then numB (I k).N else if (I k).K = 1 then be 8 ((I k).N % 18446744073709551616).toNat else if (I k).K = 2 then be 4 (I k).S.size ++ (I k).S.data.toList else be 4 (I k).li ++ numsB (I k).Z (I k).li := rfl
      have hEE : itemE E (I k) L.length = if (I k).K = 0 then numE E (I k).N L.length else if (I k).K = 1 then E else if (I k).K = 2 then E else numsE (I k).Z E (L.length + 4) (I k).li := rfl
      rw [hBB] at hB1
      rw [hEE] at hE1
      rw [hform] at hu c3
      obtain ⟨K, hK⟩ : ∃ K, (I k).K = K := ⟨_, rfl⟩
      obtain ⟨N, hN⟩ : ∃ N, (I k).N = N := ⟨_, rfl⟩
      obtain ⟨S, hS⟩ : ∃ S, (I k).S = S := ⟨_, rfl⟩
      obtain ⟨li, hli⟩ : ∃ li, (I k).li = li := ⟨_, rfl⟩
      obtain ⟨Z, hZ⟩ : ∃ Z, (I k).Z = Z := ⟨_, rfl⟩
      rw [hform] at hVV
      rw [hK, hN, hS, hli, hZ] at hB1
      rw [hK, hN, hli, hZ] at hE1
      rw [hK] at c0 f3 f4
      rw [hN] at c1
      rw [hS] at c2 f1
      rw [hli] at c3 hu f2 hVV
      rw [hZ] at hu hVV
      clear hBB hEE hK hN hS hli hZ hform hV hL hE hb hlen hlt
      rcases (by omega : K = 0 ∨ K = 1 ∨ K = 2 ∨ K = 3) with rfl | rfl | rfl | rfl
      · rw [if_pos rfl] at hB1 hE1
        have P1 := Lib.hid (wnum_any _ _ N L E wr hw (by omega))
        have HB1 := Lib.hid hB1; have HE1 := Lib.hid hE1
        clear hw hu hVV hB1 hE1
        go_wp2_with fail
        refine P1.out.mono ?_; rintro e w2 ⟨rfl, hw2, hb2⟩
        have HW2 := Lib.hid hw2; have HB2 := Lib.hid (HB.out.trans hb2)
        clear hw2 hb2
        go_wp2_with fail
        go_roundg (n - (k + 1))
        case rel => exact ⟨k + 1, HLT.out, rfl, by go_num, by rw [HB1.out, HE1.out]; exact HW2.out, HB2.out⟩
        case measure => have := HLT.out; omega
      · rw [if_neg (by decide), if_pos rfl] at hB1 hE1
        have P1 := Lib.hid (wlong_any _ _ N L E wr hw (by omega))
        have HB1 := Lib.hid hB1; have HE1 := Lib.hid hE1
        clear hw hu hVV hB1 hE1
        go_wp2_with fail
        refine P1.out.mono ?_; rintro e w2 ⟨rfl, hw2, hb2⟩
        have HW2 := Lib.hid hw2; have HB2 := Lib.hid (HB.out.trans hb2)
        clear hw2 hb2
        go_wp2_with fail
        go_roundg (n - (k + 1))
        case rel => exact ⟨k + 1, HLT.out, rfl, by go_num, by rw [HB1.out, HE1.out]; exact HW2.out, HB2.out⟩
        case measure => have := HLT.out; omega
      · rw [if_neg (by decide), if_neg (by decide), if_pos rfl] at hB1 hE1
        have P1 := Lib.hid (wtext_any _ _ S L E wr hw (by omega) (by omega))
        rw [← List.append_assoc] at hB1
        have HB1 := Lib.hid hB1; have HE1 := Lib.hid hE1
        clear hw hu hVV hB1 hE1
        go_wp2_with fail
        refine P1.out.mono ?_; rintro e w2 ⟨rfl, hw2, hb2⟩
        have HW2 := Lib.hid hw2; have HB2 := Lib.hid (HB.out.trans hb2)
        clear hw2 hb2
        go_wp2_with fail
        go_roundg (n - (k + 1))
        case rel => exact ⟨k + 1, HLT.out, rfl, by go_num, by rw [HB1.out, HE1.out]; exact HW2.out, HB2.out⟩
        case measure => have := HLT.out; omega
      · rw [if_neg (by decide), if_neg (by decide), if_neg (by decide)] at hB1 hE1
        have P1 := Lib.hid (wlist_any _ _ li Z _ L E wr hw hu (Or.inr hVV) (by omega) (by omega))
        rw [← List.append_assoc] at hB1
        have HB1 := Lib.hid hB1; have HE1 := Lib.hid hE1
        clear hw hu hVV hB1 hE1
        go_wp2_with fail
        refine P1.out.mono ?_; rintro e w2 ⟨rfl, hw2, hb2⟩
        have HW2 := Lib.hid hw2; have HB2 := Lib.hid (HB.out.trans hb2)
        clear hw2 hb2
        go_wp2_with fail
        go_roundg (n - (k + 1))
        case rel => exact ⟨k + 1, HLT.out, rfl, by go_num, by rw [HB1.out, HE1.out]; exact HW2.out, HB2.out⟩
        case measure => have := HLT.out; omega
    · obtain rfl : k = n := by omega
      have HW := Lib.hid hw; have HB := Lib.hid hb
      clear hw hb hlt
      go_wp2_with fail
      go_ret
      exact ⟨rfl, HW.out, HB.out⟩
end Go.Proofs.YtkpoeahnlldpgaaDoor
