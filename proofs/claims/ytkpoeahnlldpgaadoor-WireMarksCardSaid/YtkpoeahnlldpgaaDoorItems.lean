/- Layer 3: a slice of items; what far tells of it. -/
import Derived.Test.YtkpoeahnlldpgaaDoorTake2
import Derived.Test.YtkpoeahnlldpgaaDoorSlots
import Derived.Deep.Slices
import Derived.Deep.Fields
import Derived.ChangeSame
namespace Go.Proofs.YtkpoeahnlldpgaaDoor
open Go.RowKit Go.ChangeShapes Go.WideShapes Go.Deep

/-- An item: its kind, number, text, and list. -/
structure ItemR where
  K : Int
  N : Int
  S : ByteArray
  u : Value
  li : Nat
  Z : Nat → Int

/-- A slice of n items in a world. -/
def ItemsV (w : World) (v : Value) (n : Nat) (I : Nat → ItemR) : Prop :=
  (∀ i, i < n → IntsV w (I i).u (I i).li (I i).Z) ∧
  ((n = 0 ∧ ∃ (ao : Option Addr) (cap : Nat), v = .slice ao 0 cap) ∨ (0 < n ∧ ∃ b off cap : Nat, v = .slice (some ⟨b, off, none⟩) n cap ∧ ∀ i, i < n →
    w.cell? ⟨b, off + i * 4, none⟩ = some (.int .i64 (I i).K) ∧ w.cell? ⟨b, off + i * 4 + 1, none⟩ = some (.int .i64 (I i).N) ∧ w.cell? ⟨b, off + i * 4 + 2, none⟩ = some (.string (I i).S) ∧ w.cell? ⟨b, off + i * 4 + 3, none⟩ = some (I i).u))
theorem ItemsV.below {w w' : World} {v : Value} {n : Nat} {I : Nat → ItemR} (h : ItemsV w v n I) {B : Nat} (hb : Below B w w') (hB : w.heap.size ≤ B) : ItemsV w' v n I := by
  refine ⟨fun i hi => (h.1 i hi).below hb hB, ?_⟩
  rcases h.2 with h | ⟨h0, b, off, cap, rfl, hc⟩
  · exact Or.inl h
  · refine Or.inr ⟨h0, b, off, cap, rfl, fun i hi => ?_⟩
    have hl : b < B := Nat.lt_of_lt_of_le (World.block_lt_of_cell? _ _ (hc i hi).1) hB
    obtain ⟨c0, c1, c2, c3⟩ := hc i hi
    exact ⟨(hb.cell (p := ⟨b, off + i * 4, none⟩) hl).trans c0, (hb.cell (p := ⟨b, off + i * 4 + 1, none⟩) hl).trans c1, (hb.cell (p := ⟨b, off + i * 4 + 2, none⟩) hl).trans c2, (hb.cell (p := ⟨b, off + i * 4 + 3, none⟩) hl).trans c3⟩
theorem ItemsV.form {w : World} {v : Value} {n : Nat} {I : Nat → ItemR} (h : ItemsV w v n I) : ∃ A c, v = .slice A n c := by
  rcases h.2 with ⟨rfl, A, c, rfl⟩ | ⟨_, b, off, c, rfl, _⟩
  · exact ⟨_, _, rfl⟩
  · exact ⟨_, _, rfl⟩
theorem ItemsV.pos {w : World} {A : Option Addr} {c n : Nat} {I : Nat → ItemR} (h : ItemsV w (.slice A n c) n I) {i : Nat} (hi : i < n) : ∃ b off, A = some ⟨b, off, none⟩ ∧
    w.cell? ⟨b, off + i * 4, none⟩ = some (.int .i64 (I i).K) ∧ w.cell? ⟨b, off + i * 4 + 1, none⟩ = some (.int .i64 (I i).N) ∧ w.cell? ⟨b, off + i * 4 + 2, none⟩ = some (.string (I i).S) ∧ w.cell? ⟨b, off + i * 4 + 3, none⟩ = some (I i).u := by
  rcases h.2 with ⟨rfl, _⟩ | ⟨_, b, off, c, e, hc⟩
  · omega
  · injection e with e1 e2 e3
    exact ⟨b, off, e1, hc i hi⟩

/-- Is an item more than is looked at? -/
def far1 (x : ItemR) : Bool := decide (200 < x.S.size) || decide (60 < x.li) || decide (x.K < 0) || decide (3 < x.K)
def farB (I : Nat → ItemR) : Nat → Bool
  | 0 => false
  | k + 1 => farB I k || far1 (I k)
theorem farB_of {I : Nat → ItemR} {k : Nat} (h : far1 (I k) = true) : ∀ n, k < n → farB I n = true
  | 0, hn => by omega
  | n + 1, hn => by
    rcases Nat.lt_or_ge k n with h1 | h1
    · simp [farB, farB_of h n h1]
    · obtain rfl : k = n := by omega
      simp [farB, h]
theorem farB_no {I : Nat → ItemR} : ∀ {n : Nat}, farB I n = false → ∀ k, k < n → far1 (I k) = false
  | 0, _, k, hk => by omega
  | n + 1, h, k, hk => by
    simp [farB] at h
    rcases Nat.lt_or_ge k n with h1 | h1
    · exact farB_no h.1 k h1
    · obtain rfl : k = n := by omega
      exact h.2
theorem far1_no {x : ItemR} (h : far1 x = false) : x.S.size ≤ 200 ∧ x.li ≤ 60 ∧ 0 ≤ x.K ∧ x.K ≤ 3 := by
  simp [far1] at h
  omega
/-- Are n items more than are looked at? -/
def farN (I : Nat → ItemR) (n : Nat) : Bool := decide (40 < n) || farB I n
theorem farN_no {I : Nat → ItemR} {n : Nat} (h : farN I n = false) : n ≤ 40 ∧ ∀ k, k < n → (I k).S.size ≤ 200 ∧ (I k).li ≤ 60 ∧ 0 ≤ (I k).K ∧ (I k).K ≤ 3 := by
  simp [farN] at h
  exact ⟨h.1, fun k hk => far1_no (farB_no h.2 k hk)⟩

set_option maxRecDepth 100000 in
set_option maxHeartbeats 2000000 in
theorem far_any (n : Nat) (I : Nat → ItemR) (v : Value) (w : World) (h : ItemsV w v n I) :
    Calls Tryd.prog 9 #[v] w fun e w' => e = .returned (.bool (farN I n)) ∧ w' = w := by
  obtain ⟨A, c, rfl⟩ := h.form
  by_cases hn : 40 < n
  · have t1 : decide ((40 : Int) < n) = true := decide_eq_true (by omega)
    have hF : Hid (farN I n = true) := Lib.hid (by simp [farN, hn])
    clear h hn
    go_enter Tryd.func9, Tryd.ntmps9
    go_wp2_with fail
    go_ret
    exact ⟨by rw [hF.out]; rfl, rfl⟩
  · have t1 : decide ((40 : Int) < n) = false := decide_eq_false (by omega)
    have hF : Hid (farN I n = farB I n) := Lib.hid (by simp [farN, hn])
    have H := Lib.hid h
    have hn' : n ≤ 40 := by omega
    clear h hn
    go_enter Tryd.func9, Tryd.ntmps9
    go_wp2_with fail
    go_loopg [3] n (fun g i wr => ∃ k, k ≤ n ∧ g = n - k ∧ i = .int .i64 (k : Nat) ∧ farB I k = false ∧ wr = w)
    case atStart => exact ⟨0, by omega, rfl, rfl, rfl, rfl⟩
    case round =>
      obtain ⟨k, hk, rfl, rfl, hfar, rfl⟩ := hrel
      have HF := Lib.hid hfar
      clear hfar
      by_cases hlt : k < n
      · obtain ⟨b, off, rfl, c0, _, c2, c3⟩ := H.out.pos hlt
        obtain ⟨A', c', hu⟩ := (H.out.1 k hlt).form
        rw [hu] at c3
        obtain ⟨K, hK⟩ : ∃ K, (I k).K = K := ⟨_, rfl⟩
        obtain ⟨S, hS⟩ : ∃ S, (I k).S = S := ⟨_, rfl⟩
        obtain ⟨li, hli⟩ : ∃ li, (I k).li = li := ⟨_, rfl⟩
        have e1 : far1 (I k) = (decide (200 < S.size) || decide (60 < li) || decide (K < 0) || decide (3 < K)) := by rw [← hK, ← hS, ← hli]; rfl
        rw [hK] at c0; rw [hS] at c2; rw [hli] at c3
        have HE := Lib.hid e1
        have HLT := Lib.hid hlt
        have i1 : (k : Int) < n := by omega
        have i2 : (0 : Int) ≤ k := by omega
        clear hu hK hS hli e1 hlt
        by_cases hb : 200 < S.size ∨ 60 < li ∨ K < 0 ∨ 3 < K
        · have HR : Hid (farN I n = true) := Lib.hid (by
            rw [hF.out]
            refine farB_of ?_ n HLT.out
            rw [HE.out]
            simp; omega)
          have hcase : (decide ((200 : Int) < S.size) = true) ∨ (decide ((200 : Int) < S.size) = false ∧ decide ((60 : Int) < li) = true) ∨ (decide ((200 : Int) < S.size) = false ∧ decide ((60 : Int) < li) = false ∧ decide (K < 0) = true) ∨ (decide ((200 : Int) < S.size) = false ∧ decide ((60 : Int) < li) = false ∧ decide (K < 0) = false ∧ decide (3 < K) = true) := by
            simp only [decide_eq_true_eq, decide_eq_false_iff_not]; omega
          clear hb
          rcases hcase with t2 | ⟨t2, t3⟩ | ⟨t2, t3, t4⟩ | ⟨t2, t3, t4, t5⟩
          all_goals
            go_wp2_with fail
            go_ret
            exact ⟨by rw [HR.out]; rfl, rfl⟩
        · have t2 : decide ((200 : Int) < S.size) = false := decide_eq_false (by omega)
          have t3 : decide ((60 : Int) < li) = false := decide_eq_false (by omega)
          have t4 : decide (K < 0) = false := decide_eq_false (by omega)
          have t5 : decide (3 < K) = false := decide_eq_false (by omega)
          have HK : Hid (farB I (k + 1) = false) := Lib.hid (by
            rw [farB, HF.out, HE.out]
            simp; omega)
          clear hb
          go_wp2_with fail
          go_roundg (n - (k + 1))
          case rel => exact ⟨k + 1, HLT.out, rfl, by go_num, HK.out, rfl⟩
          case measure => have := HLT.out; omega
      · obtain rfl : k = n := by omega
        clear hlt
        go_wp2_with fail
        go_ret
        exact ⟨by rw [hF.out, HF.out]; rfl, rfl⟩
end Go.Proofs.YtkpoeahnlldpgaaDoor
