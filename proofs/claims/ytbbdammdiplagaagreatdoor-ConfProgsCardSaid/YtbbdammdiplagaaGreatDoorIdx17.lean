/- slices.IndexFunc and slices.ContainsFunc, for each closure of the program. Written by gen_idx17.py. -/
import Derived.Test.YtbbdammdiplagaaGreatDoorPatZ
namespace Go.Proofs.YtbbdammdiplagaaGreatDoor
open Go.RowKit

/-- The first place at which something holds, or -1. -/
def idxP (n : Nat) (g : Nat → Bool) : Int := match (List.range n).find? g with | some i => (i : Int) | none => -1
theorem idxP_at {n k : Nat} {g : Nat → Bool} (hk : k < n) (h : ∀ i, i < k → g i = false) (hg : g k = true) : idxP n g = k := by
  unfold idxP
  rw [find_at hk h hg]
theorem idxP_none {n : Nat} {g : Nat → Bool} (h : ∀ i, i < n → g i = false) : idxP n g = -1 := by
  unfold idxP
  rw [find_none h]
theorem idxP_ge (n : Nat) (g : Nat → Bool) : decide (0 ≤ idxP n g) = (List.range n).any g := by
  unfold idxP
  cases h : (List.range n).find? g with
  | some i =>
    have h1 := List.find?_some h
    have h2 := List.mem_of_find?_eq_some h
    rw [List.any_eq_true.2 ⟨i, h2, h1⟩]
    simp
  | none =>
    have h1 := List.find?_eq_none.1 h
    rw [List.any_eq_false.2 h1]
    simp
theorem any_range {α : Type _} (L : List α) (d : α) (f : α → Bool) : ((List.range L.length).any fun i => f (L.getD i d)) = L.any f := by
  rw [Bool.eq_iff_iff, List.any_eq_true, List.any_eq_true]
  constructor
  · rintro ⟨i, hi, h⟩
    have hi := List.mem_range.1 hi
    exact ⟨L[i], List.getElem_mem hi, by simpa [List.getD, hi] using h⟩
  · rintro ⟨x, hx, h⟩
    obtain ⟨i, hi, rfl⟩ := List.getElem_of_mem hx
    exact ⟨i, List.mem_range.2 hi, by simpa [List.getD, hi] using h⟩

set_option maxRecDepth 100000 in
set_option maxHeartbeats 2000000 in
theorem idx_lab (O : List Int) (v : Value) (f : Int → Bool) (p : Value) (w : World) (h : SeqV w v O) (hl : O.length ≤ 1000000)
    (HF : ∀ (a : Int) (W : World), Below w.heap.size w W → Calls Tryz.prog 78 #[.int .i64 a, p] W fun e w' => e = .returned (.bool (f a)) ∧ Below w.heap.size w w') :
    Calls Tryz.prog 106 #[v, .func (.func 78) #[] #[p]] w fun e w' => e = .returned (.int .i64 (idxP O.length fun i => f (O.getD i 0))) ∧ Below w.heap.size w w' := by
  obtain ⟨A, c, rfl⟩ := IntsV.form h
  obtain ⟨n, hn⟩ : ∃ n, O.length = n := ⟨_, rfl⟩
  rw [hn] at h hl ⊢
  have HH := Lib.hid h; have HN := Lib.hid hn; have HFF := Lib.hid HF
  clear h hn HF
  go_enter Tryz.func106, Tryz.ntmps106
  go_wp2_with fail
  go_loopg [8] n (fun g y wr => ∃ k, k ≤ n ∧ g = n - k ∧ y = .int .i64 (k : Nat) ∧ (∀ i, i < k → f (O.getD i 0) = false) ∧ Below w.heap.size w wr)
  case atStart => exact ⟨0, Nat.zero_le _, rfl, rfl, fun i hi => absurd hi (Nat.not_lt_zero i), Below.refl _ _⟩
  case round =>
    obtain ⟨k, hk, rfl, rfl, hall, hB⟩ := hrel
    have HALL := Lib.hid hall
    clear hall
    by_cases hlt : k < n
    · have hkE : k < O.length := by rw [HN.out]; exact hlt
      have hpos : ∃ b off, A = some ⟨b, off, none⟩ ∧ wr.cell? ⟨b, off + k, none⟩ = some (.int .i64 (O.getD k 0)) := by
        rcases HH.out.below hB (Nat.le_refl _) with ⟨h0, _⟩ | ⟨_, b, off, c', e, hc⟩
        · have := HN.out; omega
        · injection e with e1 e2 e3
          exact ⟨b, off, e1, hc k hkE⟩
      obtain ⟨b, off, rfl, d0⟩ := hpos
      obtain ⟨x, hxx⟩ : ∃ x, O.getD k 0 = x := ⟨_, rfl⟩
      rw [hxx] at d0
      have HW := Lib.hid (HFF.out x wr hB)
      obtain ⟨z, hz⟩ : ∃ z, f x = z := ⟨_, rfl⟩
      have HZ : Hid (f (O.getD k 0) = z) := Lib.hid (by rw [hxx, hz])
      rw [hz] at HW
      have t3 : decide (k < n) = true := decide_eq_true hlt
      have i1 : (k : Int) < n := by omega
      have i2 : (0 : Int) ≤ k := by omega
      have HLT := Lib.hid hlt; have HKE := Lib.hid hkE
      clear hB hlt hxx hkE hz
      go_wp2_with fail
      refine HW.out.mono ?_; rintro e w1 ⟨rfl, hb1⟩
      have HB1 := Lib.hid hb1
      clear hb1 d0
      cases z with
      | true =>
        have HR : Hid ((idxP n fun i => f (O.getD i 0)) = (k : Int)) := Lib.hid (idxP_at HLT.out HALL.out HZ.out)
        go_wp2_with fail
        go_ret
        exact ⟨by rw [HR.out]; rfl, HB1.out⟩
      | false =>
        go_wp2_with fail
        go_roundg (n - (k + 1))
        case rel =>
          refine ⟨k + 1, HLT.out, rfl, by go_num, fun i hi => ?_, HB1.out⟩
          rcases Nat.lt_or_ge i k with h | h
          · exact HALL.out i h
          · obtain rfl : i = k := by omega
            exact HZ.out
        case measure => have := HLT.out; omega
    · obtain rfl : k = n := by omega
      have t3 : decide (k < k) = false := by simp
      have HR : Hid ((idxP k fun i => f (O.getD i 0)) = -1) := Lib.hid (idxP_none HALL.out)
      have HB := Lib.hid hB
      clear hlt hB
      go_wp2_with fail
      go_ret
      exact ⟨by rw [HR.out]; rfl, HB.out⟩
set_option maxRecDepth 100000 in
set_option maxHeartbeats 2000000 in
theorem cont_lab (O : List Int) (v : Value) (f : Int → Bool) (p : Value) (w : World) (h : SeqV w v O) (hl : O.length ≤ 1000000)
    (HF : ∀ (a : Int) (W : World), Below w.heap.size w W → Calls Tryz.prog 78 #[.int .i64 a, p] W fun e w' => e = .returned (.bool (f a)) ∧ Below w.heap.size w w') :
    Calls Tryz.prog 77 #[v, .func (.func 78) #[] #[p]] w fun e w' => e = .returned (.bool (O.any f)) ∧ Below w.heap.size w w' := by
  have HI := Lib.hid (idx_lab O v f p w h hl HF)
  obtain ⟨r, hr⟩ : ∃ r, (idxP O.length fun i => f (O.getD i 0)) = r := ⟨_, rfl⟩
  rw [hr] at HI
  have HR : Hid (decide (0 ≤ r) = O.any f) := Lib.hid (by rw [← hr, idxP_ge, any_range])
  obtain ⟨A, c, rfl⟩ := IntsV.form h
  clear h HF hr hl
  go_enter Tryz.func77, Tryz.ntmps77
  go_wp2_with fail
  refine HI.out.mono ?_; rintro e w1 ⟨rfl, hb1⟩
  have HB1 := Lib.hid hb1
  clear hb1
  go_wp2_with fail
  go_ret
  exact ⟨by rw [← HR.out]; rfl, HB1.out⟩

set_option maxRecDepth 100000 in
set_option maxHeartbeats 2000000 in
theorem idx_only (O : List Int) (v : Value) (f : Int → Bool) (p : Value) (w : World) (h : SeqV w v O) (hl : O.length ≤ 1000000)
    (HF : ∀ (a : Int) (W : World), Below w.heap.size w W → Calls Tryz.prog 85 #[.int .i64 a, p] W fun e w' => e = .returned (.bool (f a)) ∧ Below w.heap.size w w') :
    Calls Tryz.prog 106 #[v, .func (.func 85) #[] #[p]] w fun e w' => e = .returned (.int .i64 (idxP O.length fun i => f (O.getD i 0))) ∧ Below w.heap.size w w' := by
  obtain ⟨A, c, rfl⟩ := IntsV.form h
  obtain ⟨n, hn⟩ : ∃ n, O.length = n := ⟨_, rfl⟩
  rw [hn] at h hl ⊢
  have HH := Lib.hid h; have HN := Lib.hid hn; have HFF := Lib.hid HF
  clear h hn HF
  go_enter Tryz.func106, Tryz.ntmps106
  go_wp2_with fail
  go_loopg [8] n (fun g y wr => ∃ k, k ≤ n ∧ g = n - k ∧ y = .int .i64 (k : Nat) ∧ (∀ i, i < k → f (O.getD i 0) = false) ∧ Below w.heap.size w wr)
  case atStart => exact ⟨0, Nat.zero_le _, rfl, rfl, fun i hi => absurd hi (Nat.not_lt_zero i), Below.refl _ _⟩
  case round =>
    obtain ⟨k, hk, rfl, rfl, hall, hB⟩ := hrel
    have HALL := Lib.hid hall
    clear hall
    by_cases hlt : k < n
    · have hkE : k < O.length := by rw [HN.out]; exact hlt
      have hpos : ∃ b off, A = some ⟨b, off, none⟩ ∧ wr.cell? ⟨b, off + k, none⟩ = some (.int .i64 (O.getD k 0)) := by
        rcases HH.out.below hB (Nat.le_refl _) with ⟨h0, _⟩ | ⟨_, b, off, c', e, hc⟩
        · have := HN.out; omega
        · injection e with e1 e2 e3
          exact ⟨b, off, e1, hc k hkE⟩
      obtain ⟨b, off, rfl, d0⟩ := hpos
      obtain ⟨x, hxx⟩ : ∃ x, O.getD k 0 = x := ⟨_, rfl⟩
      rw [hxx] at d0
      have HW := Lib.hid (HFF.out x wr hB)
      obtain ⟨z, hz⟩ : ∃ z, f x = z := ⟨_, rfl⟩
      have HZ : Hid (f (O.getD k 0) = z) := Lib.hid (by rw [hxx, hz])
      rw [hz] at HW
      have t3 : decide (k < n) = true := decide_eq_true hlt
      have i1 : (k : Int) < n := by omega
      have i2 : (0 : Int) ≤ k := by omega
      have HLT := Lib.hid hlt; have HKE := Lib.hid hkE
      clear hB hlt hxx hkE hz
      go_wp2_with fail
      refine HW.out.mono ?_; rintro e w1 ⟨rfl, hb1⟩
      have HB1 := Lib.hid hb1
      clear hb1 d0
      cases z with
      | true =>
        have HR : Hid ((idxP n fun i => f (O.getD i 0)) = (k : Int)) := Lib.hid (idxP_at HLT.out HALL.out HZ.out)
        go_wp2_with fail
        go_ret
        exact ⟨by rw [HR.out]; rfl, HB1.out⟩
      | false =>
        go_wp2_with fail
        go_roundg (n - (k + 1))
        case rel =>
          refine ⟨k + 1, HLT.out, rfl, by go_num, fun i hi => ?_, HB1.out⟩
          rcases Nat.lt_or_ge i k with h | h
          · exact HALL.out i h
          · obtain rfl : i = k := by omega
            exact HZ.out
        case measure => have := HLT.out; omega
    · obtain rfl : k = n := by omega
      have t3 : decide (k < k) = false := by simp
      have HR : Hid ((idxP k fun i => f (O.getD i 0)) = -1) := Lib.hid (idxP_none HALL.out)
      have HB := Lib.hid hB
      clear hlt hB
      go_wp2_with fail
      go_ret
      exact ⟨by rw [HR.out]; rfl, HB.out⟩
set_option maxRecDepth 100000 in
set_option maxHeartbeats 2000000 in
theorem cont_only (O : List Int) (v : Value) (f : Int → Bool) (p : Value) (w : World) (h : SeqV w v O) (hl : O.length ≤ 1000000)
    (HF : ∀ (a : Int) (W : World), Below w.heap.size w W → Calls Tryz.prog 85 #[.int .i64 a, p] W fun e w' => e = .returned (.bool (f a)) ∧ Below w.heap.size w w') :
    Calls Tryz.prog 77 #[v, .func (.func 85) #[] #[p]] w fun e w' => e = .returned (.bool (O.any f)) ∧ Below w.heap.size w w' := by
  have HI := Lib.hid (idx_only O v f p w h hl HF)
  obtain ⟨r, hr⟩ : ∃ r, (idxP O.length fun i => f (O.getD i 0)) = r := ⟨_, rfl⟩
  rw [hr] at HI
  have HR : Hid (decide (0 ≤ r) = O.any f) := Lib.hid (by rw [← hr, idxP_ge, any_range])
  obtain ⟨A, c, rfl⟩ := IntsV.form h
  clear h HF hr hl
  go_enter Tryz.func77, Tryz.ntmps77
  go_wp2_with fail
  refine HI.out.mono ?_; rintro e w1 ⟨rfl, hb1⟩
  have HB1 := Lib.hid hb1
  clear hb1
  go_wp2_with fail
  go_ret
  exact ⟨by rw [← HR.out]; rfl, HB1.out⟩

set_option maxRecDepth 100000 in
set_option maxHeartbeats 2000000 in
theorem idx_deg (O : List (Int × Int)) (v : Value) (f : Int × Int → Bool) (p q : Value) (w : World) (h : EdgesV w v O) (hl : O.length ≤ 1000000)
    (HF : ∀ (a b : Int) (W : World), Below w.heap.size w W → Calls Tryz.prog 80 #[.agg #[.int .i64 a, .int .i64 b], p, q] W fun e w' => e = .returned (.bool (f (a, b))) ∧ Below w.heap.size w w') :
    Calls Tryz.prog 107 #[v, .func (.func 80) #[] #[p, q]] w fun e w' => e = .returned (.int .i64 (idxP O.length fun i => f (O.getD i (0, 0)))) ∧ Below w.heap.size w w' := by
  obtain ⟨A, c, rfl⟩ := h.form
  obtain ⟨n, hn⟩ : ∃ n, O.length = n := ⟨_, rfl⟩
  rw [hn] at h hl ⊢
  have HH := Lib.hid h; have HN := Lib.hid hn; have HFF := Lib.hid HF
  clear h hn HF
  go_enter Tryz.func107, Tryz.ntmps107
  go_wp2_with fail
  go_loopg [8] n (fun g y wr => ∃ k, k ≤ n ∧ g = n - k ∧ y = .int .i64 (k : Nat) ∧ (∀ i, i < k → f (O.getD i (0, 0)) = false) ∧ Below w.heap.size w wr)
  case atStart => exact ⟨0, Nat.zero_le _, rfl, rfl, fun i hi => absurd hi (Nat.not_lt_zero i), Below.refl _ _⟩
  case round =>
    obtain ⟨k, hk, rfl, rfl, hall, hB⟩ := hrel
    have HALL := Lib.hid hall
    clear hall
    by_cases hlt : k < n
    · have hkE : k < O.length := by rw [HN.out]; exact hlt
      obtain ⟨b, off, rfl, d0, d1⟩ := (HH.out.below hB (Nat.le_refl _)).pos (i := k) hkE
      obtain ⟨x, hxx⟩ : ∃ x, O.getD k (0, 0) = x := ⟨_, rfl⟩
      rw [hxx] at d0 d1
      obtain ⟨a, q⟩ := x
      simp only at d0 d1
      have HW := Lib.hid (HFF.out a q wr hB)
      obtain ⟨z, hz⟩ : ∃ z, f (a, q) = z := ⟨_, rfl⟩
      have HZ : Hid (f (O.getD k (0, 0)) = z) := Lib.hid (by rw [hxx, hz])
      rw [hz] at HW
      have t3 : decide (k < n) = true := decide_eq_true hlt
      have i1 : (k : Int) < n := by omega
      have i2 : (0 : Int) ≤ k := by omega
      have HLT := Lib.hid hlt; have HKE := Lib.hid hkE
      clear hB hlt hxx hkE hz
      go_wp2_with fail
      refine HW.out.mono ?_; rintro e w1 ⟨rfl, hb1⟩
      have HB1 := Lib.hid hb1
      clear hb1 d0 d1
      cases z with
      | true =>
        have HR : Hid ((idxP n fun i => f (O.getD i (0, 0))) = (k : Int)) := Lib.hid (idxP_at HLT.out HALL.out HZ.out)
        go_wp2_with fail
        go_ret
        exact ⟨by rw [HR.out]; rfl, HB1.out⟩
      | false =>
        go_wp2_with fail
        go_roundg (n - (k + 1))
        case rel =>
          refine ⟨k + 1, HLT.out, rfl, by go_num, fun i hi => ?_, HB1.out⟩
          rcases Nat.lt_or_ge i k with h | h
          · exact HALL.out i h
          · obtain rfl : i = k := by omega
            exact HZ.out
        case measure => have := HLT.out; omega
    · obtain rfl : k = n := by omega
      have t3 : decide (k < k) = false := by simp
      have HR : Hid ((idxP k fun i => f (O.getD i (0, 0))) = -1) := Lib.hid (idxP_none HALL.out)
      have HB := Lib.hid hB
      clear hlt hB
      go_wp2_with fail
      go_ret
      exact ⟨by rw [HR.out]; rfl, HB.out⟩
set_option maxRecDepth 100000 in
set_option maxHeartbeats 2000000 in
theorem cont_deg (O : List (Int × Int)) (v : Value) (f : Int × Int → Bool) (p q : Value) (w : World) (h : EdgesV w v O) (hl : O.length ≤ 1000000)
    (HF : ∀ (a b : Int) (W : World), Below w.heap.size w W → Calls Tryz.prog 80 #[.agg #[.int .i64 a, .int .i64 b], p, q] W fun e w' => e = .returned (.bool (f (a, b))) ∧ Below w.heap.size w w') :
    Calls Tryz.prog 79 #[v, .func (.func 80) #[] #[p, q]] w fun e w' => e = .returned (.bool (O.any f)) ∧ Below w.heap.size w w' := by
  have HI := Lib.hid (idx_deg O v f p q w h hl HF)
  obtain ⟨r, hr⟩ : ∃ r, (idxP O.length fun i => f (O.getD i (0, 0))) = r := ⟨_, rfl⟩
  rw [hr] at HI
  have HR : Hid (decide (0 ≤ r) = O.any f) := Lib.hid (by rw [← hr, idxP_ge, any_range])
  obtain ⟨A, c, rfl⟩ := h.form
  clear h HF hr hl
  go_enter Tryz.func79, Tryz.ntmps79
  go_wp2_with fail
  refine HI.out.mono ?_; rintro e w1 ⟨rfl, hb1⟩
  have HB1 := Lib.hid hb1
  clear hb1
  go_wp2_with fail
  go_ret
  exact ⟨by rw [← HR.out]; rfl, HB1.out⟩

set_option maxRecDepth 100000 in
set_option maxHeartbeats 2000000 in
theorem idx_free (O : List (Int × Int)) (v : Value) (f : Int × Int → Bool) (p : Value) (w : World) (h : EdgesV w v O) (hl : O.length ≤ 1000000)
    (HF : ∀ (a b : Int) (W : World), Below w.heap.size w W → Calls Tryz.prog 86 #[.agg #[.int .i64 a, .int .i64 b], p] W fun e w' => e = .returned (.bool (f (a, b))) ∧ Below w.heap.size w w') :
    Calls Tryz.prog 107 #[v, .func (.func 86) #[] #[p]] w fun e w' => e = .returned (.int .i64 (idxP O.length fun i => f (O.getD i (0, 0)))) ∧ Below w.heap.size w w' := by
  obtain ⟨A, c, rfl⟩ := h.form
  obtain ⟨n, hn⟩ : ∃ n, O.length = n := ⟨_, rfl⟩
  rw [hn] at h hl ⊢
  have HH := Lib.hid h; have HN := Lib.hid hn; have HFF := Lib.hid HF
  clear h hn HF
  go_enter Tryz.func107, Tryz.ntmps107
  go_wp2_with fail
  go_loopg [8] n (fun g y wr => ∃ k, k ≤ n ∧ g = n - k ∧ y = .int .i64 (k : Nat) ∧ (∀ i, i < k → f (O.getD i (0, 0)) = false) ∧ Below w.heap.size w wr)
  case atStart => exact ⟨0, Nat.zero_le _, rfl, rfl, fun i hi => absurd hi (Nat.not_lt_zero i), Below.refl _ _⟩
  case round =>
    obtain ⟨k, hk, rfl, rfl, hall, hB⟩ := hrel
    have HALL := Lib.hid hall
    clear hall
    by_cases hlt : k < n
    · have hkE : k < O.length := by rw [HN.out]; exact hlt
      obtain ⟨b, off, rfl, d0, d1⟩ := (HH.out.below hB (Nat.le_refl _)).pos (i := k) hkE
      obtain ⟨x, hxx⟩ : ∃ x, O.getD k (0, 0) = x := ⟨_, rfl⟩
      rw [hxx] at d0 d1
      obtain ⟨a, q⟩ := x
      simp only at d0 d1
      have HW := Lib.hid (HFF.out a q wr hB)
      obtain ⟨z, hz⟩ : ∃ z, f (a, q) = z := ⟨_, rfl⟩
      have HZ : Hid (f (O.getD k (0, 0)) = z) := Lib.hid (by rw [hxx, hz])
      rw [hz] at HW
      have t3 : decide (k < n) = true := decide_eq_true hlt
      have i1 : (k : Int) < n := by omega
      have i2 : (0 : Int) ≤ k := by omega
      have HLT := Lib.hid hlt; have HKE := Lib.hid hkE
      clear hB hlt hxx hkE hz
      go_wp2_with fail
      refine HW.out.mono ?_; rintro e w1 ⟨rfl, hb1⟩
      have HB1 := Lib.hid hb1
      clear hb1 d0 d1
      cases z with
      | true =>
        have HR : Hid ((idxP n fun i => f (O.getD i (0, 0))) = (k : Int)) := Lib.hid (idxP_at HLT.out HALL.out HZ.out)
        go_wp2_with fail
        go_ret
        exact ⟨by rw [HR.out]; rfl, HB1.out⟩
      | false =>
        go_wp2_with fail
        go_roundg (n - (k + 1))
        case rel =>
          refine ⟨k + 1, HLT.out, rfl, by go_num, fun i hi => ?_, HB1.out⟩
          rcases Nat.lt_or_ge i k with h | h
          · exact HALL.out i h
          · obtain rfl : i = k := by omega
            exact HZ.out
        case measure => have := HLT.out; omega
    · obtain rfl : k = n := by omega
      have t3 : decide (k < k) = false := by simp
      have HR : Hid ((idxP k fun i => f (O.getD i (0, 0))) = -1) := Lib.hid (idxP_none HALL.out)
      have HB := Lib.hid hB
      clear hlt hB
      go_wp2_with fail
      go_ret
      exact ⟨by rw [HR.out]; rfl, HB.out⟩
set_option maxRecDepth 100000 in
set_option maxHeartbeats 2000000 in
theorem cont_free (O : List (Int × Int)) (v : Value) (f : Int × Int → Bool) (p : Value) (w : World) (h : EdgesV w v O) (hl : O.length ≤ 1000000)
    (HF : ∀ (a b : Int) (W : World), Below w.heap.size w W → Calls Tryz.prog 86 #[.agg #[.int .i64 a, .int .i64 b], p] W fun e w' => e = .returned (.bool (f (a, b))) ∧ Below w.heap.size w w') :
    Calls Tryz.prog 79 #[v, .func (.func 86) #[] #[p]] w fun e w' => e = .returned (.bool (O.any f)) ∧ Below w.heap.size w w' := by
  have HI := Lib.hid (idx_free O v f p w h hl HF)
  obtain ⟨r, hr⟩ : ∃ r, (idxP O.length fun i => f (O.getD i (0, 0))) = r := ⟨_, rfl⟩
  rw [hr] at HI
  have HR : Hid (decide (0 ≤ r) = O.any f) := Lib.hid (by rw [← hr, idxP_ge, any_range])
  obtain ⟨A, c, rfl⟩ := h.form
  clear h HF hr hl
  go_enter Tryz.func79, Tryz.ntmps79
  go_wp2_with fail
  refine HI.out.mono ?_; rintro e w1 ⟨rfl, hb1⟩
  have HB1 := Lib.hid hb1
  clear hb1
  go_wp2_with fail
  go_ret
  exact ⟨by rw [← HR.out]; rfl, HB1.out⟩

set_option maxRecDepth 100000 in
set_option maxHeartbeats 2000000 in
theorem idx_first (O : List (Int × Int)) (v : Value) (f : Int × Int → Bool) (p : Value) (w : World) (h : EdgesV w v O) (hl : O.length ≤ 1000000)
    (HF : ∀ (a b : Int) (W : World), Below w.heap.size w W → (a, b) ∈ O → Calls Tryz.prog 62 #[.agg #[.int .i64 a, .int .i64 b], p] W fun e w' => e = .returned (.bool (f (a, b))) ∧ Below w.heap.size w w') :
    Calls Tryz.prog 61 #[v, .func (.func 62) #[] #[p]] w fun e w' => e = .returned (.int .i64 (idxP O.length fun i => f (O.getD i (0, 0)))) ∧ Below w.heap.size w w' := by
  obtain ⟨A, c, rfl⟩ := h.form
  obtain ⟨n, hn⟩ : ∃ n, O.length = n := ⟨_, rfl⟩
  rw [hn] at h hl ⊢
  have HH := Lib.hid h; have HN := Lib.hid hn; have HFF := Lib.hid HF
  clear h hn HF
  go_enter Tryz.func61, Tryz.ntmps61
  go_wp2_with fail
  go_loopg [8] n (fun g y wr => ∃ k, k ≤ n ∧ g = n - k ∧ y = .int .i64 (k : Nat) ∧ (∀ i, i < k → f (O.getD i (0, 0)) = false) ∧ Below w.heap.size w wr)
  case atStart => exact ⟨0, Nat.zero_le _, rfl, rfl, fun i hi => absurd hi (Nat.not_lt_zero i), Below.refl _ _⟩
  case round =>
    obtain ⟨k, hk, rfl, rfl, hall, hB⟩ := hrel
    have HALL := Lib.hid hall
    clear hall
    by_cases hlt : k < n
    · have hkE : k < O.length := by rw [HN.out]; exact hlt
      obtain ⟨b, off, rfl, d0, d1⟩ := (HH.out.below hB (Nat.le_refl _)).pos (i := k) hkE
      obtain ⟨x, hxx⟩ : ∃ x, O.getD k (0, 0) = x := ⟨_, rfl⟩
      rw [hxx] at d0 d1
      obtain ⟨a, q⟩ := x
      simp only at d0 d1
      have HW := Lib.hid (HFF.out a q wr hB (by rw [← hxx]; exact getD_memE hkE))
      obtain ⟨z, hz⟩ : ∃ z, f (a, q) = z := ⟨_, rfl⟩
      have HZ : Hid (f (O.getD k (0, 0)) = z) := Lib.hid (by rw [hxx, hz])
      rw [hz] at HW
      have t3 : decide (k < n) = true := decide_eq_true hlt
      have i1 : (k : Int) < n := by omega
      have i2 : (0 : Int) ≤ k := by omega
      have HLT := Lib.hid hlt; have HKE := Lib.hid hkE
      clear hB hlt hxx hkE hz
      go_wp2_with fail
      refine HW.out.mono ?_; rintro e w1 ⟨rfl, hb1⟩
      have HB1 := Lib.hid hb1
      clear hb1 d0 d1
      cases z with
      | true =>
        have HR : Hid ((idxP n fun i => f (O.getD i (0, 0))) = (k : Int)) := Lib.hid (idxP_at HLT.out HALL.out HZ.out)
        go_wp2_with fail
        go_ret
        exact ⟨by rw [HR.out]; rfl, HB1.out⟩
      | false =>
        go_wp2_with fail
        go_roundg (n - (k + 1))
        case rel =>
          refine ⟨k + 1, HLT.out, rfl, by go_num, fun i hi => ?_, HB1.out⟩
          rcases Nat.lt_or_ge i k with h | h
          · exact HALL.out i h
          · obtain rfl : i = k := by omega
            exact HZ.out
        case measure => have := HLT.out; omega
    · obtain rfl : k = n := by omega
      have t3 : decide (k < k) = false := by simp
      have HR : Hid ((idxP k fun i => f (O.getD i (0, 0))) = -1) := Lib.hid (idxP_none HALL.out)
      have HB := Lib.hid hB
      clear hlt hB
      go_wp2_with fail
      go_ret
      exact ⟨by rw [HR.out]; rfl, HB.out⟩

end Go.Proofs.YtbbdammdiplagaaGreatDoor
