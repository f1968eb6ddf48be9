/- Texts in a block of the call's own. -/
import Derived.Test.YtbbdammdiplagaaGreatDoorJoin
import Derived.Test.YtbbdammdiplagaaGreatDoorPatZ
import Derived.Test.YtbbdammdiplagaaGreatDoorPairsV
import Derived.Laws.MakeOwn
import Derived.Laws.OwnMore
import Derived.Deep.RegionHeld3
import Derived.Deep.DrawnRows
namespace Go.Proofs.YtbbdammdiplagaaGreatDoor
open Go.RowKit

theorem Tryz.infoStr : (Tryz.prog.info? 9).map (fun i => (i.zero, i.size, i.bytes)) = some (some (.string ⟨#[]⟩), 1, 16) := by kernel_rfl
/-- The first texts of a block of n. -/
def StrsTo (w : World) (g n k : Nat) (S : Nat → List UInt8) : Prop := ∃ cs, Whole w g 9 cs ∧ cs.size = n ∧ ∀ i, i < k → cs[i]? = some (.string (str (S i)))
theorem StrsTo.made (w : World) (n : Nat) (S : Nat → List UInt8) : StrsTo (w.alloc (.cells (madeCells #[.string ⟨#[]⟩] n) 9)) w.heap.size n 0 S :=
  ⟨_, Whole.new _ _ _, size_madeCells _ _, fun i h => absurd h (Nat.not_lt_zero i)⟩
theorem StrsTo.below {w w' : World} {g n k : Nat} {S : Nat → List UInt8} (h : StrsTo w g n k S) (hb : Below w.heap.size w w') : StrsTo w' g n k S := by
  obtain ⟨cs, h1, h2, h3⟩ := h
  exact ⟨cs, h1.below hb h1.lt, h2, h3⟩
theorem StrsTo.lt {w : World} {g n k : Nat} {S : Nat → List UInt8} (h : StrsTo w g n k S) : g < w.heap.size := by
  obtain ⟨cs, h1, _⟩ := h
  exact h1.lt
theorem StrsTo.put {w : World} {g n k : Nat} {S : Nat → List UInt8} (h : StrsTo w g n k S) (hk : k < n) {s : ByteArray} (hs : s = str (S k)) : StrsTo (w.setCell ⟨g, k, none⟩ (.string s)) g n (k + 1) S := by
  obtain ⟨cs, h1, h2, h3⟩ := h
  refine ⟨_, h1.put k _, by simpa using h2, fun i hi => ?_⟩
  rcases Nat.lt_or_ge i k with h | h
  · rw [Array.getElem?_setIfInBounds_ne (by omega)]
    exact h3 i h
  · obtain rfl : i = k := by omega
    rw [Array.getElem?_setIfInBounds_self_of_lt (by omega), hs]
theorem StrsTo.other {w : World} {g n k : Nat} {S : Nat → List UInt8} (h : StrsTo w g n k S) {p : Addr} (hp : g ≠ p.block) (u : Value) : StrsTo (w.setCell p u) g n k S := by
  obtain ⟨cs, h1, h2, h3⟩ := h
  exact ⟨cs, h1.other hp u, h2, h3⟩
theorem StrsTo.all {w : World} {g n : Nat} {S : Nat → List UInt8} (h : StrsTo w g n n S) : StrsL w (.slice (some ⟨g, 0, none⟩) n n) ((List.range n).map S) := by
  obtain ⟨cs, h1, h2, h3⟩ := h
  rcases Nat.eq_zero_or_pos n with h0 | h0
  · subst h0
    exact Or.inl ⟨rfl, _, _, rfl⟩
  · refine Or.inr ⟨by simpa using h0, g, 0, n, by simp, by simp, fun i hi => ?_⟩
    have hi' : i < n := by simpa using hi
    rw [Nat.zero_add, h1.cell, h3 i hi']
    simp [List.getD, hi']
theorem StrsTo.slot {w : World} {g n k : Nat} {S : Nat → List UInt8} (h : StrsTo w g n k S) {i : Nat} (hi : i < n) : (∃ u, w.cell? ⟨g, i, none⟩ = some u) ∧ w.frozen? ⟨g, i, none⟩ = false := by
  obtain ⟨cs, h1, h2, _⟩ := h
  exact ⟨⟨cs[i]'(by omega), by rw [h1.cell, Array.getElem?_eq_getElem (by omega)]⟩, h1.free i⟩
theorem make_strs (k : Nat) (V : World) (hk : k ≤ 1000000) : (Instr.makeSlice 47 (.int .i64 (k : Nat)) (.int .i64 (k : Nat))).run Tryz.prog V = .ok (.slice (some ⟨V.heap.size, 0, none⟩) k k) (V.alloc (.cells (madeCells #[.string ⟨#[]⟩] k) 9)) := by
  obtain ⟨j1, hi1, ky0, ky1, ky2⟩ := info_parts Tryz.infoStr
  have h := run_make (P := Tryz.prog) V 47 9 j1 (.string ⟨#[]⟩) Tryz.underlying47 hi1 ky0 .i64 .i64 (k : Int) (k : Int) (by omega) (by omega) (by rw [ky2]; omega) (by omega)
  rw [h, ky1, Int.toNat_natCast, Nat.mul_one]
  rfl
theorem range_map_getD {α β : Type _} (f : α → β) (d : α) (L : List α) : (List.range L.length).map (fun i => f (L.getD i d)) = L.map f := by
  apply List.ext_getElem
  · simp
  · intro i h1 h2
    simp at h1
    simp [List.getD, h1]
theorem dec_len6 {n : Nat} (h : n < 1000000) : (Lib.decDigits n).length ≤ 6 := (dec_len_iff n 6 (by decide)).2 (by omega)
theorem joinB_le {b : UInt8} {P : List (List UInt8)} {c : Nat} (h : ∀ p ∈ P, p.length ≤ c) : (joinB b P).length ≤ (c + 1) * P.length := by
  rcases P with _ | ⟨p, t⟩
  · simp [joinB]
  · have h1 := joinB_len (b := b) (P := p :: t) (by simp)
    have h2 : ∀ Q : List (List UInt8), (∀ q ∈ Q, q.length ≤ c) → (Q.map List.length).sum ≤ c * Q.length := fun Q => by
      induction Q with
      | nil => intro _; simp
      | cons q u ih =>
        intro hq
        have := ih (fun x hx => hq x (List.mem_cons_of_mem _ hx))
        have := hq q (by simp)
        rw [List.map_cons, List.sum_cons, List.length_cons, Nat.mul_succ]
        omega
    have := h2 _ h
    rw [Nat.succ_mul]
    omega

/-- A cell behind the texts that are written. -/
theorem StrsTo.set {w : World} {g n k : Nat} {S : Nat → List UInt8} (h : StrsTo w g n k S) {i : Nat} (hi : k ≤ i) (u : Value) : StrsTo (w.setCell ⟨g, i, none⟩ u) g n k S := by
  obtain ⟨cs, h1, h2, h3⟩ := h
  refine ⟨_, h1.put i u, by simpa using h2, fun j hj => ?_⟩
  rw [Array.getElem?_setIfInBounds_ne (by omega)]
  exact h3 j hj
theorem StrsTo.more {w : World} {g n k : Nat} {S : Nat → List UInt8} (h : StrsTo w g n k S) (hk : k < n) (hc : w.cell? ⟨g, k, none⟩ = some (.string (str (S k)))) : StrsTo w g n (k + 1) S := by
  obtain ⟨cs, h1, h2, h3⟩ := h
  refine ⟨cs, h1, h2, fun i hi => ?_⟩
  rcases Nat.lt_or_ge i k with h | h
  · exact h3 i h
  · obtain rfl : i = k := by omega
    rw [← h1.cell, hc]
theorem StrsTo.now {w : World} {g n k : Nat} {S : Nat → List UInt8} (h : StrsTo w g n k S) {i : Nat} (hi : i < n) (u : Value) : (w.setCell ⟨g, i, none⟩ u).cell? ⟨g, i, none⟩ = some u ∧ (w.setCell ⟨g, i, none⟩ u).frozen? ⟨g, i, none⟩ = false := by
  obtain ⟨cs, h1, h2, h3⟩ := h
  have h4 := h1.put i u
  exact ⟨by rw [h4.cell, Array.getElem?_setIfInBounds_self_of_lt (by omega)], h4.free i⟩
end Go.Proofs.YtbbdammdiplagaaGreatDoor
