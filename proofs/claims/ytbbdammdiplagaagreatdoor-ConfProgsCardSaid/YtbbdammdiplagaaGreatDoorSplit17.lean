/- strings.Split at a semicolon. -/
import Derived.Test.YtbbdammdiplagaaGreatDoorGlob
import Derived.Test.YtbbdammdiplagaaGreatDoorPg17P
import Derived.Test.YtbbdammdiplagaaGreatDoorMem
import Derived.Lib.SplitLaws
namespace Go.Proofs.YtbbdammdiplagaaGreatDoor
open Go.RowKit

theorem idx_no {l : List UInt8} {b : UInt8} (h : b ∉ l) : Lib.index l [b] = -1 := by
  rw [Lib.index_one]
  rcases Int.lt_or_le (Lib.indexByte l b) 0 with h0 | h0
  · have := Lib.indexByte_ge l b
    omega
  · obtain ⟨o, ho⟩ : ∃ o : Nat, Lib.indexByte l b = o := ⟨_, (Int.toNat_of_nonneg h0).symm⟩
    exact absurd (List.mem_of_getElem? (Lib.indexByte_some ho).1) h
theorem idx_yes {p q : List UInt8} {b : UInt8} (h : b ∉ p) : Lib.index (p ++ b :: q) [b] = (p.length : Nat) := by
  rw [Lib.index_one]
  rcases Int.lt_or_le (Lib.indexByte (p ++ b :: q) b) 0 with h0 | h0
  · have h1 := Lib.indexByte_ge (p ++ b :: q) b
    have hneg : Lib.indexByte (p ++ b :: q) b = -1 := by omega
    exact absurd (show (p ++ b :: q)[p.length]? = some b by simp) (Lib.indexByte_none hneg p.length)
  · obtain ⟨o, ho⟩ : ∃ o : Nat, Lib.indexByte (p ++ b :: q) b = o := ⟨_, (Int.toNat_of_nonneg h0).symm⟩
    obtain ⟨h1, h2⟩ := Lib.indexByte_some ho
    rw [ho]
    rcases Nat.lt_trichotomy o p.length with hl | hl | hl
    · rw [List.getElem?_append_left hl] at h1
      exact absurd (List.mem_of_getElem? h1) h
    · rw [hl]
    · exact absurd (by simp) (h2 p.length hl)
theorem pieces (b : UInt8) : ∀ (k : Nat) (s : List UInt8), Lib.count s [b] = k → (Lib.splitK [b] 0 k s).length = k + 1 ∧ joinB b (Lib.splitK [b] 0 k s) = s ∧ ∀ p ∈ Lib.splitK [b] 0 k s, b ∉ p
  | 0, s, h => by
    rw [Lib.count_one] at h
    refine ⟨rfl, rfl, fun p hp => ?_⟩
    obtain rfl : p = s := by simpa [Lib.splitK] using hp
    exact List.count_eq_zero.1 h
  | k + 1, s, h => by
    rcases cut_cases s b with hn | ⟨p, q, rfl, hp⟩
    · rw [Lib.count_miss (idx_no hn)] at h; cases h
    · have hi := idx_yes (q := q) hp
      rw [Lib.count_hit (by simp) hi] at h
      have hd : (p ++ b :: q).drop (p.length + [b].length) = q := by
        rw [← List.drop_drop, List.drop_left']
        · rfl
        · rfl
      rw [hd] at h
      obtain ⟨q1, q2, q3⟩ := pieces b k q (by omega)
      have e : Lib.splitK [b] 0 (k + 1) (p ++ b :: q) = p :: Lib.splitK [b] 0 k q := by
        rw [Lib.splitK, hi, if_neg (by simp), Int.toNat_natCast, hd, Nat.add_zero, List.take_left']
        rfl
      rw [e]
      refine ⟨by rw [List.length_cons, q1], ?_, ?_⟩
      · rcases hP : Lib.splitK [b] 0 k q with _ | ⟨a, t⟩
        · rw [hP] at q1; simp at q1
        · rw [hP] at q2
          rw [joinB_cons, q2]
      · intro x hx
        rcases List.mem_cons.1 hx with rfl | hx
        · exact hp
        · exact q3 x hx
theorem join_mem_len {b : UInt8} : ∀ {P : List (List UInt8)} {p : List UInt8}, p ∈ P → p.length ≤ (joinB b P).length
  | [], _, h => by simp at h
  | [x], p, h => by
    obtain rfl : p = x := by simpa using h
    exact Nat.le_refl _
  | x :: y :: t, p, h => by
    rw [joinB_cons, List.length_append, List.length_cons]
    rcases List.mem_cons.1 h with rfl | h
    · omega
    · have := join_mem_len (b := b) h
      omega
/-- What Split tells: the pieces, in a block of its own. -/
def SplitTo (s : List UInt8) (w : World) (e : Ending) (w' : World) : Prop :=
  Below w.heap.size w w' ∧ ∃ P, e = .returned (.slice (some ⟨w.heap.size, 0, none⟩) P.length P.length) ∧ P ≠ [] ∧ joinB 59 P = s ∧ (∀ p ∈ P, (59 : UInt8) ∉ p) ∧ ∃ cs, Whole w' w.heap.size 9 cs ∧ ∀ i, i < P.length → cs[i]? = some (.string (str (P.getD i [])))
theorem split_at (s : List UInt8) (w : World) (hg : GT w) (hs : s.length < 4294967281) :
    Calls Tryz.prog 71 #[.string (str s), .string ⟨#[59]⟩] w (SplitTo s w) := by
  obtain ⟨m, hm⟩ := hg.ml
  refine (Tryz.strings_Split (str s) ⟨#[59]⟩ m w hs hm (Nat.le_refl _)).mono ?_
  rintro e w' ⟨rfl, rfl⟩
  refine ⟨(Below.refl _ _).alloc (Nat.le_refl _) _, ?_⟩
  obtain ⟨X, hX⟩ : ∃ X, Lib.splitB ⟨#[59]⟩ 0 (Lib.countB (str s) ⟨#[59]⟩) (str s) = X := ⟨_, rfl⟩
  have hd := Lib.splitB_data ⟨#[59]⟩ 0 (Lib.countB (str s) ⟨#[59]⟩) (str s)
  obtain ⟨q1, q2, q3⟩ := pieces 59 (Lib.countB (str s) ⟨#[59]⟩) s rfl
  have hd' : X.map (·.data.toList) = Lib.splitK [59] 0 (Lib.countB (str s) ⟨#[59]⟩) s := by rw [← hX, hd]; rfl
  rw [← hd'] at q1 q2 q3
  rw [hX]
  rw [List.length_map] at q1
  refine ⟨X.map (·.data.toList), by rw [List.length_map, q1], fun e => ?_, q2, q3, _, Whole.new _ _ _, fun i hi => ?_⟩
  · have := congrArg List.length e
    rw [List.length_map, q1] at this
    simp at this
  · rw [List.length_map] at hi
    have e1 : (X.map (·.data.toList)).getD i [] = (X[i]).data.toList := by simp [List.getD, hi]
    rw [e1, str_of]
    simp [hi]
end Go.Proofs.YtbbdammdiplagaaGreatDoor
