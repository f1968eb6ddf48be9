/- Texts as lists of bytes: cut at a byte; decimal digits; pure. -/
import Derived.Test.YtgolcogigpnbeaaGreatDoorProg
import Derived.Lib.IndexMore
import Derived.Lib.IndexBytes
import Derived.Lib.AtoiAll
import Derived.Lib.ItoaNum
import Derived.Lib.ItoaMem
namespace Go.Proofs.YtgolcogigpnbeaaGreatDoor

/-- A text of bytes. -/
def str (l : List UInt8) : ByteArray := ⟨l.toArray⟩
theorem str_list (l : List UInt8) : (str l).data.toList = l := rfl
theorem str_of (s : ByteArray) : str s.data.toList = s := by
  unfold str
  cases s
  simp
theorem str_size (l : List UInt8) : (str l).size = l.length := rfl
theorem str_toList (l : List UInt8) : (str l).toList = l := by rw [ByteArray.toList_eq]; rfl
theorem str_append (a b : List UInt8) : str a ++ str b = str (a ++ b) := by
  apply ByteArray.ext
  rw [ByteArray.data_append]
  show a.toArray ++ b.toArray = (a ++ b).toArray
  simp
theorem str_inj {a b : List UInt8} (h : str a = str b) : a = b := by
  have := congrArg (fun s : ByteArray => s.data.toList) h
  simpa [str] using this

theorem cut_no {l : List UInt8} {b : UInt8} (h : b ∉ l) : Lib.cut l [b] = (l, [], false) := by
  unfold Lib.cut
  rw [Lib.index_one]
  have hn : Lib.indexByte l b = -1 := by
    rcases Int.lt_or_le (Lib.indexByte l b) 0 with h0 | h0
    · have := Lib.indexByte_ge l b
      omega
    · obtain ⟨o, ho⟩ : ∃ o : Nat, Lib.indexByte l b = o := ⟨_, (Int.toNat_of_nonneg h0).symm⟩
      exact absurd (List.mem_of_getElem? (Lib.indexByte_some ho).1) h
  rw [hn, if_neg (by decide)]
theorem cut_yes {p q : List UInt8} {b : UInt8} (h : b ∉ p) : Lib.cut (p ++ b :: q) [b] = (p, q, true) := by
  unfold Lib.cut
  rw [Lib.index_one]
  have hn : Lib.indexByte (p ++ b :: q) b = p.length := by
    rcases Int.lt_or_le (Lib.indexByte (p ++ b :: q) b) 0 with h0 | h0
    · have h1 := Lib.indexByte_ge (p ++ b :: q) b
      have hneg : Lib.indexByte (p ++ b :: q) b = -1 := by omega
      exact absurd (show (p ++ b :: q)[p.length]? = some b by simp) (Lib.indexByte_none hneg p.length)
    · obtain ⟨o, ho⟩ : ∃ o : Nat, Lib.indexByte (p ++ b :: q) b = o := ⟨_, (Int.toNat_of_nonneg h0).symm⟩
      obtain ⟨h1, h2⟩ := Lib.indexByte_some ho
      rw [ho]
      rcases Nat.lt_trichotomy o p.length with hl | hl | hl
      · rw [List.getElem?_append_left hl] at h1
        exact absurd (List.mem_of_getElem? h1) h
      · rw [hl]
      · exact absurd (by simp) (h2 p.length hl)
  rw [hn, if_pos (by omega)]
  simp
/-- A text has a byte, or it hasn't. -/
theorem cut_cases (l : List UInt8) (b : UInt8) : b ∉ l ∨ ∃ p q, l = p ++ b :: q ∧ b ∉ p := by
  by_cases h : b ∈ l
  · obtain ⟨p, q, e, hp⟩ := List.eq_append_cons_of_mem h
    exact Or.inr ⟨p, q, e, hp⟩
  · exact Or.inl h
theorem split_inj {b : UInt8} : ∀ {p p' q q' : List UInt8}, b ∉ p → b ∉ p' → p ++ b :: q = p' ++ b :: q' → p = p' ∧ q = q'
  | [], [], _, _, _, _, h => by simpa using h
  | [], c :: p', _, _, _, hp', h => by
    simp only [List.nil_append, List.cons_append, List.cons.injEq] at h
    exact absurd (h.1 ▸ List.mem_cons_self ..) hp'
  | c :: p, [], _, _, hp, _, h => by
    simp only [List.nil_append, List.cons_append, List.cons.injEq] at h
    exact absurd (h.1 ▸ List.mem_cons_self ..) hp
  | c :: p, c' :: p', q, q', hp, hp', h => by
    simp only [List.cons_append, List.cons.injEq] at h
    obtain ⟨h1, h2⟩ := split_inj (fun m => hp (List.mem_cons_of_mem _ m)) (fun m => hp' (List.mem_cons_of_mem _ m)) h.2
    exact ⟨by rw [h.1, h1], h2⟩

/-! ### Digits -/
theorem dec_digit : ∀ (m : Nat) (c : UInt8), c ∈ Lib.decDigits m → 48 ≤ c.toNat ∧ c.toNat ≤ 57 := by
  intro m
  induction m using Nat.strongRecOn with
  | _ m ih =>
    intro c hc
    have key : ∀ d, d < 10 → 48 ≤ (UInt8.ofNat (48 + d)).toNat ∧ (UInt8.ofNat (48 + d)).toNat ≤ 57 := by
      intro d hd
      rw [UInt8.toNat_ofNat']
      omega
    rw [Lib.decDigits] at hc
    split at hc
    · rename_i h
      rw [List.mem_singleton] at hc
      subst hc
      exact key m h
    · rw [List.mem_append, List.mem_singleton] at hc
      rcases hc with hc | rfl
      · exact ih (m / 10) (by omega) c hc
      · exact key (m % 10) (Nat.mod_lt _ (by decide))
theorem dec_ne (m : Nat) : Lib.decDigits m ≠ [] := by
  intro h
  have := Lib.decDigits_length m
  rw [h] at this
  have h2 := Lib.nDigits_pos m
  simp at this
  omega
theorem parse_app : ∀ (l : List UInt8) (acc v : Nat) (r : List UInt8), Lib.parseUint10 acc l = .ok v → Lib.parseUint10 acc (l ++ r) = Lib.parseUint10 v r
  | [], acc, v, r, h => by
    simp only [Lib.parseUint10] at h
    injection h with h
    subst h
    rfl
  | c :: t, acc, v, r, h => by
    simp only [Lib.parseUint10, List.cons_append] at h ⊢
    split at h
    · split at h
      · cases h
      · split at h
        · cases h
        · rw [if_pos (by assumption), if_neg (by assumption), if_neg (by assumption)]
          exact parse_app t _ v r h
    · cases h
theorem parse_dec : ∀ (m : Nat), m < 9223372036854775808 → Lib.parseUint10 0 (Lib.decDigits m) = .ok m := by
  intro m
  induction m using Nat.strongRecOn with
  | _ m ih =>
    intro hm
    have key : ∀ acc d, d < 10 → acc < 922337203685477581 → Lib.parseUint10 acc [UInt8.ofNat (48 + d)] = .ok (acc * 10 + d) := by
      intro acc d hd ha
      have e : (UInt8.ofNat (48 + d)).toNat = 48 + d := by rw [UInt8.toNat_ofNat']; omega
      simp only [Lib.parseUint10, e]
      rw [if_pos (by omega), if_neg (by omega), if_neg (by omega)]
      congr 1
      omega
    rw [Lib.decDigits]
    split
    · rename_i h
      rw [key 0 m h (by omega)]
      simp
    · rw [parse_app _ 0 (m / 10) _ (ih (m / 10) (by omega) (by omega)), key (m / 10) (m % 10) (Nat.mod_lt _ (by decide)) (by omega)]
      congr 1
      omega
theorem atoi_dec (m : Nat) (hm : m < 9223372036854775808) : Lib.atoiAll (Lib.decDigits m) = .ok (m : Int) := by
  have hp := parse_dec m hm
  have hd := dec_digit m
  have hne := dec_ne m
  unfold Lib.atoiAll
  split
  · rename_i h
    exact absurd h hne
  · rename_i c r h
    have hc := hd c (by rw [h]; exact List.mem_cons_self ..)
    have h1 : ¬ c.toNat = 43 := by omega
    have h2 : ¬ c.toNat = 45 := by omega
    have hm' : Lib.parseMag (Lib.decDigits m) = .ok m := by
      unfold Lib.parseMag
      rw [if_neg hne, hp]
    simp only [h1, h2, or_self, if_false, not_false_eq_true, true_and, false_and]
    rw [hm']
    simp only
    rw [if_neg (by omega)]
theorem dec_inj {m k : Nat} (hm : m < 9223372036854775808) (hk : k < 9223372036854775808) (h : Lib.decDigits m = Lib.decDigits k) : m = k := by
  have h1 := atoi_dec m hm
  rw [h, atoi_dec k hk] at h1
  injection h1 with h1
  omega
theorem dec_len_iff (m k : Nat) (hk : 1 ≤ k) : (Lib.decDigits m).length ≤ k ↔ m < 10 ^ k := by
  rw [Lib.decDigits_length]
  constructor
  · intro h
    exact Nat.lt_of_lt_of_le (Lib.lt_pow_nDigits m) (Nat.pow_le_pow_right (by decide) h)
  · revert m
    induction k with
    | zero => omega
    | succ k ih =>
      intro m h
      by_cases hm : m < 10
      · rw [Lib.nDigits_small hm]
        omega
      · rw [Lib.nDigits_big hm]
        rw [Nat.pow_succ] at h
        rcases Nat.eq_zero_or_pos k with rfl | hk0
        · omega
        · have := ih hk0 (m / 10) (by omega)
          omega
theorem no_space (m : Nat) : (32 : UInt8) ∉ Lib.decDigits m := fun h => by
  have := (dec_digit m 32 h).1
  exact absurd this (by decide)
theorem no_end (m : Nat) : (10 : UInt8) ∉ Lib.decDigits m := fun h => by
  have := (dec_digit m 10 h).1
  exact absurd this (by decide)
end Go.Proofs.YtgolcogigpnbeaaGreatDoor
