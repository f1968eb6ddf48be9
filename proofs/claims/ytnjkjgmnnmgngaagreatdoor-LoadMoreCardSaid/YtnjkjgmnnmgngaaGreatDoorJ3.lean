/- Texts as lists of bytes: cut at a byte; decimal digits; pure. What the listed variables give a walk; strings.Cut, strconv.Atoi and Itoa as a walk takes them. pat: the text of a pattern is no other's; pure. Programs and their texts; pure. strings.Split at a semicolon. -/
import Derived.Test.YtnjkjgmnnmgngaaGreatDoorProg
import Derived.Lib.IndexMore
import Derived.Lib.IndexBytes
import Derived.Lib.AtoiAll
import Derived.Lib.ItoaNum
import Derived.Lib.ItoaMem
import Derived.Test.YtnjkjgmnnmgngaaGreatDoorShelf
import Derived.Test.YtnjkjgmnnmgngaaGreatDoorJ1
import Derived.Lib.Hide
import Derived.Lib.AppendIntMem
import Derived.Lib.SplitLaws
namespace Go.Proofs.YtnjkjgmnnmgngaaGreatDoor
section
/-- A text of bytes. -/
def str (l : List UInt8) : ByteArray := ⟨l.toArray⟩
theorem str_list (l : List UInt8) : (str l).data.toList = l := rfl
theorem str_of (s : ByteArray) : str s.data.toList = s := by
  unfold str
  cases s
  simp
theorem str_size (l : List UInt8) : (str l).size = l.length := rfl
theorem str_toList (l : List UInt8) : (str l).toList = l := by rw [ByteArray.toList_eq]; rfl
theorem str_append (a b : List UInt8) : str a ++ str b = str (a ++ b) := by
  apply ByteArray.ext
  rw [ByteArray.data_append]
  show a.toArray ++ b.toArray = (a ++ b).toArray
  simp
theorem str_inj {a b : List UInt8} (h : str a = str b) : a = b := by
  have := congrArg (fun s : ByteArray => s.data.toList) h
  simpa [str] using this

theorem cut_no {l : List UInt8} {b : UInt8} (h : b ∉ l) : Lib.cut l [b] = (l, [], false) := by
  unfold Lib.cut
  rw [Lib.index_one]
  have hn : Lib.indexByte l b = -1 := by
    rcases Int.lt_or_le (Lib.indexByte l b) 0 with h0 | h0
    · have := Lib.indexByte_ge l b
      omega
    · obtain ⟨o, ho⟩ : ∃ o : Nat, Lib.indexByte l b = o := ⟨_, (Int.toNat_of_nonneg h0).symm⟩
      exact absurd (List.mem_of_getElem? (Lib.indexByte_some ho).1) h
  rw [hn, if_neg (by decide)]
theorem cut_yes {p q : List UInt8} {b : UInt8} (h : b ∉ p) : Lib.cut (p ++ b :: q) [b] = (p, q, true) := by
  unfold Lib.cut
  rw [Lib.index_one]
  have hn : Lib.indexByte (p ++ b :: q) b = p.length := by
    rcases Int.lt_or_le (Lib.indexByte (p ++ b :: q) b) 0 with h0 | h0
    · have h1 := Lib.indexByte_ge (p ++ b :: q) b
      have hneg : Lib.indexByte (p ++ b :: q) b = -1 := by omega
      exact absurd (show (p ++ b :: q)[p.length]? = some b by simp) (Lib.indexByte_none hneg p.length)
    · obtain ⟨o, ho⟩ : ∃ o : Nat, Lib.indexByte (p ++ b :: q) b = o := ⟨_, (Int.toNat_of_nonneg h0).symm⟩
      obtain ⟨h1, h2⟩ := Lib.indexByte_some ho
      rw [ho]
      rcases Nat.lt_trichotomy o p.length with hl | hl | hl
      · rw [List.getElem?_append_left hl] at h1
        exact absurd (List.mem_of_getElem? h1) h
      · rw [hl]
      · exact absurd (by simp) (h2 p.length hl)
  rw [hn, if_pos (by omega)]
  simp
/-- A text has a byte, or it hasn't. -/
theorem cut_cases (l : List UInt8) (b : UInt8) : b ∉ l ∨ ∃ p q, l = p ++ b :: q ∧ b ∉ p := by
  by_cases h : b ∈ l
  · obtain ⟨p, q, e, hp⟩ := List.eq_append_cons_of_mem h
    exact Or.inr ⟨p, q, e, hp⟩
  · exact Or.inl h
theorem split_inj {b : UInt8} : ∀ {p p' q q' : List UInt8}, b ∉ p → b ∉ p' → p ++ b :: q = p' ++ b :: q' → p = p' ∧ q = q'
  | [], [], _, _, _, _, h => by simpa using h
  | [], c :: p', _, _, _, hp', h => by
    simp only [List.nil_append, List.cons_append, List.cons.injEq] at h
    exact absurd (h.1 ▸ List.mem_cons_self ..) hp'
  | c :: p, [], _, _, hp, _, h => by
    simp only [List.nil_append, List.cons_append, List.cons.injEq] at h
    exact absurd (h.1 ▸ List.mem_cons_self ..) hp
  | c :: p, c' :: p', q, q', hp, hp', h => by
    simp only [List.cons_append, List.cons.injEq] at h
    obtain ⟨h1, h2⟩ := split_inj (fun m => hp (List.mem_cons_of_mem _ m)) (fun m => hp' (List.mem_cons_of_mem _ m)) h.2
    exact ⟨by rw [h.1, h1], h2⟩

/-! ### Digits -/
theorem dec_digit : ∀ (m : Nat) (c : UInt8), c ∈ Lib.decDigits m → 48 ≤ c.toNat ∧ c.toNat ≤ 57 := by
  intro m
  induction m using Nat.strongRecOn with
  | _ m ih =>
    intro c hc
    have key : ∀ d, d < 10 → 48 ≤ (UInt8.ofNat (48 + d)).toNat ∧ (UInt8.ofNat (48 + d)).toNat ≤ 57 := by
      intro d hd
      rw [UInt8.toNat_ofNat']
      omega
    rw [Lib.decDigits] at hc
    split at hc
    · rename_i h
      rw [List.mem_singleton] at hc
      subst hc
      exact key m h
    · rw [List.mem_append, List.mem_singleton] at hc
      rcases hc with hc | rfl
      · exact ih (m / 10) (by omega) c hc
      · exact key (m % 10) (Nat.mod_lt _ (by decide))
theorem dec_ne (m : Nat) : Lib.decDigits m ≠ [] := by
  intro h
  have := Lib.decDigits_length m
  rw [h] at this
  have h2 := Lib.nDigits_pos m
  simp at this
  omega
theorem parse_app : ∀ (l : List UInt8) (acc v : Nat) (r : List UInt8), Lib.parseUint10 acc l = .ok v → Lib.parseUint10 acc (l ++ r) = Lib.parseUint10 v r
  | [], acc, v, r, h => by
    simp only [Lib.parseUint10] at h
    injection h with h
    subst h
    rfl
  | c :: t, acc, v, r, h => by
    simp only [Lib.parseUint10, List.cons_append] at h ⊢
    split at h
    · split at h
      · cases h
      · split at h
        · cases h
        · rw [if_pos (by assumption), if_neg (by assumption), if_neg (by assumption)]
          exact parse_app t _ v r h
    · cases h
theorem parse_dec : ∀ (m : Nat), m < 9223372036854775808 → Lib.parseUint10 0 (Lib.decDigits m) = .ok m := by
  intro m
  induction m using Nat.strongRecOn with
  | _ m ih =>
    intro hm
    have key : ∀ acc d, d < 10 → acc < 922337203685477581 → Lib.parseUint10 acc [UInt8.ofNat (48 + d)] = .ok (acc * 10 + d) := by
      intro acc d hd ha
      have e : (UInt8.ofNat (48 + d)).toNat = 48 + d := by rw [UInt8.toNat_ofNat']; omega
      simp only [Lib.parseUint10, e]
      rw [if_pos (by omega), if_neg (by omega), if_neg (by omega)]
      congr 1
      omega
    rw [Lib.decDigits]
    split
    · rename_i h
      rw [key 0 m h (by omega)]
      simp
    · rw [parse_app _ 0 (m / 10) _ (ih (m / 10) (by omega) (by omega)), key (m / 10) (m % 10) (Nat.mod_lt _ (by decide)) (by omega)]
      congr 1
      omega
theorem atoi_dec (m : Nat) (hm : m < 9223372036854775808) : Lib.atoiAll (Lib.decDigits m) = .ok (m : Int) := by
  have hp := parse_dec m hm
  have hd := dec_digit m
  have hne := dec_ne m
  unfold Lib.atoiAll
  split
  · rename_i h
    exact absurd h hne
  · rename_i c r h
    have hc := hd c (by rw [h]; exact List.mem_cons_self ..)
    have h1 : ¬ c.toNat = 43 := by omega
    have h2 : ¬ c.toNat = 45 := by omega
    have hm' : Lib.parseMag (Lib.decDigits m) = .ok m := by
      unfold Lib.parseMag
      rw [if_neg hne, hp]
    simp only [h1, h2, or_self, if_false, not_false_eq_true, true_and, false_and]
    rw [hm']
    simp only
    rw [if_neg (by omega)]
theorem dec_inj {m k : Nat} (hm : m < 9223372036854775808) (hk : k < 9223372036854775808) (h : Lib.decDigits m = Lib.decDigits k) : m = k := by
  have h1 := atoi_dec m hm
  rw [h, atoi_dec k hk] at h1
  injection h1 with h1
  omega
theorem dec_len_iff (m k : Nat) (hk : 1 ≤ k) : (Lib.decDigits m).length ≤ k ↔ m < 10 ^ k := by
  rw [Lib.decDigits_length]
  constructor
  · intro h
    exact Nat.lt_of_lt_of_le (Lib.lt_pow_nDigits m) (Nat.pow_le_pow_right (by decide) h)
  · revert m
    induction k with
    | zero => omega
    | succ k ih =>
      intro m h
      by_cases hm : m < 10
      · rw [Lib.nDigits_small hm]
        omega
      · rw [Lib.nDigits_big hm]
        rw [Nat.pow_succ] at h
        rcases Nat.eq_zero_or_pos k with rfl | hk0
        · omega
        · have := ih hk0 (m / 10) (by omega)
          omega
theorem no_space (m : Nat) : (32 : UInt8) ∉ Lib.decDigits m := fun h => by
  have := (dec_digit m 32 h).1
  exact absurd this (by decide)
theorem no_end (m : Nat) : (10 : UInt8) ∉ Lib.decDigits m := fun h => by
  have := (dec_digit m 10 h).1
  exact absurd this (by decide)
end

section
open Go.RowKit

/-- The variables of the library hold what they are laid with. -/
structure GT (w : World) : Prop where
  et : ErrT w
  ml : ∃ m, w.cell? ⟨1, 0, none⟩ = some (.int .i64 m)
  tab : Lib.TabIs Tryz.prog w "internal/strconv.uint64pow10" .u64 Lib.pow10Tab
  es : ∃ tp p, w.var? Tryz.prog "strconv.ErrSyntax" = some #[.iface tp p]
  er : ∃ tp p, w.var? Tryz.prog "strconv.ErrRange" = some #[.iface tp p]
theorem Tryz.gTab : Tryz.prog.globalNamed "internal/strconv.uint64pow10" = some 2 := by kernel_rfl
theorem Tryz.gES : Tryz.prog.globalNamed "strconv.ErrSyntax" = some 3 := by kernel_rfl
theorem Tryz.gER : Tryz.prog.globalNamed "strconv.ErrRange" = some 4 := by kernel_rfl
theorem var_keep {n : String} {g : Nat} {w w' : World} {cs : Array Value} {B : Nat} (hg : Tryz.prog.globalNamed n = some g) (h : w.var? Tryz.prog n = some cs) (hb : Below B w w') (hB : w.heap.size ≤ B) : w'.var? Tryz.prog n = some cs := by
  have hl : g < w.heap.size := by
    rcases Nat.lt_or_ge g w.heap.size with h' | h'
    · exact h'
    · simp [World.var?, hg, Array.getElem?_eq_none h'] at h
  have e := hb.block g (by omega)
  unfold World.var? at h ⊢
  rw [hg] at h ⊢
  simp only [Option.bind_some] at h ⊢
  rw [e]
  exact h
theorem GT.below {w w' : World} (h : GT w) {B : Nat} (hb : Below B w w') (hB : w.heap.size ≤ B) : GT w' := by
  obtain ⟨m, hm⟩ := h.ml
  obtain ⟨tp, p, hs⟩ := h.es
  obtain ⟨tq, q, hr⟩ := h.er
  have hl : 1 < w.heap.size := World.block_lt_of_cell? _ _ hm
  exact ⟨h.et.below hb hB, ⟨m, (hb.cell (p := ⟨1, 0, none⟩) (Nat.lt_of_lt_of_le hl hB)).trans hm⟩, var_keep Tryz.gTab h.tab hb hB, ⟨tp, p, var_keep Tryz.gES hs hb hB⟩, ⟨tq, q, var_keep Tryz.gER hr hb hB⟩⟩

theorem cut_at (l : List UInt8) (b : UInt8) (w : World) (hg : GT w) (hl : l.length < 4294967281) :
    Calls Tryz.prog 45 #[.string (str l), .string ⟨#[b]⟩] w fun e w' => e = .returned (.tuple #[.string (str (Lib.cut l [b]).1), .string (str (Lib.cut l [b]).2.1), .bool (Lib.cut l [b]).2.2]) ∧ Below w.heap.size w w' := by
  obtain ⟨m, hm⟩ := hg.ml
  refine (Tryz.strings_Cut (str l) ⟨#[b]⟩ m w hl hm).mono ?_
  rintro e w' ⟨rfl, n, rfl⟩
  exact ⟨rfl, below_drewN' (Below.refl _ _) n⟩
theorem itoa_at (n : Nat) (hn : n ≤ 9223372036854775807) (w : World) (hg : GT w) :
    Calls Tryz.prog 43 #[.int .i64 n] w fun e w' => e = .returned (.string (str (Lib.decDigits n))) ∧ Below w.heap.size w w' := by
  refine (Tryz.strconv_Itoa n (by omega) (by omega) w hg.tab).mono ?_
  rintro e w' ⟨rfl, k, os, rfl⟩
  refine ⟨by rw [Lib.itoa_nonneg]; rfl, ?_⟩
  exact Lib.below_grow _ w (Nat.le_refl _) k os
/-- How Atoi ends, and when its error is none. -/
def AtoiTo (l : List UInt8) (w : World) (e : Ending) (w' : World) : Prop :=
  Below w.heap.size w w' ∧ ((∃ v, Lib.atoiAll l = .ok v ∧ -9223372036854775808 ≤ v ∧ v ≤ 9223372036854775807 ∧ e = .returned (.tuple #[.int .i64 v, .nilIface])) ∨ ((∀ v, Lib.atoiAll l ≠ .ok v) ∧ ∃ x N, e = .returned (.tuple #[.int .i64 x, .iface 209 (.pointer (some ⟨N, 0, none⟩))])))
theorem atoi_at (l : List UInt8) (hl : l.length ≤ 281474976710656) (w : World) (hg : GT w) :
    Calls Tryz.prog 96 #[.string (str l)] w (AtoiTo l w) := by
  rcases h : Lib.atoiAll l with v | _ | _
  · refine (Tryz.strconv_Atoi_ok (str l) (by rw [str_size]; omega) v (by rw [str_list]; exact h) w).mono ?_
    rintro e w' ⟨rfl, hw⟩
    have hb := Lib.atoiAll_bounds h
    refine ⟨?_, Or.inl ⟨v, h, hb.1, hb.2, rfl⟩⟩
    rcases hw with rfl | ⟨t, rfl⟩
    · exact Below.refl _ _
    · exact Lib.bytesWorld_below _ _ _
  · obtain ⟨tp, p, hs⟩ := hg.es
    refine Calls.mono (Any.strconv_Atoi_syntax_var Tryz.laysC172 (str l) hl (by rw [str_list]; exact h) tp p w hs) ?_
    rintro e w' ⟨N, rfl, _, _, hb⟩
    exact ⟨hb, Or.inr ⟨(fun v h2 => by rw [h] at h2; cases h2), _, N, rfl⟩⟩
  · obtain ⟨tp, p, hs⟩ := hg.er
    refine Calls.mono (Any.strconv_Atoi_range_var Tryz.laysC172 (str l) hl (by rw [str_list]; exact h) tp p w hs) ?_
    rintro e w' ⟨N, rfl, _, _, hb⟩
    exact ⟨hb, Or.inr ⟨(fun v h2 => by rw [h] at h2; cases h2), _, N, rfl⟩⟩
end

section
/-- Parts with a byte between them. -/
def joinB (b : UInt8) : List (List UInt8) → List UInt8
  | [] => []
  | [p] => p
  | p :: q :: t => p ++ b :: joinB b (q :: t)
theorem joinB_cons (b : UInt8) (p q : List UInt8) (t : List (List UInt8)) : joinB b (p :: q :: t) = p ++ b :: joinB b (q :: t) := rfl
theorem joinB_inj {b : UInt8} : ∀ {P Q : List (List UInt8)}, (∀ p ∈ P, b ∉ p ∧ p ≠ []) → (∀ p ∈ Q, b ∉ p ∧ p ≠ []) → joinB b P = joinB b Q → P = Q
  | [], [], _, _, _ => rfl
  | [], [q], _, hq, h => absurd h.symm (hq q (by simp)).2
  | [], q :: r :: t, _, _, h => by simp [joinB] at h
  | [p], [], hp, _, h => absurd h (hp p (by simp)).2
  | p :: r :: t, [], _, _, h => by simp [joinB] at h
  | [p], [q], _, _, h => by
    have h' : p = q := h
    rw [h']
  | [p], q :: r :: t, hp, _, h => by
    have h' : p = q ++ b :: joinB b (r :: t) := h
    exact absurd (by rw [h']; simp) (hp p (by simp)).1
  | p :: r :: t, [q], _, hq, h => by
    have h' : p ++ b :: joinB b (r :: t) = q := h
    exact absurd (by rw [← h']; simp) (hq q (by simp)).1
  | p :: r :: t, q :: s :: u, hp, hq, h => by
    rw [joinB_cons, joinB_cons] at h
    obtain ⟨h1, h2⟩ := split_inj (hp p (by simp)).1 (hq q (by simp)).1 h
    have ih := joinB_inj (P := r :: t) (Q := s :: u) (fun x hx => hp x (List.mem_cons_of_mem _ hx)) (fun x hx => hq x (List.mem_cons_of_mem _ hx)) h2
    rw [h1, ih]
theorem joinB_mem {b c : UInt8} : ∀ {P : List (List UInt8)}, c ∈ joinB b P → c = b ∨ ∃ p ∈ P, c ∈ p
  | [], h => by simp [joinB] at h
  | [p], h => Or.inr ⟨p, by simp, h⟩
  | p :: q :: t, h => by
    rw [joinB_cons] at h
    rcases List.mem_append.1 h with h | h
    · exact Or.inr ⟨p, by simp, h⟩
    · rcases List.mem_cons.1 h with h | h
      · exact Or.inl h
      · rcases joinB_mem h with h | ⟨x, hx, h⟩
        · exact Or.inl h
        · exact Or.inr ⟨x, List.mem_cons_of_mem _ hx, h⟩
def decI (n : Int) : List UInt8 := Lib.decDigits n.toNat
def edgeT (e : Int × Int) : List UInt8 := decI e.1 ++ 45 :: decI e.2
/-- The text of a pattern whose numbers are none below nought. -/
def patT (L : List Int) (E : List (Int × Int)) : List UInt8 := joinB 44 (L.map decI) ++ 124 :: joinB 44 (E.map edgeT)
theorem dec_not {n : Int} {b : UInt8} (hb : b.toNat < 48 ∨ 57 < b.toNat) : b ∉ decI n := fun h => by
  have := dec_digit n.toNat b h
  omega
theorem decI_inj {a c : Int} (ha : 0 ≤ a ∧ a < 1000000) (hc : 0 ≤ c ∧ c < 1000000) (h : decI a = decI c) : a = c := by
  have := dec_inj (m := a.toNat) (k := c.toNat) (by omega) (by omega) h
  omega
theorem edgeT_inj {e d : Int × Int} (h1 : 0 ≤ e.1 ∧ e.1 < 1000000) (h2 : 0 ≤ e.2 ∧ e.2 < 1000000) (h3 : 0 ≤ d.1 ∧ d.1 < 1000000) (h4 : 0 ≤ d.2 ∧ d.2 < 1000000) (h : edgeT e = edgeT d) : e = d := by
  obtain ⟨q1, q2⟩ := split_inj (dec_not (by decide)) (dec_not (by decide)) h
  exact Prod.ext (decI_inj h1 h3 q1) (decI_inj h2 h4 q2)
theorem map_inj_on {α β : Type _} {f : α → β} : ∀ {A B : List α}, (∀ a ∈ A, ∀ b ∈ B, f a = f b → a = b) → A.map f = B.map f → A = B
  | [], [], _, _ => rfl
  | [], _ :: _, _, h => by simp at h
  | _ :: _, [], _, h => by simp at h
  | a :: s, b :: t, hf, h => by
    rw [List.map_cons, List.map_cons] at h
    injection h with h1 h2
    rw [hf a (by simp) b (by simp) h1, map_inj_on (fun x hx y hy => hf x (List.mem_cons_of_mem _ hx) y (List.mem_cons_of_mem _ hy)) h2]
/-- All numbers are small and none is below nought. -/
def SmallP (L : List Int) (E : List (Int × Int)) : Prop := (∀ x ∈ L, 0 ≤ x ∧ x < 1000000) ∧ ∀ e ∈ E, (0 ≤ e.1 ∧ e.1 < 1000000) ∧ 0 ≤ e.2 ∧ e.2 < 1000000
theorem patT_inj {L M : List Int} {E F : List (Int × Int)} (h1 : SmallP L E) (h2 : SmallP M F) (h : patT L E = patT M F) : L = M ∧ E = F := by
  have bar : ∀ K : List Int, (124 : UInt8) ∉ joinB 44 (K.map decI) := fun K hK => by
    rcases joinB_mem hK with h | ⟨p, hp, h⟩
    · exact absurd h (by decide)
    · obtain ⟨x, _, rfl⟩ := List.mem_map.1 hp
      exact dec_not (by decide) h
  obtain ⟨q1, q2⟩ := split_inj (bar L) (bar M) h
  have hl : ∀ (K : List Int), ∀ p ∈ K.map decI, (44 : UInt8) ∉ p ∧ p ≠ [] := fun K p hp => by
    obtain ⟨x, _, rfl⟩ := List.mem_map.1 hp
    exact ⟨dec_not (by decide), dec_ne _⟩
  have he : ∀ (K : List (Int × Int)), ∀ p ∈ K.map edgeT, (44 : UInt8) ∉ p ∧ p ≠ [] := fun K p hp => by
    obtain ⟨x, _, rfl⟩ := List.mem_map.1 hp
    refine ⟨fun hc => ?_, fun hc => ?_⟩
    · rcases List.mem_append.1 hc with hc | hc
      · exact dec_not (by decide) hc
      · rcases List.mem_cons.1 hc with hc | hc
        · exact absurd hc (by decide)
        · exact dec_not (by decide) hc
    · unfold edgeT at hc
      simp at hc
  have e1 := joinB_inj (hl L) (hl M) q1
  have e2 := joinB_inj (he E) (he F) q2
  exact ⟨map_inj_on (fun a ha b hb h => decI_inj (h1.1 a ha) (h2.1 b hb) h) e1, map_inj_on (fun a ha b hb h => edgeT_inj (h1.2 a ha).1 (h1.2 a ha).2 (h2.2 b hb).1 (h2.2 b hb).2 h) e2⟩
end

section
/-- The name of a kind of test. -/
def nameB : Int → List UInt8
  | 1 => [99, 108, 105, 113, 117, 101]
  | 2 => [108, 97, 98, 101, 108, 115]
  | 3 => [100, 101, 103, 114, 101, 101]
  | 4 => [115, 105, 122, 101]
  | 5 => [101, 100, 103, 101, 115]
  | 6 => [117, 110, 108, 105, 107, 101]
  | 7 => [111, 110, 108, 121]
  | 8 => [102, 114, 101, 101]
  | _ => []
theorem kind8 {k : Int} (h0 : 1 ≤ k) (h8 : k ≤ 8) : k = 1 ∨ k = 2 ∨ k = 3 ∨ k = 4 ∨ k = 5 ∨ k = 6 ∨ k = 7 ∨ k = 8 := by omega
theorem nameB_no {k : Int} (h : k < 1 ∨ 8 < k) : nameB k = [] := by
  unfold nameB
  split <;> first | rfl | omega
theorem nameB_ne {k : Int} (h0 : 1 ≤ k) (h8 : k ≤ 8) : nameB k ≠ [] := by
  rcases kind8 h0 h8 with rfl | rfl | rfl | rfl | rfl | rfl | rfl | rfl <;> decide
theorem nameB_inj {a b : Int} (a0 : 1 ≤ a) (a8 : a ≤ 8) (b0 : 1 ≤ b) (b8 : b ≤ 8) (h : nameB a = nameB b) : a = b := by
  rcases kind8 a0 a8 with rfl | rfl | rfl | rfl | rfl | rfl | rfl | rfl <;> rcases kind8 b0 b8 with rfl | rfl | rfl | rfl | rfl | rfl | rfl | rfl <;> first | rfl | (exact absurd h (by decide))
/-- Has a name a byte? -/
theorem nameB_byte {k : Int} {b : UInt8} (h : b ∈ nameB k) : 97 ≤ b.toNat := by
  by_cases hk : 1 ≤ k ∧ k ≤ 8
  · rcases kind8 hk.1 hk.2 with rfl | rfl | rfl | rfl | rfl | rfl | rfl | rfl <;> (revert b; decide)
  · rw [nameB_no (by omega)] at h
    simp at h
/-- Does a kind take a number? -/
def countsB (k : Int) : Bool := k == 2 || k == 3 || k == 4 || k == 5 || k == 7
/-- The code of what is wrong with a test, or 0. -/
def wrongF (o : Int × Int) : Int := if o.1 < 1 ∨ 8 < o.1 then 1 else if countsB o.1 = true then (if o.2 < 0 ∨ 255 < o.2 then 3 else 0) else (if o.2 = 0 then 0 else 3)
def wrongAt (O : List (Int × Int)) (i : Nat) : Option (Int × Int) := if wrongF (O.getD i (0, 0)) = 0 then none else some (wrongF (O.getD i (0, 0)), (i : Int))
/-- What is wrong with a program. -/
def progF (O : List (Int × Int)) : Option (Int × Int) := if 16 < O.length then some (6, 0) else (List.range O.length).findSome? (wrongAt O)
theorem progF_none {O : List (Int × Int)} : progF O = none ↔ O.length ≤ 16 ∧ ∀ o ∈ O, wrongF o = 0 := by
  unfold progF
  by_cases h : 16 < O.length
  · rw [if_pos h]; simp; omega
  · rw [if_neg h, List.findSome?_eq_none_iff]
    constructor
    · intro h1
      refine ⟨by omega, fun o ho => ?_⟩
      obtain ⟨i, hi, rfl⟩ := List.getElem_of_mem ho
      have := h1 i (List.mem_range.2 hi)
      unfold wrongAt at this
      simp [List.getD, hi] at this
      exact this
    · rintro ⟨_, h2⟩ i hi
      have hi := List.mem_range.1 hi
      unfold wrongAt
      rw [if_pos]
      exact h2 _ (by simp [List.getD, hi])
/-- The kind of a name, or 0. -/
def kindF (s : List UInt8) : Int := if s = nameB 1 then 1 else if s = nameB 2 then 2 else if s = nameB 3 then 3 else if s = nameB 4 then 4 else if s = nameB 5 then 5 else if s = nameB 6 then 6 else if s = nameB 7 then 7 else if s = nameB 8 then 8 else 0
theorem kindF_name {k : Int} (h0 : 1 ≤ k) (h8 : k ≤ 8) : kindF (nameB k) = k := by
  rcases kind8 h0 h8 with rfl | rfl | rfl | rfl | rfl | rfl | rfl | rfl <;> decide
theorem kindF_some {s : List UInt8} (h : kindF s ≠ 0) : 1 ≤ kindF s ∧ kindF s ≤ 8 ∧ nameB (kindF s) = s := by
  unfold kindF at h ⊢
  repeat' (first | (split at h <;> rename_i he <;> first | (rw [if_pos he]; exact ⟨by decide, by decide, he.symm⟩) | rw [if_neg he]) | exact absurd rfl h)
/-- The number of decimal digits, at most six, without noughts ahead. -/
def numB6 (v : List UInt8) : Option Int :=
  match Lib.atoiAll v with
  | .ok x => if 0 ≤ x ∧ x ≤ 999999 ∧ Lib.decDigits x.toNat = v then some x else none
  | _ => none
theorem numB6_dec {m : Nat} (h : m ≤ 999999) : numB6 (Lib.decDigits m) = some (m : Int) := by
  unfold numB6
  rw [atoi_dec m (by omega)]
  simp only
  rw [if_pos ⟨by omega, by omega, by rw [Int.toNat_natCast]⟩]
theorem numB6_some {v : List UInt8} {x : Int} (h : numB6 v = some x) : 0 ≤ x ∧ x ≤ 999999 ∧ Lib.decDigits x.toNat = v := by
  unfold numB6 at h
  split at h
  · rename_i y _
    by_cases hy : 0 ≤ y ∧ y ≤ 999999 ∧ Lib.decDigits y.toNat = v
    · rw [if_pos hy] at h
      rw [← Option.some.inj h]
      exact hy
    · rw [if_neg hy] at h; cases h
  · cases h
/-- The test of a text. -/
def parse1 (s : List UInt8) : Option (Int × Int) :=
  if kindF (Lib.cut s [32]).1 = 0 ∨ (Lib.cut s [32]).2.2 ≠ countsB (kindF (Lib.cut s [32]).1) then none
  else if (Lib.cut s [32]).2.2 = true then (match numB6 (Lib.cut s [32]).2.1 with | some n => some (kindF (Lib.cut s [32]).1, n) | none => none)
  else some (kindF (Lib.cut s [32]).1, 0)
/-- The text of a test. -/
def opT (o : Int × Int) : List UInt8 := nameB o.1 ++ (if countsB o.1 = true then 32 :: decI o.2 else [])
def progT (O : List (Int × Int)) : List UInt8 := joinB 59 (O.map opT)
theorem wrongF_zero {o : Int × Int} (h : wrongF o = 0) : 1 ≤ o.1 ∧ o.1 ≤ 8 ∧ 0 ≤ o.2 ∧ o.2 ≤ 255 ∧ (countsB o.1 = false → o.2 = 0) := by
  unfold wrongF at h
  split at h
  · cases h
  · split at h
    · split at h
      · cases h
      · refine ⟨by omega, by omega, by omega, by omega, fun hc => ?_⟩
        rename_i h2 _
        rw [hc] at h2; cases h2
    · split at h
      · rename_i h3
        exact ⟨by omega, by omega, by omega, by omega, fun _ => h3⟩
      · cases h
theorem no_blank {k : Int} : (32 : UInt8) ∉ nameB k := fun h => absurd (nameB_byte h) (by decide)
theorem cut_opT {o : Int × Int} : Lib.cut (opT o) [32] = (nameB o.1, if countsB o.1 = true then decI o.2 else [], countsB o.1) := by
  unfold opT
  cases hc : countsB o.1 with
  | true => rw [if_pos rfl, if_pos rfl, cut_yes no_blank]
  | false => rw [if_neg (by decide), if_neg (by decide), List.append_nil, cut_no no_blank]
theorem parse1_opT {o : Int × Int} (h : wrongF o = 0) : parse1 (opT o) = some o := by
  obtain ⟨h1, h2, h3, h4, h5⟩ := wrongF_zero h
  unfold parse1
  rw [cut_opT]
  simp only
  rw [kindF_name h1 h2, if_neg (by simp; omega)]
  cases hc : countsB o.1 with
  | true =>
    rw [if_pos rfl, if_pos rfl]
    have hn : numB6 (decI o.2) = some o.2 := by
      unfold decI
      rw [numB6_dec (by omega), Int.toNat_of_nonneg h3]
    rw [hn]
  | false =>
    rw [if_neg (by decide)]
    have := h5 hc
    rw [← this]
theorem parse1_some {s : List UInt8} {o : Int × Int} (h : parse1 s = some o) : opT o = s ∧ 1 ≤ o.1 ∧ o.1 ≤ 8 ∧ 0 ≤ o.2 ∧ o.2 ≤ 999999 := by
  unfold parse1 at h
  split at h
  · cases h
  · rename_i h1
    have hk : kindF (Lib.cut s [32]).1 ≠ 0 := fun e => h1 (Or.inl e)
    have hm : (Lib.cut s [32]).2.2 = countsB (kindF (Lib.cut s [32]).1) := by
      by_cases e : (Lib.cut s [32]).2.2 = countsB (kindF (Lib.cut s [32]).1)
      · exact e
      · exact absurd (Or.inr e) h1
    obtain ⟨k1, k2, k3⟩ := kindF_some hk
    rcases cut_cases s 32 with hn | ⟨p, q, rfl, hp⟩
    · rw [cut_no hn] at h hm k1 k2 k3
      simp only at h hm k1 k2 k3
      rw [if_neg (by decide)] at h
      injection h with h
      subst h
      refine ⟨?_, k1, k2, by omega, by omega⟩
      unfold opT
      simp only
      rw [k3, ← hm, if_neg (by decide), List.append_nil]
    · rw [cut_yes hp] at h hm k1 k2 k3
      simp only at h hm k1 k2 k3
      rw [if_pos trivial] at h
      split at h
      · rename_i n hn
        injection h with h
        subst h
        obtain ⟨n1, n2, n3⟩ := numB6_some hn
        refine ⟨?_, k1, k2, n1, n2⟩
        unfold opT decI
        simp only
        rw [k3, ← hm, if_pos rfl, n3]
      · cases h
theorem opT_no {o : Int × Int} : (59 : UInt8) ∉ opT o := by
  unfold opT
  intro h
  rcases List.mem_append.1 h with h | h
  · exact absurd (nameB_byte h) (by decide)
  · split at h
    · rcases List.mem_cons.1 h with h | h
      · exact absurd h (by decide)
      · exact dec_not (by decide) h
    · simp at h
/-- Texts without a byte that are put together by it: they are told by what comes of it. -/
theorem joinB_inj2 {b : UInt8} : ∀ {P Q : List (List UInt8)}, P ≠ [] → Q ≠ [] → (∀ p ∈ P, b ∉ p) → (∀ p ∈ Q, b ∉ p) → joinB b P = joinB b Q → P = Q
  | [], _, h, _, _, _, _ => absurd rfl h
  | _ :: _, [], _, h, _, _, _ => absurd rfl h
  | [p], [q], _, _, _, _, h => by
    have h' : p = q := h
    rw [h']
  | [p], q :: r :: t, _, _, hp, _, h => by
    have h' : p = q ++ b :: joinB b (r :: t) := h
    exact absurd (by rw [h']; simp) (hp p (by simp))
  | p :: r :: t, [q], _, _, _, hq, h => by
    have h' : p ++ b :: joinB b (r :: t) = q := h
    exact absurd (by rw [← h']; simp) (hq q (by simp))
  | p :: r :: t, q :: s :: u, _, _, hp, hq, h => by
    rw [joinB_cons, joinB_cons] at h
    obtain ⟨h1, h2⟩ := split_inj (hp p (by simp)) (hq q (by simp)) h
    have ih := joinB_inj2 (P := r :: t) (Q := s :: u) (by simp) (by simp) (fun x hx => hp x (List.mem_cons_of_mem _ hx)) (fun x hx => hq x (List.mem_cons_of_mem _ hx)) h2
    rw [h1, ih]
/-- All tests of pieces, or the place of the first piece that is none. -/
def parseL : List (List UInt8) → Nat ⊕ List (Int × Int)
  | [] => .inr []
  | p :: t => match parse1 p with
    | none => .inl 0
    | some o => match parseL t with
      | .inl k => .inl (k + 1)
      | .inr l => .inr (o :: l)
theorem parseL_ok {P : List (List UInt8)} {O : List (Int × Int)} : parseL P = .inr O ↔ P.length = O.length ∧ ∀ i, i < P.length → parse1 (P.getD i []) = some (O.getD i (0, 0)) := by
  induction P generalizing O with
  | nil =>
    cases O with
    | nil => simp [parseL]
    | cons o l => simp [parseL]
  | cons p t ih =>
    rw [parseL]
    cases hp : parse1 p with
    | none =>
      simp only [reduceCtorEq, false_iff, not_and]
      intro _ h
      have := h 0 (by simp)
      simp [hp] at this
    | some o =>
      simp only
      cases ht : parseL t with
      | inl k =>
        simp only [reduceCtorEq, false_iff, not_and]
        intro hl h
        cases O with
        | nil => simp at hl
        | cons o' l =>
          have := (ih (O := l)).2 ⟨by simpa using hl, fun i hi => by have := h (i + 1) (by simpa using hi); simpa using this⟩
          rw [ht] at this; cases this
      | inr l =>
        simp only [Sum.inr.injEq]
        obtain ⟨q1, q2⟩ := (ih (O := l)).1 ht
        constructor
        · rintro rfl
          refine ⟨by simpa using q1, fun i hi => ?_⟩
          rcases i with _ | i
          · simpa using hp
          · simpa using q2 i (by simpa using hi)
        · rintro ⟨hl, h⟩
          cases O with
          | nil => simp at hl
          | cons o' l' =>
            have h0 := h 0 (by simp)
            simp [hp] at h0
            have hr : parseL t = .inr l' := (ih (O := l')).2 ⟨by simpa using hl, fun i hi => by have := h (i + 1) (by simpa using hi); simpa using this⟩
            rw [ht] at hr
            injection hr with hr
            rw [h0, hr]
theorem parseL_bad {P : List (List UInt8)} {k : Nat} (hk : k < P.length) (h : ∀ i, i < k → parse1 (P.getD i []) ≠ none) (hn : parse1 (P.getD k []) = none) : parseL P = .inl k := by
  induction P generalizing k with
  | nil => simp at hk
  | cons p t ih =>
    rw [parseL]
    rcases k with _ | k
    · simp at hn
      rw [hn]
    · have h0 := h 0 (by omega)
      simp at h0
      cases hp : parse1 p with
      | none => exact absurd hp h0
      | some o =>
        simp only
        rw [ih (k := k) (by simpa using hk) (fun i hi => by have := h (i + 1) (by omega); simpa using this) (by simpa using hn)]
theorem getD_listE {P : List (List UInt8)} {i : Nat} (h : i < P.length) : P.getD i [] = P[i] := by simp [List.getD, h]
theorem parseL_text {P : List (List UInt8)} {O : List (Int × Int)} (h : parseL P = .inr O) : O.map opT = P := by
  obtain ⟨h1, h2⟩ := parseL_ok.1 h
  apply List.ext_getElem
  · rw [List.length_map, h1]
  · intro i i1 i2
    have := (parse1_some (h2 i i2)).1
    rw [getD_listE i2] at this
    rw [List.getElem_map, ← this]
    simp [List.getD, show i < O.length by omega]
theorem parseL_of {O : List (Int × Int)} (h : ∀ o ∈ O, wrongF o = 0) : parseL (O.map opT) = .inr O :=
  parseL_ok.2 ⟨by simp, fun i hi => by
    have hi' : i < O.length := by simpa using hi
    rw [show (O.map opT).getD i [] = opT (O.getD i (0, 0)) by simp [List.getD, hi']]
    exact parse1_opT (h _ (by simp [List.getD, hi']))⟩
end

section
open Go.RowKit

theorem idx_no {l : List UInt8} {b : UInt8} (h : b ∉ l) : Lib.index l [b] = -1 := by
  rw [Lib.index_one]
  rcases Int.lt_or_le (Lib.indexByte l b) 0 with h0 | h0
  · have := Lib.indexByte_ge l b
    omega
  · obtain ⟨o, ho⟩ : ∃ o : Nat, Lib.indexByte l b = o := ⟨_, (Int.toNat_of_nonneg h0).symm⟩
    exact absurd (List.mem_of_getElem? (Lib.indexByte_some ho).1) h
theorem idx_yes {p q : List UInt8} {b : UInt8} (h : b ∉ p) : Lib.index (p ++ b :: q) [b] = (p.length : Nat) := by
  rw [Lib.index_one]
  rcases Int.lt_or_le (Lib.indexByte (p ++ b :: q) b) 0 with h0 | h0
  · have h1 := Lib.indexByte_ge (p ++ b :: q) b
    have hneg : Lib.indexByte (p ++ b :: q) b = -1 := by omega
    exact absurd (show (p ++ b :: q)[p.length]? = some b by simp) (Lib.indexByte_none hneg p.length)
  · obtain ⟨o, ho⟩ : ∃ o : Nat, Lib.indexByte (p ++ b :: q) b = o := ⟨_, (Int.toNat_of_nonneg h0).symm⟩
    obtain ⟨h1, h2⟩ := Lib.indexByte_some ho
    rw [ho]
    rcases Nat.lt_trichotomy o p.length with hl | hl | hl
    · rw [List.getElem?_append_left hl] at h1
      exact absurd (List.mem_of_getElem? h1) h
    · rw [hl]
    · exact absurd (by simp) (h2 p.length hl)
theorem pieces (b : UInt8) : ∀ (k : Nat) (s : List UInt8), Lib.count s [b] = k → (Lib.splitK [b] 0 k s).length = k + 1 ∧ joinB b (Lib.splitK [b] 0 k s) = s ∧ ∀ p ∈ Lib.splitK [b] 0 k s, b ∉ p
  | 0, s, h => by
    rw [Lib.count_one] at h
    refine ⟨rfl, rfl, fun p hp => ?_⟩
    obtain rfl : p = s := by simpa [Lib.splitK] using hp
    exact List.count_eq_zero.1 h
  | k + 1, s, h => by
    rcases cut_cases s b with hn | ⟨p, q, rfl, hp⟩
    · rw [Lib.count_miss (idx_no hn)] at h; cases h
    · have hi := idx_yes (q := q) hp
      rw [Lib.count_hit (by simp) hi] at h
      have hd : (p ++ b :: q).drop (p.length + [b].length) = q := by
        rw [← List.drop_drop, List.drop_left']
        · rfl
        · rfl
      rw [hd] at h
      obtain ⟨q1, q2, q3⟩ := pieces b k q (by omega)
      have e : Lib.splitK [b] 0 (k + 1) (p ++ b :: q) = p :: Lib.splitK [b] 0 k q := by
        rw [Lib.splitK, hi, if_neg (by simp), Int.toNat_natCast, hd, Nat.add_zero, List.take_left']
        rfl
      rw [e]
      refine ⟨by rw [List.length_cons, q1], ?_, ?_⟩
      · rcases hP : Lib.splitK [b] 0 k q with _ | ⟨a, t⟩
        · rw [hP] at q1; simp at q1
        · rw [hP] at q2
          rw [joinB_cons, q2]
      · intro x hx
        rcases List.mem_cons.1 hx with rfl | hx
        · exact hp
        · exact q3 x hx
theorem join_mem_len {b : UInt8} : ∀ {P : List (List UInt8)} {p : List UInt8}, p ∈ P → p.length ≤ (joinB b P).length
  | [], _, h => by simp at h
  | [x], p, h => by
    obtain rfl : p = x := by simpa using h
    exact Nat.le_refl _
  | x :: y :: t, p, h => by
    rw [joinB_cons, List.length_append, List.length_cons]
    rcases List.mem_cons.1 h with rfl | h
    · omega
    · have := join_mem_len (b := b) h
      omega
/-- What Split tells: the pieces, in a block of its own. -/
def SplitTo (s : List UInt8) (w : World) (e : Ending) (w' : World) : Prop :=
  Below w.heap.size w w' ∧ ∃ P, e = .returned (.slice (some ⟨w.heap.size, 0, none⟩) P.length P.length) ∧ P ≠ [] ∧ joinB 59 P = s ∧ (∀ p ∈ P, (59 : UInt8) ∉ p) ∧ ∃ cs, Whole w' w.heap.size 9 cs ∧ ∀ i, i < P.length → cs[i]? = some (.string (str (P.getD i [])))
theorem split_at (s : List UInt8) (w : World) (hg : GT w) (hs : s.length < 4294967281) :
    Calls Tryz.prog 73 #[.string (str s), .string ⟨#[59]⟩] w (SplitTo s w) := by
  obtain ⟨m, hm⟩ := hg.ml
  refine (Tryz.strings_Split (str s) ⟨#[59]⟩ m w hs hm (Nat.le_refl _)).mono ?_
  rintro e w' ⟨rfl, rfl⟩
  refine ⟨(Below.refl _ _).alloc (Nat.le_refl _) _, ?_⟩
  obtain ⟨X, hX⟩ : ∃ X, Lib.splitB ⟨#[59]⟩ 0 (Lib.countB (str s) ⟨#[59]⟩) (str s) = X := ⟨_, rfl⟩
  have hd := Lib.splitB_data ⟨#[59]⟩ 0 (Lib.countB (str s) ⟨#[59]⟩) (str s)
  obtain ⟨q1, q2, q3⟩ := pieces 59 (Lib.countB (str s) ⟨#[59]⟩) s rfl
  have hd' : X.map (·.data.toList) = Lib.splitK [59] 0 (Lib.countB (str s) ⟨#[59]⟩) s := by rw [← hX, hd]; rfl
  rw [← hd'] at q1 q2 q3
  rw [hX]
  rw [List.length_map] at q1
  refine ⟨X.map (·.data.toList), by rw [List.length_map, q1], fun e => ?_, q2, q3, _, Whole.new _ _ _, fun i hi => ?_⟩
  · have := congrArg List.length e
    rw [List.length_map, q1] at this
    simp at this
  · rw [List.length_map] at hi
    have e1 : (X.map (·.data.toList)).getD i [] = (X[i]).data.toList := by simp [List.getD, hi]
    rw [e1, str_of]
    simp [hi]
end
end Go.Proofs.YtnjkjgmnnmgngaaGreatDoor
