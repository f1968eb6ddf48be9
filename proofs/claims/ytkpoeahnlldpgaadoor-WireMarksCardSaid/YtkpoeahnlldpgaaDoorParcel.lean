/- Parcels: what Unpack says of a parcel, of one cut, longer or with one byte changed (pure); Unpack in one contract. -/
import Derived.Test.YtkpoeahnlldpgaaDoorUnpack
namespace Go.Proofs.YtkpoeahnlldpgaaDoor
open Go.RowKit

theorem unpack_any (l : List UInt8) (v : Value) (w : World) (h : BytesV w v l) (hbig : l.length ≤ 100000000) :
    Calls Tryd.prog 31 #[v] w (UnpackTells l w) := by
  rcases Nat.lt_or_ge l.length 4 with hl | hl
  · exact unpack_short l v w h hl
  · by_cases hm : l.take 4 = [70, 87, 82, 75]
    · exact unpack_good l v w h (by omega) hm hbig
    · exact unpack_mark l v w h (by omega) hm

/-! ## Numbers as bytes -/
theorem be_app (a b n : Nat) : be (a + b) n = be a (n / 256 ^ b) ++ be b n := by
  induction a with
  | zero => simp [be]
  | succ a ih =>
    rw [show a + 1 + b = (a + b) + 1 by omega]
    simp only [be, ih, List.cons_append]
    rw [Nat.pow_add, Nat.mul_comm (256 ^ a), Nat.div_div_eq_div_mul]
theorem be_snoc (m n : Nat) : be (m + 1) n = be m (n / 256) ++ [UInt8.ofNat n] := by
  have := be_app m 1 n
  simpa [be] using this
theorem num_be : ∀ (m n : Nat), num (be m n) = n % 256 ^ m
  | 0, n => by simp [be, num]; omega
  | m + 1, n => by
    rw [be_snoc, num_snoc, num_be m, Nat.pow_succ]
    have h1 : (UInt8.ofNat n).toNat = n % 256 := by simp
    rw [h1, Nat.mul_comm (256 ^ m) 256, Nat.mod_mul]
    omega
theorem be_num : ∀ (m : Nat) (l : List UInt8), l.length = m → be m (num l) = l
  | 0, l, h => by rw [List.eq_nil_of_length_eq_zero h]; rfl
  | m + 1, l, h => by
    obtain ⟨l', c, rfl⟩ : ∃ l' c, l = l' ++ [c] := ⟨l.dropLast, l.getLast (by intro e; subst e; simp at h), (List.dropLast_concat_getLast _).symm⟩
    have hc := UInt8.toNat_lt c
    rw [be_snoc, num_snoc]
    have e1 : (num l' * 256 + c.toNat) / 256 = num l' := by omega
    rw [e1, be_num m l' (by simpa using h)]
    congr 2
    apply UInt8.toNat_inj.1
    simp

/-! ## A parcel's parts -/
theorem phead_parts (k : UInt8) (l : List UInt8) : (phead k l).take 4 = [70, 87, 82, 75] ∧ (phead k l).getD 4 0 = k ∧ ((phead k l).take 9).drop 5 = be 4 l.length ∧ (phead k l).drop 9 = l := by
  have hb := be_len 4 l.length
  refine ⟨by simp [phead], by simp [phead], ?_, ?_⟩
  · have e : phead k l = ([70, 87, 82, 75, k] ++ be 4 l.length) ++ l := by simp [phead]
    rw [e, List.take_left' (by simp [hb])]
    simp
  · have e : phead k l = ([70, 87, 82, 75, k] ++ be 4 l.length) ++ l := by simp [phead]
    rw [e, List.drop_left' (by simp [hb])]
theorem take_pre (k : UInt8) (l x : List UInt8) (n : Nat) (hn : n ≤ 9) : (phead k l ++ x).take n = (phead k l).take n := by
  rw [List.take_append_of_le_length (by rw [phead_len]; omega)]
theorem getD_pre (k : UInt8) (l x : List UInt8) : (phead k l ++ x).getD 4 0 = k := by
  have := (phead_parts k l).2.1
  simp [phead]
theorem up_parcel (k : UInt8) (l : List UInt8) (hl : l.length < 4294967296) : up (parcel k l) = none := by
  obtain ⟨h1, h2, h3, h4⟩ := phead_parts k l
  have hlen := parcel_len k l
  have hph := phead_len k l
  have hs := asum_lt (phead k l)
  have e1 : (parcel k l).take ((parcel k l).length - 4) = phead k l := by
    rw [hlen, parcel, List.take_left' (by omega)]
  have e2 : (parcel k l).drop ((parcel k l).length - 4) = be 4 (asum (phead k l)) := by
    rw [hlen, parcel, List.drop_left' (by omega)]
  unfold up
  rw [e1, e2]
  unfold parcel
  rw [take_pre k l _ 4 (by omega), take_pre k l _ 9 (by omega), h1, h3, num_be, num_be]
  have e3 : l.length % 256 ^ 4 = l.length := Nat.mod_eq_of_lt (by omega)
  have e4 : asum (phead k l) % 256 ^ 4 = asum (phead k l) := Nat.mod_eq_of_lt (by omega)
  rw [e3, e4]
  have e5 : (phead k l ++ be 4 (asum (phead k l))).length = l.length + 13 := hlen
  rw [e5]
  rw [if_neg (by simp), if_neg (by omega), if_neg (by omega), if_neg (by omega), if_neg (by simp)]
theorem parcel_body (k : UInt8) (l : List UInt8) : ((parcel k l).take ((parcel k l).length - 4)).drop 9 = l := by
  have hph := phead_len k l
  rw [parcel_len, parcel, List.take_left' (by omega)]
  exact (phead_parts k l).2.2.2
theorem parcel_kind (k : UInt8) (l : List UInt8) : (parcel k l).getD 4 0 = k := getD_pre k l _

/-- What unpacks is a parcel. -/
theorem up_none {q : List UInt8} (h : up q = none) : 13 ≤ q.length ∧ q = parcel (q.getD 4 0) ((q.take (q.length - 4)).drop 9) := by
  unfold up at h
  split at h
  · cases h
  rename_i h1
  split at h
  · cases h
  rename_i h2
  split at h
  · cases h
  rename_i h3
  split at h
  · cases h
  rename_i h4
  split at h
  · cases h
  rename_i h5
  have h1' : q.take 4 = [70, 87, 82, 75] := by
    rcases Classical.em (q.take 4 = [70, 87, 82, 75]) with e | e
    · exact e
    · exact absurd (Or.inr e) h1
  have hlen : 13 ≤ q.length := by omega
  refine ⟨hlen, ?_⟩
  have hnum : num ((q.take 9).drop 5) = q.length - 13 := by omega
  have hsum : asum (q.take (q.length - 4)) = num (q.drop (q.length - 4)) := by
    rcases Classical.em (asum (q.take (q.length - 4)) = num (q.drop (q.length - 4))) with e | e
    · exact e
    · exact absurd e h5
  have hbl : ((q.take (q.length - 4)).drop 9).length = q.length - 13 := by simp; omega
  have hhead : phead (q.getD 4 0) ((q.take (q.length - 4)).drop 9) = q.take (q.length - 4) := by
    have e9 : be 4 (q.length - 13) = (q.take 9).drop 5 := by
      rw [← hnum]
      exact be_num 4 _ (by simp; omega)
    unfold phead
    rw [hbl, e9, ← h1']
    have a1 : q.take 4 ++ [q.getD 4 0] = q.take 5 := (take_snoc' q (by omega)).symm
    have a2 : q.take 5 ++ (q.take 9).drop 5 = q.take 9 := by
      have := List.take_append_drop 5 (q.take 9)
      rwa [List.take_take, show min 5 9 = 5 by omega] at this
    have a3 : q.take 9 ++ (q.take (q.length - 4)).drop 9 = q.take (q.length - 4) := by
      have := List.take_append_drop 9 (q.take (q.length - 4))
      rwa [List.take_take, show min 9 (q.length - 4) = 9 by omega] at this
    rw [a1, a2, a3]
  unfold parcel
  rw [hhead, hsum, be_num 4 _ (by simp; omega), List.take_append_drop]

theorem up_cut (k : UInt8) (l : List UInt8) (hl : l.length < 4294967296) (n : Nat) (hn : n < (parcel k l).length) : up ((parcel k l).take n) ≠ none := by
  intro h
  obtain ⟨h0, _⟩ := up_none h
  have hlen := parcel_len k l
  have hph := phead_len k l
  have hl2 : ((parcel k l).take n).length = n := by simp; omega
  rw [hl2] at h0
  unfold up at h
  rw [hl2, List.take_take, List.take_take, show min 9 n = 9 by omega, show min 4 n = 4 by omega] at h
  unfold parcel at h
  rw [take_pre k l _ 4 (by omega), take_pre k l _ 9 (by omega), (phead_parts k l).1, (phead_parts k l).2.2.1, num_be, Nat.mod_eq_of_lt (by omega)] at h
  rw [if_neg (by simp; omega), if_neg (by omega), if_pos (by omega)] at h
  cases h
theorem up_more (k : UInt8) (l : List UInt8) (hl : l.length < 4294967296) (c : UInt8) : up (parcel k l ++ [c]) = some 2 := by
  have hlen := parcel_len k l
  have hl2 : (parcel k l ++ [c]).length = l.length + 14 := by simp [hlen]
  unfold up
  rw [hl2]
  unfold parcel
  rw [List.append_assoc, take_pre k l _ 4 (by omega), take_pre k l _ 9 (by omega), (phead_parts k l).1, (phead_parts k l).2.2.1, num_be, Nat.mod_eq_of_lt (by omega)]
  rw [if_neg (by simp), if_neg (by omega), if_neg (by omega), if_pos (by omega)]

/-! ## One byte changed -/
def bsum (l : List UInt8) : Nat := l.foldl (fun n c => n + c.toNat) 0
theorem bsum_snoc (l : List UInt8) (c : UInt8) : bsum (l ++ [c]) = bsum l + c.toNat := by simp [bsum]
theorem halves_fst : ∀ (n : Nat) (l : List UInt8), l.length = n → (halves l).1 = (1 + bsum l) % 65521
  | 0, l, h => by
    have : l = [] := List.eq_nil_of_length_eq_zero h
    subst this
    simp [halves, bsum]
  | n + 1, l, h => by
    obtain ⟨l', c, rfl⟩ : ∃ l' c, l = l' ++ [c] := ⟨l.dropLast, l.getLast (by intro e; subst e; simp at h), (List.dropLast_concat_getLast _).symm⟩
    rw [halves_snoc, bsum_snoc, halves_fst n l' (by simpa using h)]
    simp only
    omega
theorem bsum_app (a b : List UInt8) : bsum (a ++ b) = bsum a + bsum b := by
  have : ∀ (b : List UInt8) (s : Nat), b.foldl (fun n c => n + c.toNat) s = s + b.foldl (fun n c => n + c.toNat) 0 := by
    intro b
    induction b with
    | nil => intro s; simp
    | cons x b ih =>
      intro s
      simp only [List.foldl_cons]
      rw [ih (s + x.toNat), ih (0 + x.toNat)]
      omega
  unfold bsum
  rw [List.foldl_append, this]
theorem bsum_set (l : List UInt8) (n : Nat) (c : UInt8) (hn : n < l.length) : bsum (l.set n c) + (l.getD n 0).toNat = bsum l + c.toNat := by
  have e1 : l.set n c = l.take n ++ ([c] ++ l.drop (n + 1)) := by rw [List.set_eq_take_append_cons_drop, if_pos hn]; rfl
  have e2 : l = l.take n ++ ([l.getD n 0] ++ l.drop (n + 1)) := by
    have := List.take_append_drop (n + 1) l
    rw [take_snoc' l hn, List.append_assoc] at this
    exact this.symm
  have h1 := bsum_app (l.take n) ([c] ++ l.drop (n + 1))
  have h2 := bsum_app (l.take n) ([l.getD n 0] ++ l.drop (n + 1))
  have h3 := bsum_app [c] (l.drop (n + 1))
  have h4 := bsum_app [l.getD n 0] (l.drop (n + 1))
  have h5 : bsum [c] = c.toNat := by simp [bsum]
  have h6 : bsum [l.getD n 0] = (l.getD n 0).toNat := by simp [bsum]
  rw [e1]
  rw [← e2] at h2
  omega
theorem asum_mod (l : List UInt8) : asum l % 65536 = (1 + bsum l) % 65521 := by
  have := halves_lt _ l rfl
  rw [← halves_fst _ l rfl]
  unfold asum
  omega
theorem asum_set (l : List UInt8) (n : Nat) (c : UInt8) (hn : n < l.length) (hc : c ≠ l.getD n 0) : asum (l.set n c) ≠ asum l := by
  intro h
  have h1 := asum_mod l
  rw [← h, asum_mod] at h1
  have h2 := bsum_set l n c hn
  have h3 := UInt8.toNat_lt c
  have h4 := UInt8.toNat_lt (l.getD n 0)
  have h5 : c.toNat ≠ (l.getD n 0).toNat := fun e => hc (UInt8.toNat_inj.1 e)
  omega
theorem up_set (k : UInt8) (l : List UInt8) (hl : l.length < 4294967296) (n : Nat) (c : UInt8) (hn : n < (parcel k l).length) (hc : c ≠ (parcel k l).getD n 0) : up ((parcel k l).set n c) ≠ none := by
  have hu := up_parcel k l hl
  revert hn hc hu
  generalize parcel k l = p
  intro hn hc hu h
  have sums : ∀ q : List UInt8, up q = none → asum (q.take (q.length - 4)) = num (q.drop (q.length - 4)) ∧ 13 ≤ q.length := by
    intro q hq
    refine ⟨?_, (up_none hq).1⟩
    have h0 := (up_none hq).1
    unfold up at hq
    split at hq
    · cases hq
    split at hq
    · cases hq
    split at hq
    · cases hq
    split at hq
    · cases hq
    split at hq
    · cases hq
    rename_i h5
    exact Classical.not_not.1 h5
  obtain ⟨s1, l1⟩ := sums p hu
  obtain ⟨s2, _⟩ := sums _ h
  rw [List.length_set] at s2
  rcases Nat.lt_or_ge n (p.length - 4) with hlt | hge
  · rw [List.drop_set_of_lt hlt, ← s1, List.take_set] at s2
    refine asum_set _ n c (by simp; omega) ?_ s2
    have : (p.take (p.length - 4)).getD n 0 = p.getD n 0 := by simp only [List.getD]; rw [List.getElem?_take_of_lt hlt]
    rw [this]
    exact hc
  · rw [List.take_set_of_le hge, s1] at s2
    have e1 := be_num 4 (p.drop (p.length - 4)) (by simp; omega)
    have e2 := be_num 4 ((p.set n c).drop (p.length - 4)) (by simp; omega)
    rw [← s2, e1] at e2
    have e3 : (p.drop (p.length - 4))[n - (p.length - 4)]? = ((p.set n c).drop (p.length - 4))[n - (p.length - 4)]? := by rw [← e2]
    rw [List.getElem?_drop, List.getElem?_drop, show p.length - 4 + (n - (p.length - 4)) = n by omega, List.getElem?_set_self hn] at e3
    exact hc (by simp [List.getD, e3])
theorem xor_ne (a b : UInt8) (hb : b ≠ 0) : a ^^^ b ≠ a := by
  intro h
  apply hb
  have : a ^^^ (a ^^^ b) = a ^^^ a := by rw [h]
  rw [← UInt8.xor_assoc, UInt8.xor_self, UInt8.zero_xor] at this
  exact this
end Go.Proofs.YtkpoeahnlldpgaaDoor
