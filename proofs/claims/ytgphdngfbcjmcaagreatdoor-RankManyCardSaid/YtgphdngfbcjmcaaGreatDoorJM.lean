/- RankMany: how many paths there may be: pure part; what nobody answers. RankMany: the walk. -/
import Derived.Test.YtgphdngfbcjmcaaGreatDoorJK
import Derived.Test.YtgphdngfbcjmcaaGreatDoorCount14
import Derived.Test.YtgphdngfbcjmcaaGreatDoorJS
import Derived.Test.YtgphdngfbcjmcaaGreatDoorJB
import Derived.Test.YtgphdngfbcjmcaaGreatDoorRange
import Derived.Deep.DeepCutAuto
namespace Go.Proofs.YtgphdngfbcjmcaaGreatDoor
section
open Go.RowKit

/-- Two numbers in turn. -/
def altL (n : Nat) (a b : Int) : List Int := (List.range n).map fun i => if i % 2 = 1 then b else a
theorem alt_len (n : Nat) (a b : Int) : (altL n a b).length = n := by simp [altL]
theorem alt_at {n i : Nat} (h : i < n) (a b : Int) : (altL n a b).getD i 0 = if i % 2 = 1 then b else a := by simp [altL, List.getD, h]
/-- Lists of two numbers in turn, of which there are few. -/
def ManyC (W n : Nat) (C : List (List Int)) : Prop := ∀ l ∈ C, ∃ a b : Nat, a < W ∧ b < W ∧ a * W + b < 600 ∧ l = altL n a b
theorem rising_few {L : List Int} (hr : Rising L) {N : Nat} (h : ∀ x ∈ L, 0 ≤ x ∧ x < N) : L.length ≤ N := by
  have key : ∀ (M : Nat) (K : List Int), Rising K → (∀ x ∈ K, (M : Int) ≤ x ∧ x < N) → M ≤ N → K.length + M ≤ N := by
    intro M K
    induction K generalizing M with
    | nil => intro _ _ hM; simpa using hM
    | cons a t ih =>
      intro hr h hM
      obtain ⟨h1, h2⟩ := List.pairwise_cons.1 hr
      have ha := h a (List.mem_cons_self ..)
      have := ih (M + 1) h2 (fun x hx => ⟨by have := h1 x hx; omega, (h x (List.mem_cons_of_mem _ hx)).2⟩) (by omega)
      rw [List.length_cons]
      omega
  have := key 0 L hr (fun x hx => by have := h x hx; omega) (Nat.zero_le _)
  omega
theorem div_few {a W : Nat} (hW : 2 ≤ W) (h : a * W < 600) : a < 599 / W + 1 := by
  have : a ≤ 599 / W := (Nat.le_div_iff_mul_le (by omega)).2 (by omega)
  omega
theorem link_few {W n : Nat} {C : List (List Int)} (hC : ManyC W n C) (hW : 2 ≤ W) {i : Nat} (hi : i + 1 < n) (x : Int) : (linkP C i x).length ≤ if i % 2 = 1 then 599 / W + 1 else W := by
  refine rising_few (link_rising C i x) fun y hy => ?_
  obtain ⟨l, hl, _, h2⟩ := link_mem.1 hy
  obtain ⟨a, b, h3, h4, h5, rfl⟩ := hC l hl
  rw [alt_at hi] at h2
  by_cases ho : i % 2 = 1
  · rw [if_neg (by omega)] at h2
    rw [if_pos ho]
    have := div_few hW (show a * W < 600 by omega)
    omega
  · rw [if_pos (by omega)] at h2
    rw [if_neg ho]
    omega
theorem wh_few {W : Nat} (hW : 2 ≤ W) (h3 : W ≤ 301) : W * (599 / W + 1) ≤ 901 ∧ 599 / W + 1 ≤ 301 := by
  have h1 := Nat.mul_div_le 599 W
  have h2 : 599 / W ≤ 599 / 2 := Nat.div_le_div_left hW (by omega)
  rw [Nat.mul_add]
  omega
theorem cnt_few {W n : Nat} {C : List (List Int)} (hC : ManyC W n C) (hW : 2 ≤ W) (h3 : W ≤ 301) : ∀ (r i : Nat) (x : Int), r + i + 1 ≤ n → cntP C r i x ≤ 901 ^ (r / 2) * 301
  | 0, _, _, _ => by simp [cntP]
  | 1, i, x, h => by
    have h1 := link_few hC hW (show i + 1 < n by omega) x
    have h2 := (wh_few hW h3).2
    have h4 := sum_le_mul (cntP C 0 (i + 1)) 1 (linkP C i x) fun y _ => by simp [cntP]
    rw [cntP]
    simp only [Nat.reduceDiv, Nat.pow_zero, Nat.one_mul]
    split at h1 <;> omega
  | r + 2, i, x, h => by
    have h1 := link_few hC hW (show i + 1 < n by omega) x
    have hin : ∀ y ∈ linkP C i x, cntP C (r + 1) (i + 1) y ≤ (if (i + 1) % 2 = 1 then 599 / W + 1 else W) * (901 ^ (r / 2) * 301) := fun y _ => by
      have h4 := sum_le_mul (cntP C r (i + 1 + 1)) (901 ^ (r / 2) * 301) (linkP C (i + 1) y) fun z _ => cnt_few hC hW h3 r (i + 1 + 1) z (by omega)
      have h5 := link_few hC hW (show i + 1 + 1 < n by omega) y
      exact Nat.le_trans h4 (Nat.mul_le_mul_right _ h5)
    have h6 := sum_le_mul (cntP C (r + 1) (i + 1)) _ (linkP C i x) hin
    have h7 := (wh_few hW h3).1
    rw [cntP]
    refine Nat.le_trans h6 (Nat.le_trans (Nat.mul_le_mul_right _ h1) ?_)
    rw [show (r + 2) / 2 = r / 2 + 1 by omega, Nat.pow_succ, Nat.mul_comm (901 ^ (r / 2)) 901, Nat.mul_assoc, ← Nat.mul_assoc]
    refine Nat.mul_le_mul_right _ ?_
    by_cases ho : i % 2 = 1
    · rw [if_pos ho, if_neg (by omega), Nat.mul_comm]; exact h7
    · rw [if_neg ho, if_pos (by omega)]; exact h7
theorem cnt_few7 {W n : Nat} {C : List (List Int)} (hC : ManyC W n C) (hW : 2 ≤ W) (h3 : W ≤ 301) (hn : n ≤ 8) (r i : Nat) (x : Int) (h : r + i + 1 ≤ n) : cntP C r i x ≤ 1000000000000 := by
  have h1 := cnt_few hC hW h3 r i x h
  have h2 : 901 ^ (r / 2) ≤ 901 ^ 3 := Nat.pow_le_pow_right (by omega) (by omega)
  exact Nat.le_trans h1 (Nat.le_trans (Nat.mul_le_mul_right _ h2) (by decide))
theorem tot_few {W n : Nat} {C : List (List Int)} (hC : ManyC W n C) (hW : 2 ≤ W) (h3 : W ≤ 301) (hn : n ≤ 8) (hn1 : 1 ≤ n) (hl : C.length ≤ 600) : totP n C ≤ 1000000000000000 := by
  have h1 := sum_le_mul (cntP C (n - 1) 0) 1000000000000 (rowP C 0) fun x _ => cnt_few7 hC hW h3 hn (n - 1) 0 x (by omega)
  have h2 := row_len C 0
  exact Nat.le_trans h1 (Nat.le_trans (Nat.mul_le_mul_right _ (Nat.le_trans h2 hl)) (by decide))
theorem tot_some {n : Nat} {C : List (List Int)} (h : C ≠ []) : 0 < totP n C := by
  obtain ⟨l, hl⟩ := List.exists_mem_of_ne_nil C h
  have ha : l.getD 0 0 ∈ rowP C 0 := row_mem.2 ⟨l, hl, rfl⟩
  exact sum_pos _ ha (cnt_pos C (n - 1) 0 _ ha)

theorem At_nil (i : Int) (w : World) : Calls Tryz.prog 13 #[.pointer none, .int .i64 i] w fun e w' => ∃ f, e = .returned (.tuple #[.slice none 0 0, f]) ∧ FaultV w' f 10 ∧ Below w.heap.size w w' := by
  go_enter Tryz.func13, Tryz.ntmps13
  go_wp2_with (go_at_call 23; refine (new_any _ _ _ _).mono ?_; rintro e w' ⟨rfl, rfl⟩)
  go_ret2
  exact ⟨_, rfl, fault_new _ _ _ _, (Below.refl _ _).alloc (Nat.le_refl _) _⟩
theorem Rank_nil (v : Value) (w : World) : Calls Tryz.prog 14 #[.pointer none, v] w fun e w' => ∃ f, e = .returned (.tuple #[.int .i64 0, f]) ∧ FaultV w' f 10 ∧ Below w.heap.size w w' := by
  go_enter Tryz.func14, Tryz.ntmps14
  go_wp2_with (go_at_call 23; refine (new_any _ _ _ _).mono ?_; rintro e w' ⟨rfl, rfl⟩)
  go_ret2
  exact ⟨_, rfl, fault_new _ _ _ _, (Below.refl _ _).alloc (Nat.le_refl _) _⟩
theorem rankOf_nil (w : World) : Calls Tryz.prog 10 #[.pointer none] w fun e w' => ∃ f, e = .returned (.tuple #[.pointer none, f]) ∧ FaultV w' f 10 ∧ Below w.heap.size w w' := by
  go_enter Tryz.func10, Tryz.ntmps10
  go_wp2_with (go_at_call 23; refine (new_any _ _ _ _).mono ?_; rintro e w' ⟨rfl, rfl⟩)
  go_ret2
  exact ⟨_, rfl, fault_new _ _ _ _, (Below.refl _ _).alloc (Nat.le_refl _) _⟩
end

section
open Go.RowKit

/-- Numbers in a block of their own, the first t of them laid. -/
def NumsI (wo : World) (g : Nat) (L : List Int) (t : Nat) (wr : World) : Prop :=
  (∃ cs : Array Value, Whole wr g 3 cs ∧ cs.size = L.length ∧ ∀ s, s < t → cs[s]? = some (.int .i64 (L.getD s 0))) ∧ Below wo.heap.size wo wr ∧ wo.heap.size ≤ g
theorem NumsI.below {wo wr w' : World} {g t : Nat} {L : List Int} (h : NumsI wo g L t wr) (hb : Below wr.heap.size wr w') : NumsI wo g L t w' := by
  obtain ⟨⟨cs, h1, h2, h3⟩, h4, h5⟩ := h
  exact ⟨⟨cs, h1.below hb h1.lt, h2, h3⟩, h4.trans (hb.mono h4.size), h5⟩
theorem NumsI.put {wo wr : World} {g t : Nat} {L : List Int} {x : Int} (h : NumsI wo g L t wr) (ht : t < L.length) (hx : L.getD t 0 = x) : NumsI wo g L (t + 1) (wr.setCell ⟨g, t, none⟩ (.int .i64 x)) := by
  obtain ⟨⟨cs, h1, h2, h3⟩, h4, h5⟩ := h
  refine ⟨⟨_, h1.put t _, by simp [h2], fun s hs => ?_⟩, h4.setCell h5 _, h5⟩
  rw [Array.getElem?_setIfInBounds]
  by_cases hts : t = s
  · subst hts
    rw [if_pos rfl, if_pos (by omega), hx]
  · rw [if_neg hts]; exact h3 s (by omega)
theorem NumsI.cell {wo wr : World} {g t s : Nat} {L : List Int} (h : NumsI wo g L t wr) (hs : s < L.length) : (∃ z, wr.cell? ⟨g, s, none⟩ = some z) ∧ wr.frozen? ⟨g, s, none⟩ = false := by
  obtain ⟨⟨cs, h1, h2, _⟩, _⟩ := h
  exact ⟨⟨_, by rw [h1.cell s]; exact Array.getElem?_eq_getElem (by omega)⟩, h1.free s⟩
theorem numsI_made (w : World) (L : List Int) (m : Nat) (hm : L.length = m) : NumsI w w.heap.size L 0 (w.alloc (.cells (madeCells #[.int .i64 0] m) 3)) :=
  ⟨⟨_, Whole.new _ _ _, by rw [size_madeCells, hm], fun s hs => absurd hs (Nat.not_lt_zero _)⟩, (Below.refl _ _).alloc (Nat.le_refl _) _, Nat.le_refl _⟩

theorem NumsI.put2 {wo wr : World} {g t : Nat} {L : List Int} {x y : Int} (h : NumsI wo g L t wr) (ht : t < L.length) (hx : L.getD t 0 = x) : NumsI wo g L (t + 1) ((wr.setCell ⟨g, t, none⟩ (.int .i64 y)).setCell ⟨g, t, none⟩ (.int .i64 x)) := by
  obtain ⟨⟨cs, h1, h2, h3⟩, h4, h5⟩ := h
  refine ⟨⟨_, (h1.put t _).put t _, by simp [h2], fun s hs => ?_⟩, (h4.setCell h5 _).setCell h5 _, h5⟩
  rw [Array.getElem?_setIfInBounds]
  by_cases hts : t = s
  · subst hts
    rw [if_pos rfl, if_pos (by simp; omega), hx]
  · rw [if_neg hts, Array.getElem?_setIfInBounds, if_neg hts]; exact h3 s (by omega)
theorem NumsI.own {wo wr : World} {g base : Nat} {L : List Int} (h : NumsI wo g L L.length wr) (hb : base ≤ g) (hL : L.length ≤ 1000000) : wr.ownsRow base 3 1 (.slice (some ⟨g, 0, none⟩) L.length L.length) L.length (intCells L) := by
  obtain ⟨⟨cs, h1, h2, h3⟩, _⟩ := h
  have e : cs = (intCells L).toArray := by
    apply Array.ext_getElem?
    intro i
    by_cases hi : i < L.length
    · rw [h3 i hi]; simp [intCells, hi, List.getD]
    · rw [Array.getElem?_eq_none (by omega), Array.getElem?_eq_none (by simp [intCells]; omega)]
  subst e
  refine ⟨by simp [intCells], Or.inr ⟨g, L.length, _, rfl, hb, h1, Nat.le_refl _, by unfold maxLen; omega, by simp [intCells], ?_⟩⟩
  rw [List.toList_toArray, List.take_of_length_le (by simp [intCells])]
theorem many_snoc {W n : Nat} {C : List (List Int)} (h : ManyC W n C) {a b : Nat} (ha : a < W) (hb : b < W) (hq : a * W + b < 600) : ManyC W n (C ++ [altL n a b]) := fun l hl => by
  rcases List.mem_append.1 hl with hl | hl
  · exact h l hl
  · exact ⟨a, b, ha, hb, hq, List.mem_singleton.1 hl⟩

set_option maxRecDepth 100000 in
set_option maxHeartbeats 16000000 in
theorem many_law (u n x : Nat) (w : World) (hg : ErrT w) (hu : u < 256) (hn : n < 256) (hx : x < 18446744073709551616) :
    Calls Tryz.prog 5 #[.int .u8 u, .int .u8 n, .int .u64 x] w fun e w' => e = .returned (.bool true) ∧ Below w.heap.size w w' := by
  obtain ⟨j1, hi1, ky0, ky1, ky2⟩ := info_parts Tryz.infoRow
  obtain ⟨w1, hw1⟩ : ∃ W, w.alloc (.cells #[.bool false] 4) = W := ⟨_, rfl⟩
  have hb0 : Below w.heap.size w w1 := by rw [← hw1]; exact (Below.refl _ _).alloc (Nat.le_refl _) _
  have hR1 : Whole w1 w.heap.size 4 #[.bool false] := by rw [← hw1]; exact Whole.new _ _ _
  have HG := Lib.hid (hg.below hb0 (Nat.le_refl _)); have HB0 := Lib.hid hb0; have HR := Lib.hid hR1; have HW1 := Lib.hid hw1
  clear hg hb0 hR1 hw1
  obtain ⟨M, hM⟩ : ∃ M, u % 300 = M := ⟨_, rfl⟩
  have hM300 : M < 256 := by omega
  have hMI : (u : Int) % 300 = (M : Int) := by omega
  obtain ⟨K, hK⟩ : ∃ K, n % 8 = K := ⟨_, rfl⟩
  have hK8 : K < 8 := by omega
  have hKI : (n : Int) % 8 = (K : Int) := by omega
  clear hM hK
  refine (callsIn_wide (n := 6)).1 ?_
  refine callsIn_of_wp_marks Tryz.func5 rfl trivial ?_ rfl
  simp only [Tryz.ntmps5, List.size_toArray, List.length_cons, List.length_nil, Nat.reduceAdd, Nat.reduceSub, Array.replicate_succ, Array.replicate_zero, List.push_toArray, List.append_toArray, List.nil_append, List.cons_append]
  refine wpIn_wide.2 ?_
  go_wp2_with fail
  rw [HW1.out]
  refine (alive_ok w1 HG.out).mono ?_; rintro e w2 ⟨rfl, hb2⟩
  have HG2 := Lib.hid (HG.out.below hb2 (Nat.le_refl _))
  have HB2 := Lib.hid hb2
  clear hb2 HW1
  go_upto_region 5 with fail
  obtain ⟨W, hW⟩ : ∃ W, M + 2 = W := ⟨_, rfl⟩
  obtain ⟨N, hN⟩ : ∃ N, K + 1 = N := ⟨_, rfl⟩
  rw [show (2 : Int) + (M : Int) = ((M + 2 : Nat) : Int) by omega, hW, show (1 : Int) + (K : Int) = ((K + 1 : Nat) : Int) by omega, hN]
  have HWN : Hid (2 ≤ W ∧ W ≤ 301 ∧ 1 ≤ N ∧ N ≤ 8) := Lib.hid (by omega)
  have w3 : (W : Int) ≤ 301 := by omega
  have w4 : (2 : Int) ≤ W := by omega
  have n3 : (N : Int) ≤ 8 := by omega
  have n4 : (1 : Int) ≤ N := by omega
  clear hW hN hM300 hMI hK8 hKI
  go_wp2_with fail
  go_loopg [9, 10] W (fun gh x y wr => ∃ a C, a ≤ W ∧ gh = W - a ∧ y = .int .i64 (a : Nat) ∧ RowsOwn wr w2.heap.size x C ∧ ManyC W N C ∧ C.length ≤ 600 ∧ C.length ≤ a * W ∧ (a = 0 ∨ C ≠ []) ∧ Below w2.heap.size w2 wr)
  case atStart => exact ⟨0, [], Nat.zero_le _, rfl, rfl, RowsOwn.nil _ _, fun l hl => by simp at hl, Nat.zero_le _, Nat.zero_le _, Or.inl rfl, Below.refl _ _⟩
  case round =>
    obtain ⟨a, C, ha, rfl, rfl, hown, hmany, hl6, hla, hne, hb⟩ := hrel
    obtain ⟨Ac, cc, rfl⟩ := hown.form
    have HMANY := Lib.hid hmany; have HOWN := Lib.hid hown; have HB := Lib.hid hb
    by_cases haW : a < W
    · have t1 : decide (a < W) = true := decide_eq_true haW
      have a1 : (a : Int) < W := by omega
      have a2 : (0 : Int) ≤ a := by omega
      have HAW := Lib.hid haW
      have HLA := Lib.hid hla; have HNE := Lib.hid hne
      obtain ⟨q, hq⟩ : ∃ q, a * W = q := ⟨_, rfl⟩
      have hqI : (a : Int) * (W : Int) = (q : Int) := by rw [← hq]; simp
      have hqb : q ≤ 100000 := by
        have := Nat.mul_le_mul (show a ≤ 301 by omega) (show W ≤ 301 by have := HWN.out; omega)
        omega
      have HQ := Lib.hid hq
      have q1 : (q : Int) ≤ 100000 := by omega
      have q2 : (0 : Int) ≤ q := by omega
      clear hown hmany hb haW hla hne hq
      go_wp2_with fail
      go_loopg [9, 11] W (fun gh x y wr => ∃ b C, b ≤ W ∧ gh = W - b ∧ y = .int .i64 (b : Nat) ∧ RowsOwn wr w2.heap.size x C ∧ ManyC W N C ∧ C.length ≤ 600 ∧ C.length ≤ q + b ∧ ((a = 0 ∧ b = 0) ∨ C ≠ []) ∧ Below w2.heap.size w2 wr)
      case atStart => exact ⟨0, C, Nat.zero_le _, rfl, rfl, HOWN.out, HMANY.out, hl6, by rw [← HQ.out]; exact HLA.out, by rcases HNE.out with h | h; exact Or.inl ⟨h, rfl⟩; exact Or.inr h, HB.out⟩
      case round =>
        obtain ⟨b, C2, hbW, rfl, rfl, hown, hmany, hl6, hla, hne, hb⟩ := hrel
        obtain ⟨Ad, cd, rfl⟩ := hown.form
        have HMANY2 := Lib.hid hmany; have HOWN2 := Lib.hid hown; have HBX := Lib.hid hb; have HLA2 := Lib.hid hla; have HNE2 := Lib.hid hne
        have b2' : (0 : Int) ≤ b := by omega
        by_cases hlt : b < W
        · have t2 : decide (b < W) = true := decide_eq_true hlt
          have b1' : (b : Int) < W := by omega
          by_cases h600 : q + b < 600
          · have t3 : decide ((600 : Int) ≤ (q : Int) + b) = false := decide_eq_false (by omega)
            have hmk := fun V => run_ints N (by have := HWN.out; omega) V
            have hAl : (altL N a b).length = N := alt_len N a b
            obtain ⟨wa, hwa⟩ : ∃ V, wr.alloc (.cells (madeCells #[.int .i64 0] N) 3) = V := ⟨_, rfl⟩
            have hNa : NumsI wr wr.heap.size (altL N a b) 0 wa := by rw [← hwa]; exact numsI_made _ _ _ hAl
            have HWA := Lib.hid hwa; have HNA := Lib.hid hNa; have HAL := Lib.hid hAl; have HLT := Lib.hid hlt; have H6 := Lib.hid h600
            have hs2 := hb.size
            clear hown hmany hb hla hne hlt h600 hwa hNa hAl
            go_upto_region 14 with fail
            rw [HWA.out]
            clear hmk
            obtain ⟨wi, hwi⟩ : ∃ x, x = wr := ⟨_, rfl⟩
            subst hwi
            go_wp2_with fail
            go_loopg [13] N (fun gh y wt => ∃ i, i ≤ N ∧ gh = N - i ∧ y = .int .i64 (i : Nat) ∧ NumsI wi wi.heap.size (altL N a b) i wt)
            case atStart => exact ⟨0, Nat.zero_le _, rfl, rfl, HNA.out⟩
            case round =>
              obtain ⟨i, hi, rfl, rfl, hN⟩ := hrel
              by_cases hiN : i < N
              · obtain ⟨⟨z, hz⟩, hf⟩ := hN.cell (s := i) (by rw [HAL.out]; exact hiN)
                have hval := alt_at hiN a b
                have t4 : decide (i < N) = true := decide_eq_true hiN
                have i1 : (i : Int) < N := by omega
                have i2 : (0 : Int) ≤ i := by omega
                have HIN := Lib.hid hiN
                by_cases ho : i % 2 = 1
                · have t5 : (i : Int) % 2 = 1 := by omega
                  rw [if_pos ho] at hval
                  have HP := Lib.hid (hN.put2 (y := a) (by rw [HAL.out]; exact hiN) hval)
                  clear hN hiN hval ho
                  go_wp2_with fail
                  go_roundg (N - (i + 1))
                  case rel => exact ⟨i + 1, HIN.out, rfl, by go_num, HP.out⟩
                  case measure => have := HIN.out; omega
                · have t5 : (i : Int) % 2 = 0 := by omega
                  rw [if_neg ho] at hval
                  have HP := Lib.hid (hN.put (by rw [HAL.out]; exact hiN) hval)
                  clear hN hiN hval ho
                  go_wp2_with fail
                  go_roundg (N - (i + 1))
                  case rel => exact ⟨i + 1, HIN.out, rfl, by go_num, HP.out⟩
                  case measure => have := HIN.out; omega
              · obtain rfl : i = N := by omega
                have t4 : decide (i < i) = false := by simp
                have hbw := hN.2.1
                have hNf : NumsI wi wi.heap.size (altL i a b) (altL i a b).length wr := by rw [HAL.out]; exact hN
                have hown3 := hNf.own hs2 (by rw [HAL.out]; have := HWN.out; omega)
                have hs3 := hbw.size
                obtain ⟨us, hus, hrs⟩ := HOWN2.out.below hbw (Nat.le_refl _)
                obtain ⟨z, hz⟩ : ∃ z, C2.length = z := ⟨_, rfl⟩
                rw [hz] at hus hl6 ⊢
                have HUS := Lib.hid hus; have HRS := Lib.hid hrs; have HO3 := Lib.hid hown3; have HZ := Lib.hid hz
                have HBW := Lib.hid (HBX.out.trans (hbw.mono hs2))
                have hs4 : w2.heap.size ≤ wr.heap.size := Nat.le_trans hs2 hs3
                clear hN hbw hNf hown3 hus hrs hiN hz
                go_wp2_with (at_builtin; refine wpList_app1g _ rfl _ _ 22 rfl w2.heap.size 23 j1 (.slice none 0 0) 24 Tryz.underlying22 hi1 ky0 ky1 ky2 rfl _ z _ rfl HUS.out _ rfl rfl (by omega) (by omega) hs4 ?_)
                intro A7 c7 w7 hown7 hgrow7
                have hb7 := hgrow7.below HUS.out HBW.out (Nat.le_refl _) hs4
                have hro : RowsOwn w7 w2.heap.size (.slice A7 (z + 1) c7) (C2 ++ [altL i a b]) := RowsOwn.more (by rw [HZ.out]; exact HUS.out) HRS.out (by have := HO3.out; rw [HAL.out] at this ⊢; exact this) (by rw [HZ.out]; exact hown7) hgrow7
                have HRO := Lib.hid hro; have HB7 := Lib.hid hb7
                have HMN := Lib.hid (many_snoc HMANY2.out HAW.out HLT.out (by rw [HQ.out]; exact H6.out))
                have HL7 : Hid ((C2 ++ [altL i a b]).length ≤ 600 ∧ (C2 ++ [altL i a b]).length ≤ q + (b + 1)) := Lib.hid (by
                  have h1 := HLA2.out; have h2 := H6.out
                  rw [List.length_append]; simp; omega)
                clear hown7 hgrow7 hb7 hro
                go_wp2_with fail
                go_roundg (W - (b + 1))
                case rel => exact ⟨b + 1, _, HLT.out, rfl, by go_num, HRO.out, HMN.out, HL7.out.1, HL7.out.2, Or.inr (by simp), HB7.out⟩
                case measure => have := HLT.out; omega
          · have t3 : decide ((600 : Int) ≤ (q : Int) + b) = true := decide_eq_true (by omega)
            have HBN : Hid (C2 ≠ []) := Lib.hid (by
              rcases hne with ⟨h1, h2⟩ | h
              · subst h1 h2
                rw [Nat.zero_mul] at HQ
                have := HQ.out
                omega
              · exact h)
            have HLL : Hid (C2.length ≤ (a + 1) * W) := Lib.hid (by rw [Nat.add_mul, HQ.out]; omega)
            clear hown hmany hb hla hne hlt h600
            go_wp2_with fail
            go_roundg (W - (a + 1))
            case rel => exact ⟨a + 1, C2, HAW.out, rfl, by go_num, HOWN2.out, HMANY2.out, hl6, HLL.out, Or.inr HBN.out, HBX.out⟩
            case measure => have := HAW.out; omega
        · obtain rfl : b = W := by omega
          have t2 : decide (b < b) = false := by simp
          have HBN : Hid (C2 ≠ []) := Lib.hid (by
            rcases hne with ⟨_, h2⟩ | h
            · have := HWN.out; omega
            · exact h)
          have HLL : Hid (C2.length ≤ (a + 1) * b) := Lib.hid (by rw [Nat.add_mul, HQ.out]; omega)
          clear hown hmany hb hla hne hlt
          go_wp2_with fail
          go_roundg (b - (a + 1))
          case rel => exact ⟨a + 1, C2, HAW.out, rfl, by go_num, HOWN2.out, HMANY2.out, hl6, HLL.out, Or.inr HBN.out, HBX.out⟩
          case measure => have := HAW.out; omega
    · obtain rfl : a = W := by omega
      have t1 : decide (a < a) = false := by simp
      obtain ⟨hw2, hw3', hn1, hn8⟩ := HWN.out
      have hCne : C ≠ [] := by
        rcases hne with h | h
        · omega
        · exact h
      have hlen : ∀ l ∈ C, l.length = N := fun l hl => by
        obtain ⟨p, q, _, _, _, rfl⟩ := hmany l hl
        exact alt_len _ _ _
      have hrng : ∀ l ∈ C, ∀ y ∈ l, 0 ≤ y ∧ y ≤ 2147483647 := fun l hl y hy => by
        obtain ⟨p, q, hp, hq, _, rfl⟩ := hmany l hl
        simp only [altL, List.mem_map, List.mem_range] at hy
        obtain ⟨i, _, rfl⟩ := hy
        split <;> omega
      have OF := Lib.hid (of_any N C _ wr hn1 hn8 hown.lists (by omega) hlen hrng)
      have HBD := Lib.hid (show ∀ r i y, r + i + 1 = N → y ∈ rowP C i → cntP C r i y ≤ 9223372036854775807 from fun r i y e _ => Nat.le_trans (cnt_few7 hmany hw2 hw3' hn8 r i y (by omega)) (by decide))
      have htot := tot_few hmany hw2 hw3' hn8 hn1 hl6
      have hpos := tot_some (n := N) hCne
      have HT3 := Lib.hid (show totP N C ≤ 9223372036854775807 by omega)
      obtain ⟨tot, ht⟩ : ∃ t, totP N C = t := ⟨_, rfl⟩
      rw [ht] at htot hpos
      have HTT := Lib.hid ht
      have HN := Lib.hid (And.intro hn1 (And.intro hn8 hl6))
      obtain ⟨kk, hkk⟩ : ∃ k, x % tot = k := ⟨_, rfl⟩
      have hkl : kk < tot := by rw [← hkk]; exact Nat.mod_lt _ hpos
      have hk1 : (x : Int) % (tot : Int) = (kk : Int) := by rw [← hkk]; simp
      have hk2 : Int.tmod (x : Int) (tot : Int) = (kk : Int) := by rw [Int.tmod_eq_emod_of_nonneg (by omega)]; exact hk1
      have p0 : (0 : Int) < tot := by omega
      have p1 : (tot : Int) ≤ 1000000000000000 := by omega
      have p2 : (0 : Int) ≤ kk := by omega
      have p3 : (kk : Int) < tot := by omega
      have tz : ((tot : Int) == 0) = false := by simp; omega
      have tz' : (tot == 0) = false := by simp; omega
      have dt : ((tot : Int) != tot) = false := by simp
      have dk : ((kk : Int) == kk) = true := by simp
      have dN : ((N : Int) == N) = true := by simp
      clear hown hmany hl6 hla hne hb haW hCne hlen hrng ht htot hkk HMANY HOWN
      go_wp2_with fail
      refine OF.out.mono ?_; rintro e w3 ⟨p, rfl, ho, hb3⟩
      have HO := Lib.hid (show OdagC w3 p N C from ho)
      have HB3 := Lib.hid (HB.out.trans (hb3.mono HB.out.size))
      obtain ⟨ob, _, _, rfl, _⟩ := ho
      have RO := Lib.hid (rankOf_any HO.out HN.out.1 HN.out.2.1 (by have := HN.out.2.2; omega) HBD.out HT3.out)
      clear hb3
      go_wp2_with fail
      refine RO.out.mono ?_; rintro e w4 ⟨rp, rfl, hr, hb4⟩
      have HR4 := Lib.hid hr
      have HB4 := Lib.hid (HB3.out.trans (hb4.mono HB3.out.size))
      obtain ⟨rb, _, _, rfl, _⟩ := hr
      have CN := count_any (HO.out.below hb4 (Nat.le_refl _)) HN.out.1 HN.out.2.1 (by have := HN.out.2.2; omega) HBD.out HT3.out
      rw [show ((rowP C 0).map (cntP C (N - 1) 0)).sum = tot from HTT.out] at CN
      have HCN := Lib.hid CN
      clear hb4 CN
      go_wp2_with fail
      refine HCN.out.mono ?_; rintro e w5 ⟨rfl, hb5⟩
      have HB5 := Lib.hid hb5
      clear hb5
      go_wp2_with fail
      refine (At_nil _ _).mono ?_; rintro e w6 ⟨f1, rfl, hf1, hb6⟩
      obtain ⟨b1, rfl, hc1⟩ := hf1
      have HC1 := Lib.hid hc1; have HB6 := Lib.hid hb6
      clear hc1 hb6
      go_wp2_with fail
      refine (Rank_nil _ _).mono ?_; rintro e w7 ⟨f2, rfl, hf2, hb7⟩
      obtain ⟨b2, rfl, hc2⟩ := hf2
      have HC2 := Lib.hid hc2; have HB7 := Lib.hid hb7
      clear hc2 hb7
      go_wp2_with fail
      refine (rankOf_nil _).mono ?_; rintro e w8 ⟨f3, rfl, hf3, hb8⟩
      obtain ⟨b3, rfl, hc3⟩ := hf3
      have HC3 := Lib.hid hc3; have HB8 := Lib.hid hb8
      clear hc3 hb8
      go_wp2_with fail
      refine (each_any _ _ _ _).mono ?_; rintro e w9 ⟨rfl, h9⟩
      have L9 := Lib.hid (each_laid h9)
      clear h9
      have HIT := Lib.hid (each_none (fun _ => False) 3 (fun _ => []) L9.out.1 L9.out.2.1 L9.out.2.2.1 (fun W _ => total_nil W) (by omega))
      go_wp2_with fail
      refine range_ints (gf := 36) (lb := #[.pointer (some ⟨w8.heap.size + 1, 0, none⟩), .pointer (some ⟨w8.heap.size, 0, none⟩)]) rfl (enters_of Tryz.func36 (by kernel_rfl) rfl) HIT.out (fun b hb => hb.elim) rfl
        (fun g k W => Below w9.heap.size w9 W) (fun _ _ _ _ => False)
        (fun g k A A' r hg hr h hgr => h.grown hgr h.size (fun j hj => by cases hj; omega)) (fun _ _ _ _ _ _ _ _ h _ => h) (fun _ _ => Below.refl _ _) ?a1 ?assign ?body ?done ?stop
      case assign =>
        intro l v W K hK
        gi_wp2
        exact hK
      case stop =>
        rintro c g k W _ _ _ h _
        exact h.elim
      case body =>
        rintro l g k v W _ hk
        exact absurd hk (Nat.not_lt_zero _)
      case done =>
        rintro g1 X1 hg1 hbX hD1
        have h89 : Below w8.heap.size w8 X1 := L9.out.2.2.2.1.trans (hbX.mono L9.out.2.2.2.1.size)
        have h78 := HB8.out.trans (h89.mono HB8.out.size)
        have h67 := HB7.out.trans (h78.mono HB7.out.size)
        have h56 := HB6.out.trans (h67.mono HB6.out.size)
        have h45 := HB5.out.trans (h56.mono HB5.out.size)
        have h24 := HB4.out.trans (h45.mono HB4.out.size)
        have HX := Lib.hid h24
        have HRX := Lib.hid (HR4.out.below h45 (Nat.le_refl _))
        have HGX := Lib.hid (HG2.out.below h24 (Nat.le_refl _))
        have HD1' := Lib.hid hD1
        have HDX := Lib.hid (show w9.heap.size < X1.heap.size from (Array.getElem?_eq_some_iff.1 hD1).1)
        have K1 := Lib.hid (code_hit b1 10 X1 HGX.out (cell_below HC1.out h67 (Nat.le_refl _)))
        have hc2' := cell_below HC2.out h78 (Nat.le_refl _)
        have hc3' := cell_below HC3.out h89 (Nat.le_refl _)
        have H2 := Lib.hid hc2'; have H3 := Lib.hid hc3'
        clear h89 h78 h67 h56 h45 h24 hD1 hbX hc2' hc3'
        go_wp2_with fail
        refine (code_nil _).mono ?_; rintro e wA ⟨rfl, hwA⟩; subst hwA
        go_wp2_with fail
        refine (code_nil _).mono ?_; rintro e wA ⟨rfl, hwA⟩; subst hwA
        go_wp2_with fail
        refine K1.out.mono ?_; rintro e y1 ⟨rfl, hy1⟩
        have K2 := Lib.hid (code_hit b2 10 y1 (HGX.out.below hy1 (Nat.le_refl _)) (cell_below H2.out hy1 (Nat.le_refl _)))
        have HY1 := Lib.hid hy1
        clear hy1
        go_wp2_with fail
        refine K2.out.mono ?_; rintro e y2 ⟨rfl, hy2⟩
        have hy2' := HY1.out.trans (hy2.mono HY1.out.size)
        have K3 := Lib.hid (code_hit b3 10 y2 (HGX.out.below hy2' (Nat.le_refl _)) (cell_below H3.out hy2' (Nat.le_refl _)))
        have HY2 := Lib.hid hy2'
        clear hy2 hy2'
        go_wp2_with fail
        refine K3.out.mono ?_; rintro e y3 ⟨rfl, hy3⟩
        have HY3 := Lib.hid (HY2.out.trans (hy3.mono HY2.out.size))
        clear hy3
        go_wp2_with fail
        refine (total_nil _).mono ?_; rintro e y4 ⟨rfl, hy4⟩
        have HY4 := Lib.hid (HY3.out.trans (hy4.mono HY3.out.size))
        have TT := rtotal_any (HRX.out.below HY4.out (Nat.le_refl _)) (by have := HN.out.2.2; omega)
        rw [HTT.out] at TT
        have HTL := Lib.hid TT
        clear hy4 TT
        go_wp2_with fail
        refine HTL.out.mono ?_; rintro e y5 ⟨rfl, hy5⟩
        have HY5 := Lib.hid (HY4.out.trans (hy5.mono HY4.out.size))
        clear hy5
        go_wp2_with fail
        refine (At_any (HRX.out.below HY5.out (Nat.le_refl _)) HN.out.1 HN.out.2.1 (by have := HN.out.2.2; omega) HT3.out kk).mono ?_
        rintro e y6 (⟨_, X, v, hX, rfl, hv, hy6⟩ | ⟨hno, _⟩)
        rotate_left
        · exact absurd ⟨p2, by rw [HTT.out]; exact p3⟩ hno
        rw [show ((kk : Int)).toNat = kk from Int.toNat_natCast kk] at hX
        have hXl : X.length = N := all_length HN.out.1 (List.mem_of_getElem? hX)
        have HY6 := Lib.hid (HY5.out.trans (hy6.mono HY5.out.size))
        have HXX := Lib.hid hX
        have RK := Lib.hid (Rank_any (HRX.out.below HY6.out (Nat.le_refl _)) HN.out.1 HN.out.2.1 (by have := HN.out.2.2; omega) HT3.out hv.1 (by rw [hXl]; have := HN.out.2.1; omega))
        obtain ⟨_, Av, cv, rfl, _⟩ := hv
        rw [hXl] at RK ⊢
        clear hX hXl hy6
        go_wp2_with fail
        refine RK.out.mono ?_
        rintro e y7 (⟨m, hm1, hm2, rfl, hy7⟩ | ⟨hno, _⟩)
        rotate_left
        · exact absurd HXX.out (hno kk)
        obtain rfl : kk = m := hm2 kk HXX.out
        have hy7' := HY6.out.trans (hy7.mono HY6.out.size)
        have hB2 := HX.out.trans (hy7'.mono HX.out.size)
        have hB1 := HB2.out.trans (hB2.mono HB2.out.size)
        have hBw := HB0.out.trans (hB1.mono HB0.out.size)
        have hRy := HR.out.below hB1 HR.out.lt
        have s0 : w.heap.size < w9.heap.size := by
          have q1 := HR.out.lt; have q2 := HB2.out.size; have q3 := HB4.out.size; have q4 := HB5.out.size; have q5 := HB6.out.size; have q6 := HB7.out.size; have q7 := HB8.out.size; have q8 := L9.out.2.2.2.2
          omega
        have k1 : y7.heap[w9.heap.size]? = some (.deferred (some [])) := (hy7'.block _ HDX.out).trans HD1'.out
        have f3 := hRy.free 0
        have c3 : y7.cell? ⟨w.heap.size, 0, none⟩ = some (.bool false) := hRy.cell 0
        have HBW := Lib.hid hBw; have HRY := Lib.hid hRy; have HS0 := Lib.hid s0; have HK1 := Lib.hid k1
        clear hm1 hm2 hy7 hy7' hB2 hB1 hBw hRy s0 k1
        go_wp2_with fail
        have s0 := HS0.out
        have q2 : Whole (y7.setCell ⟨w.heap.size, 0, none⟩ (.bool true)) w.heap.size 4 #[.bool true] := HRY.out.put 0 _
        have q3 : Below w.heap.size w (y7.setCell ⟨w.heap.size, 0, none⟩ (.bool true)) := HBW.out.setCell (Nat.le_refl _) _
        have k1 : (y7.setCell ⟨w.heap.size, 0, none⟩ (.bool true)).heap[w9.heap.size]? = some (.deferred (some [])) := by
          rw [Below.heap_setCell _ _ _ _ (by show w9.heap.size ≠ w.heap.size; omega)]; exact HK1.out
        refine ⟨by simp, .inl ⟨_, _, rfl, run_takeDeferred k1, ?_⟩⟩
        have r2 := q2.grown (grownBy_putObj' _ w9.heap.size (.deferred none)) (by simp; omega)
        exact ⟨_, results_bool rfl _ _ _ _ rfl r2, rfl, q3.grown (grownBy_putObj' _ w9.heap.size (.deferred none)) q3.size (fun j hj => by cases hj; omega)⟩
end
end Go.Proofs.YtgphdngfbcjmcaaGreatDoor
