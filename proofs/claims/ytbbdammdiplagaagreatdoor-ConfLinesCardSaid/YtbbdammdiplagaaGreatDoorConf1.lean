/- conf: number, within, Name, field, Contains. -/
import Derived.Test.YtbbdammdiplagaaGreatDoorGlob
import Derived.Test.YtbbdammdiplagaaGreatDoorConfP
import Derived.BigQuiet
import Derived.Deep.QuietTactic
import Derived.WalkSmall
import Derived.Deep.DeepCutAuto
import Derived.WalkSpells
namespace Go.Proofs.YtbbdammdiplagaaGreatDoor
open Go.RowKit

/-- What number tells. -/
def NumTo7 (l : List UInt8) (w : World) (e : Ending) (w' : World) : Prop :=
  Below w.heap.size w w' ∧ ∃ (n : Int) (ok : Bool), e = .returned (.tuple #[.int .i64 n, .bool ok]) ∧ ((ok = true ∧ 0 ≤ n ∧ n ≤ 9999999 ∧ Lib.decDigits n.toNat = l) ∨ (ok = false ∧ ∀ m : Nat, m ≤ 9999999 → Lib.decDigits m ≠ l))
set_option maxRecDepth 100000 in
set_option maxHeartbeats 4000000 in
theorem number7_any (l : List UInt8) (hl : l.length ≤ 1000000) (w : World) (hg : GT w) :
    Calls Tryz.prog 53 #[.string (str l)] w (NumTo7 l w) := by
  have HAT := Lib.hid (atoi_at l (by omega) w hg)
  have HG := Lib.hid hg
  have hsz : (str l).size = l.length := rfl
  obtain ⟨s, hs⟩ : ∃ s, str l = s := ⟨_, rfl⟩
  rw [hs] at HAT hsz ⊢
  have HS := Lib.hid hs
  obtain ⟨n, hn⟩ : ∃ n, l.length = n := ⟨_, rfl⟩
  rw [hn] at hsz hl
  have HN := Lib.hid hn
  have HSZ := Lib.hid hsz
  clear hg hs hn
  go_enter Tryz.func53, Tryz.ntmps53
  go_wp2_with fail
  refine HAT.out.mono ?_
  rintro e w1 ⟨hb1, ⟨v, hv, v0, v1, rfl⟩ | ⟨hno, x, N, rfl⟩⟩
  · have HB1 := Lib.hid hb1; have HV := Lib.hid hv
    have HI := fun (hv0 : 0 ≤ v) => itoa_at v.toNat (by omega) w1 (HG.out.below hb1 (Nat.le_refl _))
    have HI := Lib.hid HI
    clear hb1 hv
    have hneg : v < 0 → ∀ m : Nat, m ≤ 9999999 → Lib.decDigits m ≠ l := fun h m hm e => by
      have h2 := HV.out
      rw [← e, atoi_dec m (by omega)] at h2
      injection h2 with h2
      omega
    have HNEG := Lib.hid hneg
    clear hneg
    by_cases c1 : 0 ≤ v
    · have HI := HI.out c1
      rw [Int.toNat_of_nonneg c1] at HI
      obtain ⟨d, hd⟩ : ∃ d, str (Lib.decDigits v.toNat) = d := ⟨_, rfl⟩
      rw [hd] at HI
      have HI := Lib.hid HI; have HD := Lib.hid hd
      clear hd
      have t1 : decide (0 ≤ v) = true := decide_eq_true c1
      by_cases c2 : n ≤ 7
      · have t2 : decide ((s.size : Int) ≤ 7) = true := decide_eq_true (by omega)
        have t2' : decide (s.size ≤ 7) = true := decide_eq_true (by omega)
        clear hsz
        obtain ⟨z, hz⟩ : ∃ z, (d.toList == s.toList) = z := ⟨_, rfl⟩
        have HZ := Lib.hid hz; have HC1 := Lib.hid c1; have HC2 := Lib.hid c2
        clear hz
        go_wp2_with fail
        refine HI.out.mono ?_; rintro e w2 ⟨rfl, hb2⟩
        have HB2 := Lib.hid hb2
        have hbb := HB1.out.trans (hb2.mono HB1.out.size)
        have HBB := Lib.hid hbb
        clear hb2 hbb
        have t9 : (d.toList == s.toList) = z := HZ.out
        go_wp2_with fail
        go_ret2
        refine ⟨HBB.out, v, _, rfl, ?_⟩
        cases z with
        | true =>
          have he : Lib.decDigits v.toNat = l := by
            have h := HZ.out
            rw [← HD.out, ← HS.out, str_toList, str_toList, beq_iff_eq] at h
            exact h
          have hl6 : (Lib.decDigits v.toNat).length ≤ 7 := by rw [he, HN.out]; exact HC2.out
          have := (dec_len_iff v.toNat 7 (by decide)).1 hl6
          exact Or.inl ⟨rfl, HC1.out, by omega, he⟩
        | false =>
          refine Or.inr ⟨rfl, fun m hm e => ?_⟩
          have h2 := HV.out
          rw [← e, atoi_dec m (by omega)] at h2
          injection h2 with h2
          have h := HZ.out
          rw [← HD.out, ← HS.out, str_toList, str_toList, ← h2, Int.toNat_natCast, e] at h
          simp at h
      · have t2 : decide ((s.size : Int) ≤ 7) = false := decide_eq_false (by omega)
        have t2' : decide (s.size ≤ 7) = false := decide_eq_false (by omega)
        have HC2 := Lib.hid c2
        clear hsz c2
        go_wp2_with fail
        go_ret2
        refine ⟨HB1.out, v, false, rfl, Or.inr ⟨rfl, fun m hm e => ?_⟩⟩
        have h6 := (dec_len_iff m 7 (by decide)).2 (by omega)
        rw [e, HN.out] at h6
        exact HC2.out h6
    · have t1 : decide (0 ≤ v) = false := decide_eq_false c1
      have HC1 := Lib.hid c1
      clear c1
      go_wp2_with fail
      go_ret2
      exact ⟨HB1.out, v, false, rfl, Or.inr ⟨rfl, HNEG.out (by have := HC1.out; omega)⟩⟩
  · have HNO := Lib.hid hno; have HB1 := Lib.hid hb1
    clear hno hb1
    go_wp2_with fail
    go_ret2
    exact ⟨HB1.out, x, false, rfl, Or.inr ⟨rfl, fun m hm e => HNO.out m (by rw [← e]; exact atoi_dec m (by omega))⟩⟩
/-- number, by the pure reading. -/
def NumC7 (v : List UInt8) (w : World) (e : Ending) (w' : World) : Prop :=
  Below w.heap.size w w' ∧ ∃ (n : Int) (ok : Bool), e = .returned (.tuple #[.int .i64 n, .bool ok]) ∧ ((ok = true ∧ numB v = some n) ∨ (ok = false ∧ numB v = none))
theorem number7_c (v : List UInt8) (hv : v.length ≤ 1000000) (w : World) (hg : GT w) : Calls Tryz.prog 53 #[.string (str v)] w (NumC7 v w) := by
  refine (number7_any v hv w hg).mono ?_
  rintro e w' ⟨hb, n, ok, rfl, ⟨rfl, h0, h1, he⟩ | ⟨rfl, hno⟩⟩
  · refine ⟨hb, n, true, rfl, Or.inl ⟨rfl, ?_⟩⟩
    have := numB_dec (m := n.toNat) (by omega)
    rw [he, Int.toNat_of_nonneg h0] at this
    exact this
  · refine ⟨hb, n, false, rfl, Or.inr ⟨rfl, ?_⟩⟩
    cases h : numB v with
    | none => rfl
    | some x =>
      obtain ⟨a, b, c⟩ := numB_some h
      exact absurd c (hno x.toNat (by omega))
set_option maxRecDepth 100000 in
theorem within_any (n m : Int) (w : World) : Calls Tryz.prog 22 #[.int .i64 n, .int .i64 m] w fun e w' => e = .returned (.bool (decide (1 ≤ n ∧ n ≤ m))) ∧ w' = w := by
  obtain ⟨z, hz⟩ : ∃ z, decide (1 ≤ n ∧ n ≤ m) = z := ⟨_, rfl⟩
  rw [hz]
  have hc : (decide (1 ≤ n) = false ∧ z = false) ∨ (decide (1 ≤ n) = true ∧ decide (n ≤ m) = z) := by
    by_cases h : 1 ≤ n
    · refine Or.inr ⟨decide_eq_true h, ?_⟩
      rw [← hz]
      by_cases h2 : n ≤ m
      · rw [decide_eq_true h2, eq_comm, decide_eq_true_eq]; exact ⟨h, h2⟩
      · rw [decide_eq_false h2, eq_comm, decide_eq_false_iff_not]; exact fun x => h2 x.2
    · refine Or.inl ⟨decide_eq_false h, ?_⟩
      rw [← hz, decide_eq_false_iff_not]
      exact fun x => h x.1
  clear hz
  rcases hc with ⟨t1, rfl⟩ | ⟨t1, t2⟩
  all_goals
    go_enter Tryz.func22, Tryz.ntmps22
    go_wp2_with fail
    go_ret
    exact ⟨rfl, rfl⟩
set_option maxRecDepth 100000 in
theorem kname_any (k : Int) (h1 : 1 ≤ k) (h3 : k ≤ 3) (w : World) : Calls Tryz.prog 23 #[.int .i64 k] w fun e w' => e = .returned (.string (str (kname k))) ∧ w' = w := by
  rcases (by omega : k = 1 ∨ k = 2 ∨ k = 3) with rfl | rfl | rfl
  all_goals
    clear h1 h3
    go_enter Tryz.func23, Tryz.ntmps23
    go_wp2_with fail
    go_ret
    exact ⟨rfl, rfl⟩
theorem beq_dec (a b : List UInt8) : (a == b) = decide (a = b) := by
  by_cases h : a = b
  · rw [decide_eq_true h, beq_iff_eq]; exact h
  · rw [decide_eq_false h, beq_eq_false_iff_ne]; exact h
/-- Where a word's number lies. -/
def offOf (wd : List UInt8) : Nat := if wd = wSize then 1 else if wd = wSup then 2 else if wd = wWork then 3 else 4
set_option maxRecDepth 100000 in
theorem field_any (b : Nat) (wd : List UInt8) (w : World) : Calls Tryz.prog 54 #[.pointer (some ⟨b, 0, none⟩), .string (str wd)] w fun e w' => e = .returned (.tuple #[.pointer (some ⟨b, offOf wd, none⟩), .int .i64 (mostOf wd)]) ∧ w' = w := by
  have e1 : ((str wd).toList == [115, 105, 122, 101]) = decide (wd = wSize) := by rw [str_toList]; exact beq_dec wd _
  have e2 : ((str wd).toList == [115, 117, 112, 112, 111, 114, 116]) = decide (wd = wSup) := by rw [str_toList]; exact beq_dec wd _
  have e3 : ((str wd).toList == [119, 111, 114, 107, 101, 114, 115]) = decide (wd = wWork) := by rw [str_toList]; exact beq_dec wd _
  obtain ⟨o, ho⟩ : ∃ o, offOf wd = o := ⟨_, rfl⟩
  obtain ⟨m, hm⟩ : ∃ m, mostOf wd = m := ⟨_, rfl⟩
  rw [ho, hm]
  unfold offOf at ho
  unfold mostOf at hm
  obtain ⟨s, hs⟩ : ∃ s, str wd = s := ⟨_, rfl⟩
  rw [hs] at e1 e2 e3 ⊢
  clear hs
  have hc : (o = 1 ∧ m = 8 ∧ (s.toList == [115, 105, 122, 101]) = true) ∨ (o = 2 ∧ m = 1000000 ∧ (s.toList == [115, 105, 122, 101]) = false ∧ (s.toList == [115, 117, 112, 112, 111, 114, 116]) = true) ∨
      (o = 3 ∧ m = 64 ∧ (s.toList == [115, 105, 122, 101]) = false ∧ (s.toList == [115, 117, 112, 112, 111, 114, 116]) = false ∧ (s.toList == [119, 111, 114, 107, 101, 114, 115]) = true) ∨
      (o = 4 ∧ m = 1000000 ∧ (s.toList == [115, 105, 122, 101]) = false ∧ (s.toList == [115, 117, 112, 112, 111, 114, 116]) = false ∧ (s.toList == [119, 111, 114, 107, 101, 114, 115]) = false) := by
    rw [e1, e2, e3]
    by_cases h1 : wd = wSize
    · rw [if_pos h1] at ho hm
      exact Or.inl ⟨ho.symm, hm.symm, decide_eq_true h1⟩
    · rw [if_neg h1] at ho hm
      by_cases h2 : wd = wSup
      · rw [if_pos h2] at ho hm
        exact Or.inr (Or.inl ⟨ho.symm, hm.symm, decide_eq_false h1, decide_eq_true h2⟩)
      · rw [if_neg h2] at ho hm
        by_cases h3 : wd = wWork
        · rw [if_pos h3] at ho hm
          exact Or.inr (Or.inr (Or.inl ⟨ho.symm, hm.symm, decide_eq_false h1, decide_eq_false h2, decide_eq_true h3⟩))
        · rw [if_neg h3] at ho hm
          exact Or.inr (Or.inr (Or.inr ⟨ho.symm, hm.symm, decide_eq_false h1, decide_eq_false h2, decide_eq_false h3⟩))
  clear e1 e2 e3 ho hm
  rcases hc with ⟨rfl, rfl, g1⟩ | ⟨rfl, rfl, g1, g2⟩ | ⟨rfl, rfl, g1, g2, g3⟩ | ⟨rfl, rfl, g1, g2, g3⟩
  all_goals
    go_enter Tryz.func54, Tryz.ntmps54
    go_wp2_with fail
    go_ret2
    exact ⟨rfl, rfl⟩
/-- Words in memory. -/
def strsL (st : List (List UInt8)) : List Value := st.map fun d => .string (str d)
theorem strsL_app (a b : List (List UInt8)) : strsL (a ++ b) = strsL a ++ strsL b := List.map_append
set_option maxRecDepth 100000 in
theorem index_any (st : List (List UInt8)) (wd : List UInt8) {base n : Nat} {v : Value} {w : World} (h : w.ownsRow base 9 1 v n (strsL st)) (hn : n ≤ 1000000) :
    Calls Tryz.prog 51 #[v, .string (str wd)] w fun e w' => (∃ i : Int, e = .returned (.int .i64 i) ∧ decide (0 ≤ i) = decide (wd ∈ st)) ∧ w' = w := by
  obtain ⟨A, c, rfl⟩ := own_form h
  have hl : st.length = n := by have := h.1; simp [strsL] at this; exact this
  have hcell : ∀ i (hi : i < n), ∃ g, A = some ⟨g, 0, none⟩ ∧ w.cell? ⟨g, i, none⟩ = some (.string (str (st.getD i []))) := by
    intro i hi
    have h0 := h
    rcases h.2 with ⟨_, h2⟩ | ⟨g, cap, cur, e, _, _, _, _⟩
    · omega
    · injection e with e1 e2 e3
      subst e1
      refine ⟨g, rfl, ?_⟩
      rw [h0.cellAt _ (by omega)]
      simp [strsL, List.getD, hl, hi]
  have HL := Lib.hid hl; have HC := Lib.hid hcell
  obtain ⟨s, hs⟩ : ∃ s, str wd = s := ⟨_, rfl⟩
  rw [hs]
  have HS := Lib.hid hs
  clear h hl hcell hs
  go_enter Tryz.func51, Tryz.ntmps51
  go_wp2_with fail
  go_loopg [8] n (fun g iv wr => ∃ k, k ≤ n ∧ g = n - k ∧ iv = .int .i64 (k : Nat) ∧ wd ∉ st.take k ∧ wr = w)
  case atStart => exact ⟨0, Nat.zero_le _, rfl, rfl, by simp, rfl⟩
  case round =>
    obtain ⟨k, hk, rfl, rfl, hno, rfl⟩ := hrel
    have HNO := Lib.hid hno
    clear hno
    by_cases hlt : k < n
    · obtain ⟨g, rfl, hc⟩ := HC.out k hlt
      have hgd : st.getD k [] = st[k]'(by rw [HL.out]; exact hlt) := by simp [List.getD, HL.out, hlt]
      obtain ⟨x, hx⟩ : ∃ x, st[k]'(by rw [HL.out]; exact hlt) = x := ⟨_, rfl⟩
      rw [hgd, hx] at hc
      have t3 : decide (k < n) = true := decide_eq_true hlt
      have i1 : (k : Int) < n := by omega
      have i2 : (0 : Int) ≤ k := by omega
      obtain ⟨xs, hxs⟩ : ∃ s, str x = s := ⟨_, rfl⟩
      rw [hxs] at hc
      have hmem : x ∈ st := by rw [← hx]; exact List.getElem_mem _
      clear hgd
      have htk : st.take (k + 1) = st.take k ++ [x] := by rw [List.take_succ_eq_append_getElem (by rw [HL.out]; exact hlt), hx]
      by_cases he : wd = x
      · have te : (s.toList == xs.toList) = true := by rw [← HS.out, ← hxs, he]; simp
        have HM : Hid (wd ∈ st) := by rw [he]; exact Lib.hid hmem
        clear he hx hxs hlt hmem htk
        go_wp2_with fail
        go_ret
        exact ⟨⟨k, rfl, by rw [decide_eq_true HM.out, decide_eq_true (by omega)]⟩, rfl⟩
      · have te : (s.toList == xs.toList) = false := by rw [← HS.out, ← hxs, str_toList, str_toList, beq_eq_false_iff_ne]; exact he
        have HNX : Hid (wd ∉ st.take (k + 1)) := by
          refine Lib.hid ?_
          rw [htk, List.mem_append, List.mem_singleton]
          rintro (h | h)
          · exact HNO.out h
          · exact he h
        have HLT := Lib.hid hlt
        clear he hx hxs hlt hmem htk
        go_wp2_with fail
        go_roundg (n - (k + 1))
        case rel => exact ⟨k + 1, HLT.out, rfl, by go_num, HNX.out, rfl⟩
        case measure => have := HLT.out; omega
    · obtain rfl : k = n := by omega
      have t3 : decide (k < k) = false := by simp
      have HM : Hid (wd ∉ st) := by
        refine Lib.hid ?_
        have := HNO.out
        rwa [List.take_of_length_le (by rw [HL.out]; exact Nat.le_refl _)] at this
      clear hlt
      go_wp2_with fail
      go_ret
      exact ⟨⟨-1, rfl, by rw [decide_eq_false HM.out]; rfl⟩, rfl⟩
set_option maxRecDepth 100000 in
theorem contains_any (st : List (List UInt8)) (wd : List UInt8) {base n : Nat} {v : Value} {w : World} (h : w.ownsRow base 9 1 v n (strsL st)) (hn : n ≤ 1000000) :
    Calls Tryz.prog 34 #[v, .string (str wd)] w fun e w' => e = .returned (.bool (decide (wd ∈ st))) ∧ w' = w := by
  have HI := Lib.hid (index_any st wd h hn)
  obtain ⟨A, c, rfl⟩ := own_form h
  obtain ⟨s, hs⟩ : ∃ s, str wd = s := ⟨_, rfl⟩
  rw [hs] at HI ⊢
  obtain ⟨z, hz⟩ : ∃ z, decide (wd ∈ st) = z := ⟨_, rfl⟩
  rw [hz] at HI ⊢
  clear h hs hz
  go_enter Tryz.func34, Tryz.ntmps34
  go_wp2_with fail
  refine HI.out.mono ?_
  rintro e w1 ⟨⟨i, rfl, hi⟩, hw⟩
  obtain rfl := hw.symm
  clear hw
  go_wp2_with fail
  go_ret
  exact ⟨rfl, rfl⟩
end Go.Proofs.YtbbdammdiplagaaGreatDoor
