/- Lines of a job's text; pure. conf: number, within, Name, field, Contains. Lines of a job's text, keep among them; pure. conf: (*Conf).set, of words other than keep. conf: (*Conf).set, of any word. -/
import Derived.Test.YtbbdammdiplagaaGreatDoorTextP
import Derived.Test.YtbbdammdiplagaaGreatDoorGlob
import Derived.BigQuiet
import Derived.Deep.QuietTactic
import Derived.WalkSmall
import Derived.Deep.DeepCutAuto
import Derived.WalkSpells
import Derived.Test.YtbbdammdiplagaaGreatDoorParse17
namespace Go.Proofs.YtbbdammdiplagaaGreatDoor
section
def wJob : List UInt8 := [106, 111, 98]
def wKeep : List UInt8 := [107, 101, 101, 112]
def wSup : List UInt8 := [115, 117, 112, 112, 111, 114, 116]
def wSize : List UInt8 := [115, 105, 122, 101]
def wWork : List UInt8 := [119, 111, 114, 107, 101, 114, 115]
def wCap : List UInt8 := [99, 97, 112]
/-- What is asked so far. -/
structure CP where
  kind : Int
  size : Int
  sup : Int
  work : Int
  cap : Int
/-- The name of a kind. -/
def kname : Int → List UInt8
  | 1 => [109, 111, 116, 105, 102, 115]
  | 2 => [99, 108, 105, 113, 117, 101, 115]
  | 3 => [102, 115, 109]
  | _ => []
def kindOf (v : List UInt8) : Option Int := if v = kname 1 then some 1 else if v = kname 2 then some 2 else if v = kname 3 then some 3 else none
/-- The number of decimal digits, at most seven, without noughts ahead. -/
def numB (v : List UInt8) : Option Int :=
  match Lib.atoiAll v with
  | .ok x => if 0 ≤ x ∧ x ≤ 9999999 ∧ Lib.decDigits x.toNat = v then some x else none
  | _ => none
def mostOf (wd : List UInt8) : Int := if wd = wSize then 8 else if wd = wSup then 1000000 else if wd = wWork then 64 else 1000000
def setN (c : CP) (wd : List UInt8) (x : Int) : CP := if wd = wSize then { c with size := x } else if wd = wSup then { c with sup := x } else if wd = wWork then { c with work := x } else { c with cap := x }
/-- A word set. -/
def setP (c : CP) (wd v : List UInt8) : Option CP :=
  if wd = wJob then (if (kindOf v).getD c.kind = 0 then none else some { c with kind := (kindOf v).getD c.kind })
  else if wd = wSup ∧ c.kind ≠ 3 then none
  else if wd = wSup ∨ wd = wSize ∨ wd = wWork ∨ wd = wCap then
    (match numB v with
     | some x => if 1 ≤ x ∧ x ≤ mostOf wd then some (setN c wd x) else none
     | none => none)
  else none
theorem numB_dec {m : Nat} (h : m ≤ 9999999) : numB (Lib.decDigits m) = some (m : Int) := by
  unfold numB
  rw [atoi_dec m (by omega)]
  simp only
  rw [if_pos ⟨by omega, by omega, by rw [Int.toNat_natCast]⟩]
theorem numB_some {v : List UInt8} {x : Int} (h : numB v = some x) : 0 ≤ x ∧ x ≤ 9999999 ∧ Lib.decDigits x.toNat = v := by
  unfold numB at h
  split at h
  · rename_i y _
    by_cases hy : 0 ≤ y ∧ y ≤ 9999999 ∧ Lib.decDigits y.toNat = v
    · rw [if_pos hy] at h
      rw [← Option.some.inj h]
      exact hy
    · rw [if_neg hy] at h; cases h
  · cases h
/-- Lines one behind the other. -/
def linesB (L : List (List UInt8 × List UInt8)) : List UInt8 := L.flatMap fun p => p.1 ++ 32 :: p.2 ++ [10]
theorem linesB_cons (p : List UInt8 × List UInt8) (t : List (List UInt8 × List UInt8)) : linesB (p :: t) = p.1 ++ 32 :: (p.2 ++ 10 :: linesB t) := by
  unfold linesB
  rw [List.flatMap_cons]
  simp
theorem linesB_len (L : List (List UInt8 × List UInt8)) : L.length ≤ (linesB L).length := by
  induction L with
  | nil => exact Nat.le_refl _
  | cons p t ih =>
    rw [linesB_cons]
    simp only [List.length_append, List.length_cons]
    omega
/-- A line as it should be: a word, a blank, a value. -/
def FineL (p : List UInt8 × List UInt8) : Prop := (32 : UInt8) ∉ p.1 ∧ (10 : UInt8) ∉ p.1 ∧ (10 : UInt8) ∉ p.2
/-- What lines make of what was asked so far; or the place of the first that can't be. -/
def runP (c : CP) (st : List (List UInt8)) : List (List UInt8 × List UInt8) → Nat ⊕ CP
  | [] => .inr c
  | p :: t => if (decide (st = []) != decide (p.1 = wJob)) = true ∨ p.1 ∈ st then .inl st.length else
    match setP c p.1 p.2 with
    | none => .inl st.length
    | some c' => runP c' (st ++ [p.1]) t
/-- What a text of lines tells: what is asked, or the place of a fault. -/
def tellP (L : List (List UInt8 × List UInt8)) : Nat ⊕ CP :=
  match runP ⟨0, 0, 0, 1, 1000000⟩ [] L with
  | .inl i => .inl i
  | .inr c => if c.size = 0 ∨ (c.kind = 3 ∧ c.sup = 0) then .inl L.length else .inr c
end

section
open Go.RowKit

/-- What number tells. -/
def NumTo7 (l : List UInt8) (w : World) (e : Ending) (w' : World) : Prop :=
  Below w.heap.size w w' ∧ ∃ (n : Int) (ok : Bool), e = .returned (.tuple #[.int .i64 n, .bool ok]) ∧ ((ok = true ∧ 0 ≤ n ∧ n ≤ 9999999 ∧ Lib.decDigits n.toNat = l) ∨ (ok = false ∧ ∀ m : Nat, m ≤ 9999999 → Lib.decDigits m ≠ l))
set_option maxRecDepth 100000 in
set_option maxHeartbeats 4000000 in
theorem number7_any (l : List UInt8) (hl : l.length ≤ 1000000) (w : World) (hg : GT w) :
    Calls Tryz.prog 53 #[.string (str l)] w (NumTo7 l w) := by
  have HAT := Lib.hid (atoi_at l (by omega) w hg)
  have HG := Lib.hid hg
  have hsz : (str l).size = l.length := rfl
  obtain ⟨s, hs⟩ : ∃ s, str l = s := ⟨_, rfl⟩
  rw [hs] at HAT hsz ⊢
  have HS := Lib.hid hs
  obtain ⟨n, hn⟩ : ∃ n, l.length = n := ⟨_, rfl⟩
  rw [hn] at hsz hl
  have HN := Lib.hid hn
  have HSZ := Lib.hid hsz
  clear hg hs hn
  go_enter Tryz.func53, Tryz.ntmps53
  go_wp2_with fail
  refine HAT.out.mono ?_
  rintro e w1 ⟨hb1, ⟨v, hv, v0, v1, rfl⟩ | ⟨hno, x, N, rfl⟩⟩
  · have HB1 := Lib.hid hb1; have HV := Lib.hid hv
    have HI := fun (hv0 : 0 ≤ v) => itoa_at v.toNat (by omega) w1 (HG.out.below hb1 (Nat.le_refl _))
    have HI := Lib.hid HI
    clear hb1 hv
    have hneg : v < 0 → ∀ m : Nat, m ≤ 9999999 → Lib.decDigits m ≠ l := fun h m hm e => by
      have h2 := HV.out
      rw [← e, atoi_dec m (by omega)] at h2
      injection h2 with h2
      omega
    have HNEG := Lib.hid hneg
    clear hneg
    by_cases c1 : 0 ≤ v
    · have HI := HI.out c1
      rw [Int.toNat_of_nonneg c1] at HI
      obtain ⟨d, hd⟩ : ∃ d, str (Lib.decDigits v.toNat) = d := ⟨_, rfl⟩
      rw [hd] at HI
      have HI := Lib.hid HI; have HD := Lib.hid hd
      clear hd
      have t1 : decide (0 ≤ v) = true := decide_eq_true c1
      by_cases c2 : n ≤ 7
      · have t2 : decide ((s.size : Int) ≤ 7) = true := decide_eq_true (by omega)
        have t2' : decide (s.size ≤ 7) = true := decide_eq_true (by omega)
        clear hsz
        obtain ⟨z, hz⟩ : ∃ z, (d.toList == s.toList) = z := ⟨_, rfl⟩
        have HZ := Lib.hid hz; have HC1 := Lib.hid c1; have HC2 := Lib.hid c2
        clear hz
        go_wp2_with fail
        refine HI.out.mono ?_; rintro e w2 ⟨rfl, hb2⟩
        have HB2 := Lib.hid hb2
        have hbb := HB1.out.trans (hb2.mono HB1.out.size)
        have HBB := Lib.hid hbb
        clear hb2 hbb
        have t9 : (d.toList == s.toList) = z := HZ.out
        go_wp2_with fail
        go_ret2
        refine ⟨HBB.out, v, _, rfl, ?_⟩
        cases z with
        | true =>
          have he : Lib.decDigits v.toNat = l := by
            have h := HZ.out
            rw [← HD.out, ← HS.out, str_toList, str_toList, beq_iff_eq] at h
            exact h
          have hl6 : (Lib.decDigits v.toNat).length ≤ 7 := by rw [he, HN.out]; exact HC2.out
          have := (dec_len_iff v.toNat 7 (by decide)).1 hl6
          exact Or.inl ⟨rfl, HC1.out, by omega, he⟩
        | false =>
          refine Or.inr ⟨rfl, fun m hm e => ?_⟩
          have h2 := HV.out
          rw [← e, atoi_dec m (by omega)] at h2
          injection h2 with h2
          have h := HZ.out
          rw [← HD.out, ← HS.out, str_toList, str_toList, ← h2, Int.toNat_natCast, e] at h
          simp at h
      · have t2 : decide ((s.size : Int) ≤ 7) = false := decide_eq_false (by omega)
        have t2' : decide (s.size ≤ 7) = false := decide_eq_false (by omega)
        have HC2 := Lib.hid c2
        clear hsz c2
        go_wp2_with fail
        go_ret2
        refine ⟨HB1.out, v, false, rfl, Or.inr ⟨rfl, fun m hm e => ?_⟩⟩
        have h6 := (dec_len_iff m 7 (by decide)).2 (by omega)
        rw [e, HN.out] at h6
        exact HC2.out h6
    · have t1 : decide (0 ≤ v) = false := decide_eq_false c1
      have HC1 := Lib.hid c1
      clear c1
      go_wp2_with fail
      go_ret2
      exact ⟨HB1.out, v, false, rfl, Or.inr ⟨rfl, HNEG.out (by have := HC1.out; omega)⟩⟩
  · have HNO := Lib.hid hno; have HB1 := Lib.hid hb1
    clear hno hb1
    go_wp2_with fail
    go_ret2
    exact ⟨HB1.out, x, false, rfl, Or.inr ⟨rfl, fun m hm e => HNO.out m (by rw [← e]; exact atoi_dec m (by omega))⟩⟩
/-- number, by the pure reading. -/
def NumC7 (v : List UInt8) (w : World) (e : Ending) (w' : World) : Prop :=
  Below w.heap.size w w' ∧ ∃ (n : Int) (ok : Bool), e = .returned (.tuple #[.int .i64 n, .bool ok]) ∧ ((ok = true ∧ numB v = some n) ∨ (ok = false ∧ numB v = none))
theorem number7_c (v : List UInt8) (hv : v.length ≤ 1000000) (w : World) (hg : GT w) : Calls Tryz.prog 53 #[.string (str v)] w (NumC7 v w) := by
  refine (number7_any v hv w hg).mono ?_
  rintro e w' ⟨hb, n, ok, rfl, ⟨rfl, h0, h1, he⟩ | ⟨rfl, hno⟩⟩
  · refine ⟨hb, n, true, rfl, Or.inl ⟨rfl, ?_⟩⟩
    have := numB_dec (m := n.toNat) (by omega)
    rw [he, Int.toNat_of_nonneg h0] at this
    exact this
  · refine ⟨hb, n, false, rfl, Or.inr ⟨rfl, ?_⟩⟩
    cases h : numB v with
    | none => rfl
    | some x =>
      obtain ⟨a, b, c⟩ := numB_some h
      exact absurd c (hno x.toNat (by omega))
set_option maxRecDepth 100000 in
theorem within_any (n m : Int) (w : World) : Calls Tryz.prog 22 #[.int .i64 n, .int .i64 m] w fun e w' => e = .returned (.bool (decide (1 ≤ n ∧ n ≤ m))) ∧ w' = w := by
  obtain ⟨z, hz⟩ : ∃ z, decide (1 ≤ n ∧ n ≤ m) = z := ⟨_, rfl⟩
  rw [hz]
  have hc : (decide (1 ≤ n) = false ∧ z = false) ∨ (decide (1 ≤ n) = true ∧ decide (n ≤ m) = z) := by
    by_cases h : 1 ≤ n
    · refine Or.inr ⟨decide_eq_true h, ?_⟩
      rw [← hz]
      by_cases h2 : n ≤ m
      · rw [decide_eq_true h2, eq_comm, decide_eq_true_eq]; exact ⟨h, h2⟩
      · rw [decide_eq_false h2, eq_comm, decide_eq_false_iff_not]; exact fun x => h2 x.2
    · refine Or.inl ⟨decide_eq_false h, ?_⟩
      rw [← hz, decide_eq_false_iff_not]
      exact fun x => h x.1
  clear hz
  rcases hc with ⟨t1, rfl⟩ | ⟨t1, t2⟩
  all_goals
    go_enter Tryz.func22, Tryz.ntmps22
    go_wp2_with fail
    go_ret
    exact ⟨rfl, rfl⟩
set_option maxRecDepth 100000 in
theorem kname_any (k : Int) (h1 : 1 ≤ k) (h3 : k ≤ 3) (w : World) : Calls Tryz.prog 23 #[.int .i64 k] w fun e w' => e = .returned (.string (str (kname k))) ∧ w' = w := by
  rcases (by omega : k = 1 ∨ k = 2 ∨ k = 3) with rfl | rfl | rfl
  all_goals
    clear h1 h3
    go_enter Tryz.func23, Tryz.ntmps23
    go_wp2_with fail
    go_ret
    exact ⟨rfl, rfl⟩
theorem beq_dec (a b : List UInt8) : (a == b) = decide (a = b) := by
  by_cases h : a = b
  · rw [decide_eq_true h, beq_iff_eq]; exact h
  · rw [decide_eq_false h, beq_eq_false_iff_ne]; exact h
/-- Where a word's number lies. -/
def offOf (wd : List UInt8) : Nat := if wd = wSize then 1 else if wd = wSup then 2 else if wd = wWork then 3 else 4
set_option maxRecDepth 100000 in
theorem field_any (b : Nat) (wd : List UInt8) (w : World) : Calls Tryz.prog 54 #[.pointer (some ⟨b, 0, none⟩), .string (str wd)] w fun e w' => e = .returned (.tuple #[.pointer (some ⟨b, offOf wd, none⟩), .int .i64 (mostOf wd)]) ∧ w' = w := by
  have e1 : ((str wd).toList == [115, 105, 122, 101]) = decide (wd = wSize) := by rw [str_toList]; exact beq_dec wd _
  have e2 : ((str wd).toList == [115, 117, 112, 112, 111, 114, 116]) = decide (wd = wSup) := by rw [str_toList]; exact beq_dec wd _
  have e3 : ((str wd).toList == [119, 111, 114, 107, 101, 114, 115]) = decide (wd = wWork) := by rw [str_toList]; exact beq_dec wd _
  obtain ⟨o, ho⟩ : ∃ o, offOf wd = o := ⟨_, rfl⟩
  obtain ⟨m, hm⟩ : ∃ m, mostOf wd = m := ⟨_, rfl⟩
  rw [ho, hm]
  unfold offOf at ho
  unfold mostOf at hm
  obtain ⟨s, hs⟩ : ∃ s, str wd = s := ⟨_, rfl⟩
  rw [hs] at e1 e2 e3 ⊢
  clear hs
  have hc : (o = 1 ∧ m = 8 ∧ (s.toList == [115, 105, 122, 101]) = true) ∨ (o = 2 ∧ m = 1000000 ∧ (s.toList == [115, 105, 122, 101]) = false ∧ (s.toList == [115, 117, 112, 112, 111, 114, 116]) = true) ∨
      (o = 3 ∧ m = 64 ∧ (s.toList == [115, 105, 122, 101]) = false ∧ (s.toList == [115, 117, 112, 112, 111, 114, 116]) = false ∧ (s.toList == [119, 111, 114, 107, 101, 114, 115]) = true) ∨
      (o = 4 ∧ m = 1000000 ∧ (s.toList == [115, 105, 122, 101]) = false ∧ (s.toList == [115, 117, 112, 112, 111, 114, 116]) = false ∧ (s.toList == [119, 111, 114, 107, 101, 114, 115]) = false) := by
    rw [e1, e2, e3]
    by_cases h1 : wd = wSize
    · rw [if_pos h1] at ho hm
      exact Or.inl ⟨ho.symm, hm.symm, decide_eq_true h1⟩
    · rw [if_neg h1] at ho hm
      by_cases h2 : wd = wSup
      · rw [if_pos h2] at ho hm
        exact Or.inr (Or.inl ⟨ho.symm, hm.symm, decide_eq_false h1, decide_eq_true h2⟩)
      · rw [if_neg h2] at ho hm
        by_cases h3 : wd = wWork
        · rw [if_pos h3] at ho hm
          exact Or.inr (Or.inr (Or.inl ⟨ho.symm, hm.symm, decide_eq_false h1, decide_eq_false h2, decide_eq_true h3⟩))
        · rw [if_neg h3] at ho hm
          exact Or.inr (Or.inr (Or.inr ⟨ho.symm, hm.symm, decide_eq_false h1, decide_eq_false h2, decide_eq_false h3⟩))
  clear e1 e2 e3 ho hm
  rcases hc with ⟨rfl, rfl, g1⟩ | ⟨rfl, rfl, g1, g2⟩ | ⟨rfl, rfl, g1, g2, g3⟩ | ⟨rfl, rfl, g1, g2, g3⟩
  all_goals
    go_enter Tryz.func54, Tryz.ntmps54
    go_wp2_with fail
    go_ret2
    exact ⟨rfl, rfl⟩
/-- Words in memory. -/
def strsL (st : List (List UInt8)) : List Value := st.map fun d => .string (str d)
theorem strsL_app (a b : List (List UInt8)) : strsL (a ++ b) = strsL a ++ strsL b := List.map_append
set_option maxRecDepth 100000 in
theorem indexS_any (st : List (List UInt8)) (wd : List UInt8) {base n : Nat} {v : Value} {w : World} (h : w.ownsRow base 9 1 v n (strsL st)) (hn : n ≤ 1000000) :
    Calls Tryz.prog 51 #[v, .string (str wd)] w fun e w' => (∃ i : Int, e = .returned (.int .i64 i) ∧ decide (0 ≤ i) = decide (wd ∈ st)) ∧ w' = w := by
  obtain ⟨A, c, rfl⟩ := own_form h
  have hl : st.length = n := by have := h.1; simp [strsL] at this; exact this
  have hcell : ∀ i (hi : i < n), ∃ g, A = some ⟨g, 0, none⟩ ∧ w.cell? ⟨g, i, none⟩ = some (.string (str (st.getD i []))) := by
    intro i hi
    have h0 := h
    rcases h.2 with ⟨_, h2⟩ | ⟨g, cap, cur, e, _, _, _, _⟩
    · omega
    · injection e with e1 e2 e3
      subst e1
      refine ⟨g, rfl, ?_⟩
      rw [h0.cellAt _ (by omega)]
      simp [strsL, List.getD, hl, hi]
  have HL := Lib.hid hl; have HC := Lib.hid hcell
  obtain ⟨s, hs⟩ : ∃ s, str wd = s := ⟨_, rfl⟩
  rw [hs]
  have HS := Lib.hid hs
  clear h hl hcell hs
  go_enter Tryz.func51, Tryz.ntmps51
  go_wp2_with fail
  go_loopg [8] n (fun g iv wr => ∃ k, k ≤ n ∧ g = n - k ∧ iv = .int .i64 (k : Nat) ∧ wd ∉ st.take k ∧ wr = w)
  case atStart => exact ⟨0, Nat.zero_le _, rfl, rfl, by simp, rfl⟩
  case round =>
    obtain ⟨k, hk, rfl, rfl, hno, rfl⟩ := hrel
    have HNO := Lib.hid hno
    clear hno
    by_cases hlt : k < n
    · obtain ⟨g, rfl, hc⟩ := HC.out k hlt
      have hgd : st.getD k [] = st[k]'(by rw [HL.out]; exact hlt) := by simp [List.getD, HL.out, hlt]
      obtain ⟨x, hx⟩ : ∃ x, st[k]'(by rw [HL.out]; exact hlt) = x := ⟨_, rfl⟩
      rw [hgd, hx] at hc
      have t3 : decide (k < n) = true := decide_eq_true hlt
      have i1 : (k : Int) < n := by omega
      have i2 : (0 : Int) ≤ k := by omega
      obtain ⟨xs, hxs⟩ : ∃ s, str x = s := ⟨_, rfl⟩
      rw [hxs] at hc
      have hmem : x ∈ st := by rw [← hx]; exact List.getElem_mem _
      clear hgd
      have htk : st.take (k + 1) = st.take k ++ [x] := by rw [List.take_succ_eq_append_getElem (by rw [HL.out]; exact hlt), hx]
      by_cases he : wd = x
      · have te : (s.toList == xs.toList) = true := by rw [← HS.out, ← hxs, he]; simp
        have HM : Hid (wd ∈ st) := by rw [he]; exact Lib.hid hmem
        clear he hx hxs hlt hmem htk
        go_wp2_with fail
        go_ret
        exact ⟨⟨k, rfl, by rw [decide_eq_true HM.out, decide_eq_true (by omega)]⟩, rfl⟩
      · have te : (s.toList == xs.toList) = false := by rw [← HS.out, ← hxs, str_toList, str_toList, beq_eq_false_iff_ne]; exact he
        have HNX : Hid (wd ∉ st.take (k + 1)) := by
          refine Lib.hid ?_
          rw [htk, List.mem_append, List.mem_singleton]
          rintro (h | h)
          · exact HNO.out h
          · exact he h
        have HLT := Lib.hid hlt
        clear he hx hxs hlt hmem htk
        go_wp2_with fail
        go_roundg (n - (k + 1))
        case rel => exact ⟨k + 1, HLT.out, rfl, by go_num, HNX.out, rfl⟩
        case measure => have := HLT.out; omega
    · obtain rfl : k = n := by omega
      have t3 : decide (k < k) = false := by simp
      have HM : Hid (wd ∉ st) := by
        refine Lib.hid ?_
        have := HNO.out
        rwa [List.take_of_length_le (by rw [HL.out]; exact Nat.le_refl _)] at this
      clear hlt
      go_wp2_with fail
      go_ret
      exact ⟨⟨-1, rfl, by rw [decide_eq_false HM.out]; rfl⟩, rfl⟩
set_option maxRecDepth 100000 in
theorem containsS_any (st : List (List UInt8)) (wd : List UInt8) {base n : Nat} {v : Value} {w : World} (h : w.ownsRow base 9 1 v n (strsL st)) (hn : n ≤ 1000000) :
    Calls Tryz.prog 34 #[v, .string (str wd)] w fun e w' => e = .returned (.bool (decide (wd ∈ st))) ∧ w' = w := by
  have HI := Lib.hid (indexS_any st wd h hn)
  obtain ⟨A, c, rfl⟩ := own_form h
  obtain ⟨s, hs⟩ : ∃ s, str wd = s := ⟨_, rfl⟩
  rw [hs] at HI ⊢
  obtain ⟨z, hz⟩ : ∃ z, decide (wd ∈ st) = z := ⟨_, rfl⟩
  rw [hz] at HI ⊢
  clear h hs hz
  go_enter Tryz.func34, Tryz.ntmps34
  go_wp2_with fail
  refine HI.out.mono ?_
  rintro e w1 ⟨⟨i, rfl, hi⟩, hw⟩
  obtain rfl := hw.symm
  clear hw
  go_wp2_with fail
  go_ret
  exact ⟨rfl, rfl⟩
end

section
open Classical in
/-- The program of a text, where it has one. -/
noncomputable def keepV (v : List UInt8) : Option (List (Int × Int)) := if h : ∃ O, progF O = none ∧ progT O = v then some h.choose else none
theorem progT_inj {A B : List (Int × Int)} (ha : progF A = none) (hb : progF B = none) (h : progT A = progT B) : A = B := by
  have r0 := (progF_none.1 ha).2
  have r1 := (progF_none.1 hb).2
  by_cases h0 : A = []
  · subst h0
    exact (progT_nil r1 h.symm).symm
  · have h0' : B ≠ [] := fun e => by subst e; exact h0 (progT_nil r0 h)
    have a := parts_of r0 (P := A.map opT) (by simpa using h0) h0 (opT_parts A) rfl
    have b := parts_of r1 (P := A.map opT) (by simpa using h0) h0' (opT_parts A) h.symm
    rw [a] at b
    injection b
theorem keepV_some {O : List (Int × Int)} (h : progF O = none) : keepV (progT O) = some O := by
  have hx : ∃ P, progF P = none ∧ progT P = progT O := ⟨O, h, rfl⟩
  unfold keepV
  rw [dif_pos hx]
  exact congrArg some (progT_inj hx.choose_spec.1 h hx.choose_spec.2)
theorem keepV_of {O : List (Int × Int)} {v : List UInt8} (h : keepV v = some O) : progF O = none ∧ progT O = v := by
  unfold keepV at h
  by_cases hx : ∃ P, progF P = none ∧ progT P = v
  · rw [dif_pos hx] at h
    injection h with h
    rw [← h]
    exact hx.choose_spec
  · rw [dif_neg hx] at h; cases h
theorem keepV_no {v : List UInt8} (h : ∀ O, progF O = none → progT O ≠ v) : keepV v = none := by
  unfold keepV
  rw [dif_neg]
  rintro ⟨O, h1, h2⟩
  exact h O h1 h2
/-- What Parse tells, by keepV. -/
theorem ParseTo.none {s : List UInt8} {P : List (List UInt8)} {c p : Int} (hs : s ≠ []) (hP : P ≠ []) (hj : joinB 59 P = s) (hx : ∀ x ∈ P, (59 : UInt8) ∉ x) (hor : (c = 2 ∧ ∃ k, parseL P = .inl k) ∨ ∃ O, parseL P = .inr O ∧ progF O = some (c, p)) : keepV s = none := by
  refine keepV_no (fun O h1 h2 => ?_)
  have r0 := (progF_none.1 h1).2
  have h0 : O ≠ [] := fun e => by subst e; exact hs h2.symm
  have a := parts_of r0 hP h0 hx (h2.trans hj.symm)
  rcases hor with ⟨_, k, hk⟩ | ⟨O', h3, h4⟩
  · rw [a] at hk; cases hk
  · rw [a] at h3
    injection h3 with h3
    rw [← h3, h1] at h4
    cases h4
/-- What is asked, the tests too. -/
structure CK where
  c : CP
  o : List (Int × Int)
def keepC (c : CP) : Option (List (Int × Int)) → Option CK
  | some O => if O ≠ [] ∧ O.length ≤ 15 then some ⟨c, O⟩ else none
  | none => none
noncomputable def setK (x : CK) (wd v : List UInt8) : Option CK :=
  if wd = wKeep then keepC x.c (keepV v)
  else (setP x.c wd v).map fun c => ⟨c, x.o⟩
/-- A text's first line, its word, its value, the rest; and whether it ends, and is parted. -/
def lineOf (s : List UInt8) : List UInt8 := (Lib.cut s [10]).1
def restOf (s : List UInt8) : List UInt8 := (Lib.cut s [10]).2.1
def endsB (s : List UInt8) : Bool := (Lib.cut s [10]).2.2
def wordOf (s : List UInt8) : List UInt8 := (Lib.cut (lineOf s) [32]).1
def valOf (s : List UInt8) : List UInt8 := (Lib.cut (lineOf s) [32]).2.1
def partB (s : List UInt8) : Bool := (Lib.cut (lineOf s) [32]).2.2
/-- What a text makes of what was asked so far, in so many lines at most. -/
noncomputable def runK : Nat → CK → List (List UInt8) → List UInt8 → Nat ⊕ CK × Nat
  | 0, x, st, _ => .inr (x, st.length)
  | n + 1, x, st, s => if s = [] then .inr (x, st.length) else
    if endsB s = false ∨ partB s = false ∨ (decide (st = []) != decide (wordOf s = wJob)) = true ∨ wordOf s ∈ st then .inl st.length else
    match setK x (wordOf s) (valOf s) with
    | none => .inl st.length
    | some x' => runK n x' (st ++ [wordOf s]) (restOf s)
def ck0 : CK := ⟨⟨0, 0, 0, 1, 1000000⟩, []⟩
/-- What a text tells. -/
noncomputable def tellK (s : List UInt8) : Nat ⊕ CK :=
  match runK s.length ck0 [] s with
  | .inl i => .inl i
  | .inr (x, k) => if x.c.size = 0 ∨ (x.c.kind = 3 ∧ x.c.sup = 0) then .inl k else .inr x
theorem rest_len {s : List UInt8} (h : s ≠ []) : (restOf s).length < s.length := by
  unfold restOf
  rcases cut_cases s 10 with hn | ⟨p, q, rfl, hp⟩
  · rw [cut_no hn]
    exact List.length_pos_iff.2 h
  · rw [cut_yes hp]
    simp
    omega
theorem runK_nil (n : Nat) (x : CK) (st : List (List UInt8)) : runK n x st [] = .inr (x, st.length) := by cases n <;> simp [runK]
theorem runK_bad {n : Nat} {x : CK} {st : List (List UInt8)} {s : List UInt8} (hs : s ≠ []) (h : endsB s = false ∨ partB s = false ∨ (decide (st = []) != decide (wordOf s = wJob)) = true ∨ wordOf s ∈ st) : runK (n + 1) x st s = .inl st.length := by
  rw [runK, if_neg hs, if_pos h]
theorem runK_none {n : Nat} {x : CK} {st : List (List UInt8)} {s : List UInt8} (hs : s ≠ []) (h : setK x (wordOf s) (valOf s) = none) : runK (n + 1) x st s = .inl st.length := by
  rw [runK, if_neg hs]
  split
  · rfl
  · rw [h]
theorem runK_step {n : Nat} {x x' : CK} {st : List (List UInt8)} {s : List UInt8} (hs : s ≠ []) (h1 : endsB s = true) (h2 : partB s = true) (h3 : (decide (st = []) != decide (wordOf s = wJob)) = false) (h4 : wordOf s ∉ st) (h : setK x (wordOf s) (valOf s) = some x') : runK (n + 1) x st s = runK n x' (st ++ [wordOf s]) (restOf s) := by
  rw [runK, if_neg hs, if_neg, h]
  rintro (g | g | g | g)
  · rw [h1] at g; cases g
  · rw [h2] at g; cases g
  · rw [h3] at g; cases g
  · exact h4 g
end

section
open Go.RowKit

/-- What is asked so far, in memory. -/
def cV (c : CP) (kv : Value) : Array Value := #[.int .i64 c.kind, .int .i64 c.size, .int .i64 c.sup, .int .i64 c.work, .int .i64 c.cap, kv]
/-- The kind once some names were compared. -/
def kU (k0 : Int) (v : List UInt8) : Nat → Int
  | 0 => k0
  | n + 1 => if kname ((n + 1 : Nat) : Int) = v then ((n + 1 : Nat) : Int) else kU k0 v n
theorem kU_all (k0 : Int) (v : List UInt8) : kU k0 v 3 = (kindOf v).getD k0 := by
  unfold kindOf
  show (if kname 3 = v then (3 : Int) else if kname 2 = v then 2 else if kname 1 = v then 1 else k0) = _
  by_cases h3 : kname 3 = v
  · subst h3; rfl
  · by_cases h2 : kname 2 = v
    · subst h2; rfl
    · by_cases h1 : kname 1 = v
      · subst h1; rfl
      · rw [if_neg h3, if_neg h2, if_neg h1, if_neg (fun e => h1 e.symm), if_neg (fun e => h2 e.symm), if_neg (fun e => h3 e.symm)]
        rfl
theorem cV_set (c : CP) (kv : Value) (wd : List UInt8) (x : Int) : (cV c kv).setIfInBounds (offOf wd) (.int .i64 x) = cV (setN c wd x) kv := by
  unfold offOf setN
  by_cases h1 : wd = wSize
  · rw [if_pos h1, if_pos h1]; rfl
  · rw [if_neg h1, if_neg h1]
    by_cases h2 : wd = wSup
    · rw [if_pos h2, if_pos h2]; rfl
    · rw [if_neg h2, if_neg h2]
      by_cases h3 : wd = wWork
      · rw [if_pos h3, if_pos h3]; rfl
      · rw [if_neg h3, if_neg h3]; rfl
theorem cV_off (c : CP) (kv : Value) (wd : List UInt8) : ∃ y : Int, (cV c kv)[offOf wd]? = some (.int .i64 y) := by
  unfold offOf
  by_cases h1 : wd = wSize
  · rw [if_pos h1]; exact ⟨_, rfl⟩
  · rw [if_neg h1]
    by_cases h2 : wd = wSup
    · rw [if_pos h2]; exact ⟨_, rfl⟩
    · rw [if_neg h2]
      by_cases h3 : wd = wWork
      · rw [if_pos h3]; exact ⟨_, rfl⟩
      · rw [if_neg h3]; exact ⟨_, rfl⟩
theorem grown_set {w wr : World} {cb i : Nat} (h : w.grownBy wr (some cb)) (u : Value) : w.grownBy (wr.setCell ⟨cb, i, none⟩ u) (some cb) :=
  ⟨h.os, h.tape, h.output, by simpa [World.setCell] using h.size, fun k hk hne => (Below.heap_setCell wr ⟨cb, i, none⟩ u k (fun e => hne (by rw [e]))).trans (h.block k hk hne)⟩
theorem grown_of_below {w wr : World} {r : Option Nat} (h : Below w.heap.size w wr) : w.grownBy wr r := ⟨h.os, h.tape, h.output, h.size, fun k hk _ => h.block k hk⟩
/-- What set tells and leaves. -/
def SetTo (c : CP) (kv : Value) (cb : Nat) (wd v : List UInt8) (w : World) (e : Ending) (w' : World) : Prop :=
  w.grownBy w' (some cb) ∧ ((∃ c', setP c wd v = some c' ∧ e = .returned (.bool true) ∧ Whole w' cb 29 (cV c' kv)) ∨ (setP c wd v = none ∧ e = .returned (.bool false)))
/-- The post of a number's word, told by the number read. -/
theorem setTo_num {c : CP} {kv : Value} {cb : Nat} {wd v : List UInt8} {w w' : World} {n : Int} {ok z : Bool} (hgr : w.grownBy w' (some cb)) (hj : wd ≠ wJob) (hs : ¬ (wd = wSup ∧ c.kind ≠ 3)) (hw : wd = wSup ∨ wd = wSize ∨ wd = wWork ∨ wd = wCap)
    (hok : (ok = true ∧ numB v = some n) ∨ (ok = false ∧ numB v = none)) (hz : z = (ok && decide (1 ≤ n ∧ n ≤ mostOf wd))) (hW : Whole w' cb 29 (cV (setN c wd n) kv)) : SetTo c kv cb wd v w (.returned (.bool z)) w' := by
  refine ⟨hgr, ?_⟩
  unfold setP
  rw [if_neg hj, if_neg hs, if_pos hw]
  rcases hok with ⟨rfl, h⟩ | ⟨rfl, h⟩
  · rw [h]
    simp only [Bool.true_and] at hz
    by_cases hr : 1 ≤ n ∧ n ≤ mostOf wd
    · rw [decide_eq_true hr] at hz
      subst hz
      simp only
      rw [if_pos hr]
      exact Or.inl ⟨_, by first | rfl | trivial, by first | rfl | trivial, hW⟩
    · rw [decide_eq_false hr] at hz
      subst hz
      simp only
      rw [if_neg hr]
      exact Or.inr ⟨by first | rfl | trivial, by first | rfl | trivial⟩
  · rw [h]
    simp only [Bool.false_and] at hz
    subst hz
    exact Or.inr ⟨by first | rfl | trivial, by first | rfl | trivial⟩
theorem setTo_no {c : CP} {kv : Value} {cb : Nat} {wd v : List UInt8} {w w' : World} (hgr : w.grownBy w' (some cb)) (h : setP c wd v = none) : SetTo c kv cb wd v w (.returned (.bool false)) w' := ⟨hgr, Or.inr ⟨h, rfl⟩⟩
set_option maxRecDepth 100000 in
set_option maxHeartbeats 4000000 in
theorem set_any (c : CP) (kv : Value) (cb : Nat) (wd v : List UInt8) (hk : wd ≠ wKeep) (hv : v.length ≤ 1000000) (w : World) (hg : GT w) (hW : Whole w cb 29 (cV c kv)) :
    Calls Tryz.prog 35 #[.pointer (some ⟨cb, 0, none⟩), .string (str wd), .string (str v)] w (SetTo c kv cb wd v w) := by
  have e1 : ((str wd).toList == [106, 111, 98]) = decide (wd = wJob) := by rw [str_toList]; exact beq_dec wd _
  have e2 : ((str wd).toList == [107, 101, 101, 112]) = false := by rw [str_toList, beq_eq_false_iff_ne]; exact hk
  have e3 : ((str wd).toList == [115, 117, 112, 112, 111, 114, 116]) = decide (wd = wSup) := by rw [str_toList]; exact beq_dec wd _
  have e4 : ((str wd).toList == [115, 105, 122, 101]) = decide (wd = wSize) := by rw [str_toList]; exact beq_dec wd _
  have e5 : ((str wd).toList == [119, 111, 114, 107, 101, 114, 115]) = decide (wd = wWork) := by rw [str_toList]; exact beq_dec wd _
  have e6 : ((str wd).toList == [99, 97, 112]) = decide (wd = wCap) := by rw [str_toList]; exact beq_dec wd _
  have HNUM := Lib.hid (number7_c v hv w hg)
  have HFLD := Lib.hid (fun W => field_any cb wd W)
  have HOFF := Lib.hid (cV_off c kv wd)
  have hcb := hW.lt
  obtain ⟨s, hs⟩ : ∃ s, str wd = s := ⟨_, rfl⟩
  obtain ⟨vs, hvs⟩ : ∃ s, str v = s := ⟨_, rfl⟩
  rw [hs] at e1 e2 e3 e4 e5 e6 HFLD ⊢
  rw [hvs] at HNUM ⊢
  have HVS := Lib.hid hvs
  have HW := Lib.hid hW
  obtain ⟨kd, hkd⟩ : ∃ k, c.kind = k := ⟨_, rfl⟩
  have HKD := Lib.hid hkd
  have c0 : w.cell? ⟨cb, 0, none⟩ = some (.int .i64 kd) := by rw [hW.cell 0, ← hkd]; rfl
  clear hs hvs hg hW hkd
  obtain ⟨o, ho⟩ : ∃ o, offOf wd = o := ⟨_, rfl⟩
  obtain ⟨m, hm⟩ : ∃ m, mostOf wd = m := ⟨_, rfl⟩
  rw [ho] at HOFF
  rw [ho, hm] at HFLD
  have HO := Lib.hid ho; have HM := Lib.hid hm
  clear ho hm
  by_cases hjob : wd = wJob
  · rw [decide_eq_true hjob] at e1
    have HJ := Lib.hid hjob
    clear hjob e2 e3 e4 e5 e6 hk
    go_enter Tryz.func35, Tryz.ntmps35
    go_wp2_with fail
    go_loopg [7] 3 (fun g iv wr => ∃ n : Nat, n ≤ 3 ∧ g = 3 - n ∧ iv = .int .i64 ((n : Nat) + 1 : Int) ∧ Whole wr cb 29 (cV { c with kind := kU c.kind v n } kv) ∧ w.grownBy wr (some cb))
    case atStart => exact ⟨0, by omega, rfl, rfl, HW.out, World.grownBy.refl _ _⟩
    case round =>
      obtain ⟨n, hn, rfl, rfl, hW, hgr⟩ := hrel
      have HWR := Lib.hid hW; have HGR := Lib.hid hgr
      have hcr := hW.lt
      have c1 : ∃ K, wr.cell? ⟨cb, 0, none⟩ = some (.int .i64 K) := ⟨_, by rw [hW.cell 0]; rfl⟩
      obtain ⟨K, c1⟩ := c1
      have f1 := hW.free 0
      clear hW hgr
      by_cases hlt : n < 3
      · have HN := Lib.hid (kname_any ((n : Int) + 1) (by omega) (by omega) wr)
        have t3 : decide ((n : Int) + 1 ≤ 3) = true := decide_eq_true (by omega)
        obtain ⟨ns, hns⟩ : ∃ s, str (kname ((n : Int) + 1)) = s := ⟨_, rfl⟩
        rw [hns] at HN
        have HNS := Lib.hid hns
        by_cases hv1 : kname ((n : Int) + 1) = v
        · have te : (ns.toList == vs.toList) = true := by rw [← hns, ← HVS.out, str_toList, str_toList, beq_iff_eq]; exact hv1
          have HV1 := Lib.hid hv1; have HLT := Lib.hid hlt
          clear hns hv1 hlt
          go_wp2_with fail
          refine HN.out.mono ?_; rintro e w1 ⟨rfl, hw⟩
          obtain rfl := hw.symm
          clear hw
          go_wp2_with fail
          go_roundg (3 - (n + 1))
          case rel =>
            refine ⟨n + 1, HLT.out, rfl, by go_num, ?_, ?_⟩
            · have h := HWR.out.put 0 (.int .i64 ((n : Int) + 1))
              have e : kU c.kind v (n + 1) = (n : Int) + 1 := by
                show (if kname ((n + 1 : Nat) : Int) = v then ((n + 1 : Nat) : Int) else _) = _
                rw [if_pos (by rw [Int.natCast_add]; exact HV1.out), Int.natCast_add]; rfl
              rw [e]
              exact h
            · exact grown_set HGR.out _
          case measure => have := HLT.out; omega
        · have te : (ns.toList == vs.toList) = false := by rw [← hns, ← HVS.out, str_toList, str_toList, beq_eq_false_iff_ne]; exact hv1
          have HV1 := Lib.hid hv1; have HLT := Lib.hid hlt
          clear hns hv1 hlt
          go_wp2_with fail
          refine HN.out.mono ?_; rintro e w1 ⟨rfl, hw⟩
          obtain rfl := hw.symm
          clear hw
          go_wp2_with fail
          go_roundg (3 - (n + 1))
          case rel =>
            refine ⟨n + 1, HLT.out, rfl, by go_num, ?_, HGR.out⟩
            have e : kU c.kind v (n + 1) = kU c.kind v n := by
              show (if kname ((n + 1 : Nat) : Int) = v then ((n + 1 : Nat) : Int) else _) = _
              rw [if_neg (by rw [Int.natCast_add]; exact HV1.out)]
            rw [e]
            exact HWR.out
          case measure => have := HLT.out; omega
      · obtain rfl : n = 3 := by omega
        clear hlt c1 hn
        have hK : wr.cell? ⟨cb, 0, none⟩ = some (.int .i64 (kU c.kind v 3)) := HWR.out.cell 0
        rw [kU_all] at hK
        obtain ⟨K2, hK2⟩ : ∃ K2, (kindOf v).getD c.kind = K2 := ⟨_, rfl⟩
        rw [hK2] at hK
        have HK2 := Lib.hid hK2
        clear hK2
        have HEND : Hid (∀ z, z = decide (K2 ≠ 0) → SetTo c kv cb wd v w (.returned (.bool z)) wr) := by
          refine Lib.hid (fun z hz => ⟨HGR.out, ?_⟩)
          have hr : setP c wd v = if K2 = 0 then none else some { c with kind := K2 } := by
            unfold setP
            rw [if_pos HJ.out, HK2.out]
          by_cases h0 : K2 = 0
          · refine Or.inr ⟨by rw [hr, if_pos h0], ?_⟩
            rw [hz]; simp [h0]
          · refine Or.inl ⟨_, by rw [hr, if_neg h0], by rw [hz]; simp [h0], ?_⟩
            have := HWR.out
            rw [kU_all, HK2.out] at this
            exact this
        go_wp2_with fail
        go_ret
        exact HEND.out _ (by by_cases h : K2 = 0 <;> simp [h])
  · have HNJ := Lib.hid hjob
    rw [decide_eq_false hjob] at e1
    by_cases hno : (wd = wSup ∧ kd ≠ 3) ∨ ¬ (wd = wSup ∨ wd = wSize ∨ wd = wWork ∨ wd = wCap)
    · have HP : Hid (setP c wd v = none) := by
        refine Lib.hid ?_
        unfold setP
        rw [if_neg hjob]
        rcases hno with h | h
        · rw [if_pos (by rw [HKD.out]; exact h)]
        · have h1 : ¬ (wd = wSup ∧ c.kind ≠ 3) := fun hh => h (Or.inl hh.1)
          rw [if_neg h1, if_neg h]
      have hcs : (decide (wd = wSup) = true ∧ kd ≠ 3) ∨ (decide (wd = wSup) = false ∧ decide (wd = wSize) = false ∧ decide (wd = wWork) = false ∧ decide (wd = wCap) = false) := by
        rcases hno with ⟨h1, h2⟩ | h
        · exact Or.inl ⟨decide_eq_true h1, h2⟩
        · exact Or.inr ⟨decide_eq_false (fun e => h (Or.inl e)), decide_eq_false (fun e => h (Or.inr (Or.inl e))), decide_eq_false (fun e => h (Or.inr (Or.inr (Or.inl e)))), decide_eq_false (fun e => h (Or.inr (Or.inr (Or.inr e))))⟩
      clear hno hjob hk
      rcases hcs with ⟨g1, g2⟩ | ⟨g1, g2, g3, g4⟩
      · rw [g1] at e3
        clear g1 e4 e5 e6
        go_enter Tryz.func35, Tryz.ntmps35
        go_wp2_with fail
        go_ret
        exact setTo_no (World.grownBy.refl _ _) HP.out
      · rw [g1] at e3
        rw [g2] at e4
        rw [g3] at e5
        rw [g4] at e6
        clear g1 g2 g3 g4
        go_enter Tryz.func35, Tryz.ntmps35
        go_wp2_with fail
        go_ret
        exact setTo_no (World.grownBy.refl _ _) HP.out
    · have hns : ¬ (wd = wSup ∧ c.kind ≠ 3) := fun h => hno (Or.inl (by rw [← HKD.out]; exact h))
      have hin : wd = wSup ∨ wd = wSize ∨ wd = wWork ∨ wd = wCap := by
        by_cases h : wd = wSup ∨ wd = wSize ∨ wd = wWork ∨ wd = wCap
        · exact h
        · exact absurd (Or.inr h) hno
      have HNS := Lib.hid hns; have HIN := Lib.hid hin
      have hcs : ((s.toList == [115, 117, 112, 112, 111, 114, 116]) = true ∧ kd = 3) ∨ ((s.toList == [115, 117, 112, 112, 111, 114, 116]) = false ∧ (s.toList == [115, 105, 122, 101]) = true) ∨
          ((s.toList == [115, 117, 112, 112, 111, 114, 116]) = false ∧ (s.toList == [115, 105, 122, 101]) = false ∧ (s.toList == [119, 111, 114, 107, 101, 114, 115]) = true) ∨
          ((s.toList == [115, 117, 112, 112, 111, 114, 116]) = false ∧ (s.toList == [115, 105, 122, 101]) = false ∧ (s.toList == [119, 111, 114, 107, 101, 114, 115]) = false ∧ (s.toList == [99, 97, 112]) = true) := by
        rw [e3, e4, e5, e6]
        rcases hin with h | h | h | h
        · refine Or.inl ⟨decide_eq_true h, ?_⟩
          by_cases h3 : kd = 3
          · exact h3
          · exact absurd (Or.inl ⟨h, h3⟩) hno
        · subst h; exact Or.inr (Or.inl ⟨by decide, by decide⟩)
        · subst h; exact Or.inr (Or.inr (Or.inl ⟨by decide, by decide, by decide⟩))
        · subst h; exact Or.inr (Or.inr (Or.inr ⟨by decide, by decide, by decide, by decide⟩))
      clear hno hns hin e3 e4 e5 e6 hjob hk
      obtain ⟨y0, hy0⟩ := HOFF.out
      have HY := Lib.hid hy0
      clear hy0
      rcases hcs with ⟨g1, rfl⟩ | ⟨g1, g2⟩ | ⟨g1, g2, g3⟩ | ⟨g1, g2, g3, g4⟩
      all_goals
        go_enter Tryz.func35, Tryz.ntmps35
        go_wp2_with fail
        refine HNUM.out.mono ?_
        rintro e w1 ⟨hb1, n, ok, rfl, hok⟩
        have HB1 := Lib.hid hb1; have HOK := Lib.hid hok
        have hw1 := HW.out.below hb1 HW.out.lt
        have HW1 := Lib.hid hw1
        have c1 : w1.cell? ⟨cb, o, none⟩ = some (.int .i64 y0) := by rw [hw1.cell o]; exact HY.out
        have f1 := hw1.free o
        have hs1 := hw1.lt
        have HF := Lib.hid (HFLD.out w1)
        clear hb1 hok hw1
        go_wp2_with fail
        refine HF.out.mono ?_
        rintro e w2 ⟨rfl, hw⟩
        obtain rfl := hw.symm
        clear hw
        have HWI := Lib.hid (fun W => within_any n m W)
        have HEND : Hid (∀ z, z = (ok && decide (1 ≤ n ∧ n ≤ m)) → SetTo c kv cb wd v w (.returned (.bool z)) (w1.setCell ⟨cb, o, none⟩ (.int .i64 n))) := by
          refine Lib.hid (fun z hz => setTo_num (grown_set (grown_of_below HB1.out) _) HNJ.out HNS.out HIN.out HOK.out (by rw [HM.out]; exact hz) ?_)
          have h := HW1.out.put o (.int .i64 n)
          rw [← HO.out, cV_set] at h
          rw [← HO.out]
          exact h
        cases ok
        · go_wp2_with fail
          go_ret
          exact HEND.out _ (by simp)
        · go_wp2_with fail
          refine (HWI.out _).mono ?_
          rintro e w3 ⟨rfl, hw⟩
          obtain rfl := hw.symm
          clear hw
          go_wp2_with fail
          go_ret
          exact HEND.out _ (by simp)
end

section
open Go.RowKit

/-- Tests in memory of the call's own, behind a block. -/
def KeepV (w : World) (cb : Nat) (v : Value) (O : List (Int × Int)) : Prop := w.ownsRow (cb + 1) 44 2 v O.length (eL O)
theorem own_apart {w : World} {b b' e e' s s' n n' : Nat} {v v' : Value} {xs xs' : List Value} (h : w.ownsRow b e s v n xs) (h' : w.ownsRow b' e' s' v' n' xs') (hne : e ≠ e') : v.ownBlock = none ∨ v.ownBlock ≠ v'.ownBlock := by
  rcases h.2 with ⟨rfl, _⟩ | ⟨g, cap, cur, rfl, _, hh, _⟩
  · exact Or.inl rfl
  · rcases h'.2 with ⟨rfl, _⟩ | ⟨g', cap', cur', rfl, _, hh', _⟩
    · exact Or.inr (by simp [Value.ownBlock])
    · refine Or.inr (fun e => ?_)
      have e1 : g = g' := by simpa [Value.ownBlock] using e
      subst e1
      rw [hh] at hh'
      injection hh' with hh'
      injection hh' with _ h2
      exact hne h2
theorem KeepV.set {w w' : World} {cb : Nat} {v : Value} {O : List (Int × Int)} (h : KeepV w cb v O) (hg : w.grownBy w' (some cb)) : KeepV w' cb v O :=
  World.ownsRow.kept h hg (by
    cases hv : v.ownBlock with
    | none => exact Or.inl rfl
    | some k => exact Or.inr (fun e => by have := (World.ownsRow.lt h k hv).1; injection e with e; omega))
/-- What set tells and leaves. -/
def SetK (x : CK) (cb : Nat) (wd v : List UInt8) (w : World) (e : Ending) (w' : World) : Prop :=
  w.grownBy w' (some cb) ∧ ((∃ x' kv', setK x wd v = some x' ∧ e = .returned (.bool true) ∧ Whole w' cb 29 (cV x'.c kv') ∧ KeepV w' cb kv' x'.o) ∨ (setK x wd v = none ∧ e = .returned (.bool false)))
set_option maxRecDepth 100000 in
set_option maxHeartbeats 4000000 in
theorem setK_any (x : CK) (kv : Value) (cb : Nat) (wd v : List UInt8) (hv : v.length ≤ 100000) (w : World) (hg : GT w) (hW : Whole w cb 29 (cV x.c kv)) (hK : KeepV w cb kv x.o) :
    Calls Tryz.prog 35 #[.pointer (some ⟨cb, 0, none⟩), .string (str wd), .string (str v)] w (SetK x cb wd v w) := by
  by_cases hk : wd = wKeep
  · subst hk
    have HPA := Lib.hid (progParse_any v hv w hg)
    have HW := Lib.hid hW
    have hlt := hW.lt
    obtain ⟨vs, hvs⟩ : ∃ s, str v = s := ⟨_, rfl⟩
    rw [hvs] at HPA ⊢
    have HX : Hid (setK x wKeep v = keepC x.c (keepV v)) := Lib.hid (by unfold setK; rw [if_pos rfl])
    have HLT := Lib.hid hlt
    clear hg hW hK hvs hlt
    show Calls _ _ #[.pointer (some ⟨cb, 0, none⟩), .string ⟨#[107, 101, 101, 112]⟩, .string vs] _ _
    go_enter Tryz.func35, Tryz.ntmps35
    go_wp2_with fail
    refine HPA.out.mono ?_; rintro e w1 ⟨hb1, ⟨v1, O, rfl, hE, hn, ht⟩ | ⟨c, p, u, P, rfl, hf, hs, hP, hj, hx, hor⟩⟩
    · obtain ⟨A1, c1, rfl⟩ := own_form hE
      have hW1 := HW.out.below hb1 HLT.out
      have hKV : Hid (keepV v = some O) := Lib.hid (by rw [← ht]; exact keepV_some hn)
      have k5 : ∃ y, w1.cell? ⟨cb, 5, none⟩ = some y := ⟨_, hW1.cell 5⟩
      obtain ⟨y5, k5⟩ := k5
      have f5 := hW1.free 5
      obtain ⟨n, hnn⟩ : ∃ n, O.length = n := ⟨_, rfl⟩
      rw [hnn] at hE ⊢
      have hgr : w.grownBy (w1.setCell ⟨cb, 5, none⟩ (.slice A1 n c1)) (some cb) := grown_set (grown_of_below hb1) _
      have hW2 := hW1.put 5 (.slice A1 n c1)
      have hE2 : KeepV (w1.setCell ⟨cb, 5, none⟩ (.slice A1 n c1)) cb (.slice A1 n c1) O :=
        KeepV.set (w := w1) (show w1.ownsRow (cb + 1) 44 2 _ O.length _ by rw [hnn]; exact own_baseP hE HLT.out) (grown_set (World.grownBy.refl _ _) _)
      have HGR := Lib.hid hgr; have HW2 := Lib.hid hW2; have HE2 := Lib.hid hE2; have HNN := Lib.hid hnn
      clear hb1 hE hn ht hW1 hgr hW2 hE2 hnn
      by_cases h0 : 0 < n
      · have t1 : decide (0 < n) = true := decide_eq_true h0
        have t1' : decide ((0 : Int) < (n : Int)) = true := decide_eq_true (by omega)
        by_cases h15 : n ≤ 15
        · have t2 : decide (n ≤ 15) = true := decide_eq_true h15
          have t2' : decide ((n : Int) ≤ 15) = true := decide_eq_true (by omega)
          have HS : Hid (setK x wKeep v = some ⟨x.c, O⟩) := Lib.hid (by rw [HX.out, hKV.out]; exact if_pos ⟨fun e => by rw [e] at HNN; have := HNN.out; simp at this; omega, by rw [HNN.out]; exact h15⟩)
          clear h0 h15
          go_wp2_with fail
          go_ret
          exact ⟨HGR.out, Or.inl ⟨⟨x.c, O⟩, _, HS.out, rfl, HW2.out, HE2.out⟩⟩
        · have t2 : decide (n ≤ 15) = false := decide_eq_false h15
          have t2' : decide ((n : Int) ≤ 15) = false := decide_eq_false (by omega)
          have HS : Hid (setK x wKeep v = none) := Lib.hid (by rw [HX.out, hKV.out]; exact if_neg (fun e => h15 (by rw [← HNN.out]; exact e.2)))
          clear h0 h15
          go_wp2_with fail
          go_ret
          exact ⟨HGR.out, Or.inr ⟨HS.out, rfl⟩⟩
      · have t1 : decide (0 < n) = false := decide_eq_false h0
        have t1' : decide ((0 : Int) < (n : Int)) = false := decide_eq_false (by omega)
        have HS : Hid (setK x wKeep v = none) := Lib.hid (by rw [HX.out, hKV.out]; exact if_neg (fun e => e.1 (List.eq_nil_of_length_eq_zero (by rw [HNN.out]; omega))))
        clear h0
        go_wp2_with fail
        go_ret
        exact ⟨HGR.out, Or.inr ⟨HS.out, rfl⟩⟩
    · have hW1 := HW.out.below hb1 HLT.out
      have k5 : ∃ y, w1.cell? ⟨cb, 5, none⟩ = some y := ⟨_, hW1.cell 5⟩
      obtain ⟨y5, k5⟩ := k5
      have f5 := hW1.free 5
      have HS : Hid (setK x wKeep v = none) := Lib.hid (by rw [HX.out, ParseTo.none hs hP hj hx hor]; rfl)
      have HGR : Hid (w.grownBy (w1.setCell ⟨cb, 5, none⟩ (.slice none 0 0)) (some cb)) := Lib.hid (grown_set (grown_of_below hb1) _)
      obtain ⟨fb, fs, rfl, hfw⟩ := hf
      clear hb1 hs hP hj hx hor hW1 hfw
      go_wp2_with fail
      go_ret
      exact ⟨HGR.out, Or.inr ⟨HS.out, rfl⟩⟩
  · refine (set_any x.c kv cb wd v hk (by omega) w hg hW).mono ?_
    have hX : setK x wd v = (setP x.c wd v).map fun c => ⟨c, x.o⟩ := by unfold setK; rw [if_neg hk]
    rintro e w' ⟨hgr, ⟨c', hc, rfl, hW'⟩ | ⟨hc, rfl⟩⟩
    · refine ⟨hgr, Or.inl ⟨⟨c', x.o⟩, kv, by rw [hX, hc]; rfl, rfl, hW', hK.set hgr⟩⟩
    · exact ⟨hgr, Or.inr ⟨by rw [hX, hc]; rfl, rfl⟩⟩
end
end Go.Proofs.YtbbdammdiplagaaGreatDoor
