/- prog: Name, counts, Kind, wrong, number. -/
import Derived.Test.YtbbdammdiplagaaGreatDoorGlob
import Derived.Test.YtbbdammdiplagaaGreatDoorPg17P
import Derived.BigQuiet
import Derived.Deep.QuietTactic
import Derived.WalkSmall
import Derived.Deep.DeepCutAuto
import Derived.Deep.LoopGhost
import Derived.WalkSpells
namespace Go.Proofs.YtbbdammdiplagaaGreatDoor
open Go.RowKit

set_option maxRecDepth 100000 in
theorem name_any (k : Int) (w : World) : Calls Tryz.prog 40 #[.int .i64 k] w fun e w' => e = .returned (.string (str (nameB k))) ∧ w' = w := by
  by_cases h : 1 ≤ k ∧ k ≤ 8
  · rcases kind8 h.1 h.2 with rfl | rfl | rfl | rfl | rfl | rfl | rfl | rfl
    all_goals
      clear h
      go_enter Tryz.func40, Tryz.ntmps40
      go_wp2_with fail
      go_ret
      exact ⟨rfl, rfl⟩
  · have HE : Hid (nameB k = []) := Lib.hid (nameB_no (by omega))
    have n1 : (k == 1) = false := by simp; omega
    have n2 : (k == 2) = false := by simp; omega
    have n3 : (k == 3) = false := by simp; omega
    have n4 : (k == 4) = false := by simp; omega
    have n5 : (k == 5) = false := by simp; omega
    have n6 : (k == 6) = false := by simp; omega
    have n7 : (k == 7) = false := by simp; omega
    have n8 : (k == 8) = false := by simp; omega
    clear h
    go_enter Tryz.func40, Tryz.ntmps40
    go_wp2_with fail
    go_ret
    exact ⟨by rw [HE.out]; rfl, rfl⟩
set_option maxRecDepth 100000 in
theorem counts_any (k : Int) (w : World) : Calls Tryz.prog 41 #[.int .i64 k] w fun e w' => e = .returned (.bool (countsB k)) ∧ w' = w := by
  by_cases h : k = 2 ∨ k = 3 ∨ k = 4 ∨ k = 5 ∨ k = 7
  · rcases h with rfl | rfl | rfl | rfl | rfl
    all_goals
      go_enter Tryz.func41, Tryz.ntmps41
      go_wp2_with fail
      go_ret
      exact ⟨rfl, rfl⟩
  · have n2 : (k == 2) = false := by simp; omega
    have n3 : (k == 3) = false := by simp; omega
    have n4 : (k == 4) = false := by simp; omega
    have n5 : (k == 5) = false := by simp; omega
    have n7 : (k == 7) = false := by simp; omega
    have HE : Hid (countsB k = false) := Lib.hid (by unfold countsB; rw [n2, n3, n4, n5, n7]; rfl)
    clear h
    go_enter Tryz.func41, Tryz.ntmps41
    go_wp2_with fail
    go_ret
    exact ⟨by rw [HE.out]; rfl, rfl⟩
theorem kindF_at {s : List UInt8} {k : Int} (h1 : 1 ≤ k) (h8 : k ≤ 8) (hs : nameB k = s) : kindF s = k := by rw [← hs]; exact kindF_name h1 h8
theorem kindF_no {s : List UInt8} (h : ∀ i : Int, 1 ≤ i → i ≤ 8 → nameB i ≠ s) : kindF s = 0 := by
  by_cases hk : kindF s = 0
  · exact hk
  · obtain ⟨a, b, c⟩ := kindF_some hk
    exact absurd c (h _ a b)
set_option maxRecDepth 100000 in
set_option maxHeartbeats 2000000 in
theorem kind_any (s : List UInt8) (w : World) : Calls Tryz.prog 100 #[.string (str s)] w fun e w' => e = .returned (.int .i64 (kindF s)) ∧ w' = w := by
  have HN := Lib.hid (fun k W => name_any k W)
  obtain ⟨t, ht⟩ : ∃ t, str s = t := ⟨_, rfl⟩
  rw [ht]
  have HT : Hid (t.toList = s) := Lib.hid (by rw [← ht, str_toList])
  clear ht
  go_enter Tryz.func100, Tryz.ntmps100
  go_wp2_with fail
  go_loopg [3] 8 (fun g y wr => ∃ k : Nat, 1 ≤ k ∧ k ≤ 9 ∧ g = 9 - k ∧ y = .int .i64 (k : Nat) ∧ (∀ i : Int, 1 ≤ i → i < (k : Int) → nameB i ≠ s) ∧ w = wr)
  case atStart => exact ⟨1, by omega, by omega, by omega, rfl, fun i h1 h2 => by omega, rfl⟩
  case round =>
    obtain ⟨k, h1, h9, rfl, rfl, hall, rfl⟩ := hrel
    have HALL := Lib.hid hall
    clear hall
    by_cases hlt : k ≤ 8
    · have t3 : decide (k ≤ 8) = true := decide_eq_true hlt
      have t3' : decide ((k : Int) ≤ 8) = true := decide_eq_true (by omega)
      obtain ⟨u, hu⟩ : ∃ u, str (nameB (k : Int)) = u := ⟨_, rfl⟩
      have HNK := HN.out (k : Int) w
      rw [hu] at HNK
      have HU : Hid (u.toList = nameB (k : Int)) := Lib.hid (by rw [← hu, str_toList])
      have HNK := Lib.hid HNK; have HLT := Lib.hid hlt
      obtain ⟨z, hz⟩ : ∃ z, (u.toList == t.toList) = z := ⟨_, rfl⟩
      have HZ := Lib.hid hz
      clear hu hz hlt
      go_wp2_with fail
      refine HNK.out.mono ?_; rintro e w1 ⟨rfl, hw⟩; obtain rfl := hw.symm
      clear hw
      have t9 : (u.toList == t.toList) = z := HZ.out
      cases z with
      | true =>
        have HF : Hid (kindF s = (k : Int)) := Lib.hid (kindF_at (by omega) (by have := HLT.out; omega) (by
          have h := HZ.out
          rw [HU.out, HT.out, beq_iff_eq] at h
          exact h))
        go_wp2_with fail
        go_ret
        exact ⟨by rw [HF.out]; rfl, rfl⟩
      | false =>
        go_wp2_with fail
        go_roundg (9 - (k + 1))
        case rel =>
          refine ⟨k + 1, by omega, by have := HLT.out; omega, rfl, by go_num, fun i i1 i2 => ?_, rfl⟩
          by_cases hi : i < (k : Int)
          · exact HALL.out i i1 hi
          · obtain rfl : i = (k : Int) := by omega
            intro he
            have h := HZ.out
            rw [HU.out, HT.out, he] at h
            simp at h
        case measure => have := HLT.out; omega
    · obtain rfl : k = 9 := by omega
      have HF : Hid (kindF s = 0) := Lib.hid (kindF_no (fun i i1 i8 => HALL.out i i1 (by omega)))
      clear hlt
      go_wp2_with fail
      go_ret
      exact ⟨by rw [HF.out]; rfl, rfl⟩
set_option maxRecDepth 100000 in
set_option maxHeartbeats 2000000 in
theorem wrong_any (k n : Int) (w : World) : Calls Tryz.prog 45 #[.agg #[.int .i64 k, .int .i64 n]] w fun e w' => e = .returned (.int .i64 (wrongF (k, n))) ∧ Below w.heap.size w w' := by
  have HB := Lib.hid ((Below.refl w.heap.size w).alloc (Nat.le_refl _) (.cells #[.int .i64 k, .int .i64 n] 44))
  by_cases h : 1 ≤ k ∧ k ≤ 8
  · obtain ⟨z, hz⟩ : ∃ z, countsB k = z := ⟨_, rfl⟩
    cases z with
    | true =>
      by_cases n0 : n < 0
      · have t1 : decide (n < 0) = true := decide_eq_true n0
        have HF : Hid (wrongF (k, n) = 3) := Lib.hid (by unfold wrongF; simp only; rw [if_neg (by omega), if_pos hz, if_pos (Or.inl n0)])
        clear n0
        rcases kind8 h.1 h.2 with rfl | rfl | rfl | rfl | rfl | rfl | rfl | rfl
        all_goals first
          | (exact absurd hz (by decide))
          | (clear h hz
             go_enter Tryz.func45, Tryz.ntmps45
             go_wp2_with fail
             go_ret
             exact ⟨by rw [HF.out]; rfl, HB.out⟩)
      · have t1 : decide (n < 0) = false := decide_eq_false n0
        by_cases n1 : 255 < n
        · have t2 : decide (255 < n) = true := decide_eq_true n1
          have HF : Hid (wrongF (k, n) = 3) := Lib.hid (by unfold wrongF; simp only; rw [if_neg (by omega), if_pos hz, if_pos (Or.inr n1)])
          clear n0 n1
          rcases kind8 h.1 h.2 with rfl | rfl | rfl | rfl | rfl | rfl | rfl | rfl
          all_goals first
            | (exact absurd hz (by decide))
            | (clear h hz
               go_enter Tryz.func45, Tryz.ntmps45
               go_wp2_with fail
               go_ret
               exact ⟨by rw [HF.out]; rfl, HB.out⟩)
        · have t2 : decide (255 < n) = false := decide_eq_false n1
          have HF : Hid (wrongF (k, n) = 0) := Lib.hid (by unfold wrongF; simp only; rw [if_neg (by omega), if_pos hz, if_neg (by omega)])
          clear n0 n1
          rcases kind8 h.1 h.2 with rfl | rfl | rfl | rfl | rfl | rfl | rfl | rfl
          all_goals first
            | (exact absurd hz (by decide))
            | (clear h hz
               go_enter Tryz.func45, Tryz.ntmps45
               go_wp2_with fail
               go_ret
               exact ⟨by rw [HF.out]; rfl, HB.out⟩)
    | false =>
      by_cases n0 : n = 0
      · subst n0
        have HF : Hid (wrongF (k, 0) = 0) := Lib.hid (by unfold wrongF; simp only; rw [if_neg (by omega), if_neg (by rw [hz]; decide), if_pos trivial])
        rcases kind8 h.1 h.2 with rfl | rfl | rfl | rfl | rfl | rfl | rfl | rfl
        all_goals first
          | (exact absurd hz (by decide))
          | (clear h hz
             go_enter Tryz.func45, Tryz.ntmps45
             go_wp2_with fail
             go_ret
             exact ⟨by rw [HF.out]; rfl, HB.out⟩)
      · have t1 : (n != 0) = true := by simpa using n0
        have HF : Hid (wrongF (k, n) = 3) := Lib.hid (by unfold wrongF; simp only; rw [if_neg (by omega), if_neg (by rw [hz]; decide), if_neg n0])
        clear n0
        rcases kind8 h.1 h.2 with rfl | rfl | rfl | rfl | rfl | rfl | rfl | rfl
        all_goals first
          | (exact absurd hz (by decide))
          | (clear h hz
             go_enter Tryz.func45, Tryz.ntmps45
             go_wp2_with fail
             go_ret
             exact ⟨by rw [HF.out]; rfl, HB.out⟩)
  · have n1 : (k == 1) = false := by simp; omega
    have n2 : (k == 2) = false := by simp; omega
    have n3 : (k == 3) = false := by simp; omega
    have n4 : (k == 4) = false := by simp; omega
    have n5 : (k == 5) = false := by simp; omega
    have n6 : (k == 6) = false := by simp; omega
    have n7 : (k == 7) = false := by simp; omega
    have n8 : (k == 8) = false := by simp; omega
    have HF : Hid (wrongF (k, n) = 1) := Lib.hid (by unfold wrongF; simp only; rw [if_pos (by omega)])
    clear h
    go_enter Tryz.func45, Tryz.ntmps45
    go_wp2_with fail
    go_ret
    exact ⟨by rw [HF.out]; rfl, HB.out⟩
/-- What number tells. -/
def NumTo (l : List UInt8) (w : World) (e : Ending) (w' : World) : Prop :=
  Below w.heap.size w w' ∧ ∃ (n : Int) (ok : Bool), e = .returned (.tuple #[.int .i64 n, .bool ok]) ∧ ((ok = true ∧ 0 ≤ n ∧ n ≤ 999999 ∧ Lib.decDigits n.toNat = l) ∨ (ok = false ∧ ∀ m : Nat, m ≤ 999999 → Lib.decDigits m ≠ l))
set_option maxRecDepth 100000 in
set_option maxHeartbeats 4000000 in
theorem number_any (l : List UInt8) (hl : l.length ≤ 1000000) (w : World) (hg : GT w) :
    Calls Tryz.prog 101 #[.string (str l)] w (NumTo l w) := by
  have HAT := Lib.hid (atoi_at l (by omega) w hg)
  have HG := Lib.hid hg
  have hsz : (str l).size = l.length := rfl
  obtain ⟨s, hs⟩ : ∃ s, str l = s := ⟨_, rfl⟩
  rw [hs] at HAT hsz ⊢
  have HS := Lib.hid hs
  obtain ⟨n, hn⟩ : ∃ n, l.length = n := ⟨_, rfl⟩
  rw [hn] at hsz hl
  have HN := Lib.hid hn
  have HSZ := Lib.hid hsz
  clear hg hs hn
  go_enter Tryz.func101, Tryz.ntmps101
  go_wp2_with fail
  refine HAT.out.mono ?_
  rintro e w1 ⟨hb1, ⟨v, hv, v0, v1, rfl⟩ | ⟨hno, x, N, rfl⟩⟩
  · have HB1 := Lib.hid hb1; have HV := Lib.hid hv
    have HI := fun (hv0 : 0 ≤ v) => itoa_at v.toNat (by omega) w1 (HG.out.below hb1 (Nat.le_refl _))
    have HI := Lib.hid HI
    clear hb1 hv
    have hneg : v < 0 → ∀ m : Nat, m ≤ 999999 → Lib.decDigits m ≠ l := fun h m hm e => by
      have h2 := HV.out
      rw [← e, atoi_dec m (by omega)] at h2
      injection h2 with h2
      omega
    have HNEG := Lib.hid hneg
    clear hneg
    by_cases c1 : 0 ≤ v
    · have HI := HI.out c1
      rw [Int.toNat_of_nonneg c1] at HI
      obtain ⟨d, hd⟩ : ∃ d, str (Lib.decDigits v.toNat) = d := ⟨_, rfl⟩
      rw [hd] at HI
      have HI := Lib.hid HI; have HD := Lib.hid hd
      clear hd
      have t1 : decide (0 ≤ v) = true := decide_eq_true c1
      by_cases c2 : n ≤ 6
      · have t2 : decide ((s.size : Int) ≤ 6) = true := decide_eq_true (by omega)
        have t2' : decide (s.size ≤ 6) = true := decide_eq_true (by omega)
        clear hsz
        obtain ⟨z, hz⟩ : ∃ z, (d.toList == s.toList) = z := ⟨_, rfl⟩
        have HZ := Lib.hid hz; have HC1 := Lib.hid c1; have HC2 := Lib.hid c2
        clear hz
        go_wp2_with fail
        refine HI.out.mono ?_; rintro e w2 ⟨rfl, hb2⟩
        have HB2 := Lib.hid hb2
        have hbb := HB1.out.trans (hb2.mono HB1.out.size)
        have HBB := Lib.hid hbb
        clear hb2 hbb
        have t9 : (d.toList == s.toList) = z := HZ.out
        go_wp2_with fail
        go_ret2
        refine ⟨HBB.out, v, _, rfl, ?_⟩
        cases z with
        | true =>
          have he : Lib.decDigits v.toNat = l := by
            have h := HZ.out
            rw [← HD.out, ← HS.out, str_toList, str_toList, beq_iff_eq] at h
            exact h
          have hl6 : (Lib.decDigits v.toNat).length ≤ 6 := by rw [he, HN.out]; exact HC2.out
          have := (dec_len_iff v.toNat 6 (by decide)).1 hl6
          exact Or.inl ⟨rfl, HC1.out, by omega, he⟩
        | false =>
          refine Or.inr ⟨rfl, fun m hm e => ?_⟩
          have h2 := HV.out
          rw [← e, atoi_dec m (by omega)] at h2
          injection h2 with h2
          have h := HZ.out
          rw [← HD.out, ← HS.out, str_toList, str_toList, ← h2, Int.toNat_natCast, e] at h
          simp at h
      · have t2 : decide ((s.size : Int) ≤ 6) = false := decide_eq_false (by omega)
        have t2' : decide (s.size ≤ 6) = false := decide_eq_false (by omega)
        have HC2 := Lib.hid c2
        clear hsz c2
        go_wp2_with fail
        go_ret2
        refine ⟨HB1.out, v, false, rfl, Or.inr ⟨rfl, fun m hm e => ?_⟩⟩
        have h6 := (dec_len_iff m 6 (by decide)).2 (by omega)
        rw [e, HN.out] at h6
        exact HC2.out h6
    · have t1 : decide (0 ≤ v) = false := decide_eq_false c1
      have HC1 := Lib.hid c1
      clear c1
      go_wp2_with fail
      go_ret2
      exact ⟨HB1.out, v, false, rfl, Or.inr ⟨rfl, HNEG.out (by have := HC1.out; omega)⟩⟩
  · have HNO := Lib.hid hno; have HB1 := Lib.hid hb1
    clear hno hb1
    go_wp2_with fail
    go_ret2
    exact ⟨HB1.out, x, false, rfl, Or.inr ⟨rfl, fun m hm e => HNO.out m (by rw [← e]; exact atoi_dec m (by omega))⟩⟩
/-- number, by the pure reading. -/
def NumC (v : List UInt8) (w : World) (e : Ending) (w' : World) : Prop :=
  Below w.heap.size w w' ∧ ∃ (n : Int) (ok : Bool), e = .returned (.tuple #[.int .i64 n, .bool ok]) ∧ ((ok = true ∧ numB6 v = some n) ∨ (ok = false ∧ numB6 v = none))
theorem number_c (v : List UInt8) (hv : v.length ≤ 1000000) (w : World) (hg : GT w) : Calls Tryz.prog 101 #[.string (str v)] w (NumC v w) := by
  refine (number_any v hv w hg).mono ?_
  rintro e w' ⟨hb, n, ok, rfl, ⟨rfl, h0, h1, he⟩ | ⟨rfl, hno⟩⟩
  · refine ⟨hb, n, true, rfl, Or.inl ⟨rfl, ?_⟩⟩
    have := numB6_dec (m := n.toNat) (by omega)
    rw [he, Int.toNat_of_nonneg h0] at this
    exact this
  · refine ⟨hb, n, false, rfl, Or.inr ⟨rfl, ?_⟩⟩
    cases h : numB6 v with
    | none => rfl
    | some x =>
      obtain ⟨a, b, c⟩ := numB6_some h
      exact absurd c (hno x.toNat (by omega))
end Go.Proofs.YtbbdammdiplagaaGreatDoor
