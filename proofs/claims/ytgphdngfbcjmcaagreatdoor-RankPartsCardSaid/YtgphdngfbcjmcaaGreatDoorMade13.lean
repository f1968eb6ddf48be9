/- fretworklaw13.Made: its contract. -/
import Derived.Test.YtgphdngfbcjmcaaGreatDoorOdag2
import Derived.Deep.QuietTactic
import Derived.BigQuiet
import Derived.WalkSmall
namespace Go.Proofs.YtgphdngfbcjmcaaGreatDoor
open Go.RowKit

/-- Lists of which an odag is made. -/
def GoodC (N : Nat) (C : List (List Int)) : Prop := 1 ≤ N ∧ N ≤ 5 ∧ C.length ≤ 12 ∧ (∀ l ∈ C, l.length = N) ∧ ∀ l ∈ C, ∀ x ∈ l, 0 ≤ x ∧ x ≤ 2147483647
/-- What Made tells. -/
def MadeTo (n : Int) (C : List (List Int)) (w : World) (e : Ending) (w' : World) : Prop :=
  (e = .returned (.tuple #[.pointer none, .bool false]) ∧ w' = w) ∨ ∃ (N : Nat) (p : Value), n = N ∧ GoodC N C ∧ e = .returned (.tuple #[p, .bool true]) ∧ OdagC w' p N C ∧ Below w.heap.size w w'
set_option maxRecDepth 100000 in
set_option maxHeartbeats 4000000 in
theorem made_any (n : Int) (C : List (List Int)) (v : Value) (w : World) (hv : ListsV w v C) (hC : C.length ≤ 9223372036854775807) (hL : ∀ l ∈ C, l.length ≤ 9223372036854775807) :
    Calls Tryz.prog 9 #[.int .i64 n, v] w (MadeTo n C w) := by
  obtain ⟨A, c, rfl⟩ := hv.form
  obtain ⟨m, hm⟩ : ∃ m, C.length = m := ⟨_, rfl⟩
  rw [hm] at hv hC ⊢
  have HV := Lib.hid hv; have HM := Lib.hid hm; have HL := Lib.hid hL
  clear hv hm hL
  have hcase : (decide (n < 1) = true) ∨ (decide (n < 1) = false ∧ decide (5 < n) = true) ∨ (decide (n < 1) = false ∧ decide (5 < n) = false ∧ decide ((12 : Int) < m) = true) ∨ ((decide (n < 1) = false ∧ decide (5 < n) = false ∧ decide ((12 : Int) < m) = false) ∧ (1 ≤ n ∧ n ≤ 5 ∧ m ≤ 12)) := by
    simp only [decide_eq_true_eq, decide_eq_false_iff_not]
    omega
  rcases hcase with t1 | ⟨t1, t2⟩ | ⟨t1, t2, t3⟩ | ⟨⟨t1, t2, t3⟩, h1, h5, h12⟩
  · go_enter Tryz.func9, Tryz.ntmps9
    go_wp2_with fail
    go_ret2
    exact Or.inl ⟨rfl, rfl⟩
  · go_enter Tryz.func9, Tryz.ntmps9
    go_wp2_with fail
    go_ret2
    exact Or.inl ⟨rfl, rfl⟩
  · go_enter Tryz.func9, Tryz.ntmps9
    go_wp2_with fail
    go_ret2
    exact Or.inl ⟨rfl, rfl⟩
  · obtain ⟨N, rfl⟩ := Int.eq_ofNat_of_zero_le (show 0 ≤ n by omega)
    have t3' : decide (12 < m) = false := decide_eq_false (by omega)
    have HN : Hid (1 ≤ N ∧ N ≤ 5 ∧ m ≤ 12) := Lib.hid ⟨by omega, by omega, h12⟩
    have n5 : (N : Int) ≤ 5 := by omega
    have n0 : (0 : Int) ≤ N := by omega
    clear h1 h5
    go_enter Tryz.func9, Tryz.ntmps9
    go_wp2_with fail
    clear t1 t2 t3 t3'
    go_loopg [6] m (fun gh yv wr => ∃ k, k ≤ m ∧ gh = m - k ∧ yv = .int .i64 (k : Nat) ∧ (∀ l ∈ C.take k, l.length = N ∧ ∀ x ∈ l, 0 ≤ x ∧ x ≤ 2147483647) ∧ wr = w)
    case atStart => exact ⟨0, Nat.zero_le _, rfl, rfl, by simp, rfl⟩
    case round =>
      obtain ⟨k, hk, rfl, rfl, hgood, rfl⟩ := hrel
      have HG := Lib.hid hgood
      clear hgood
      by_cases hlt : k < m
      · have hkC : k < C.length := by rw [HM.out]; exact hlt
        obtain ⟨bb, off, u, rfl, hc, hu⟩ := ListsV.pos HV.out hkC
        obtain ⟨l, hl⟩ : ∃ l, C[k] = l := ⟨_, rfl⟩
        have hmem : l ∈ C := by rw [← hl]; exact List.getElem_mem _
        rw [hl] at hu
        have hll := HL.out l hmem
        obtain ⟨hus, A2, c2, rfl, _⟩ := hu
        obtain ⟨q, hq⟩ : ∃ q, l.length = q := ⟨_, rfl⟩
        rw [hq] at hc hll
        have t3 : decide (k < m) = true := decide_eq_true hlt
        have j1 : (k : Int) < m := by omega
        have j2 : (0 : Int) ≤ k := by omega
        have HLT := Lib.hid hlt; have HUS := Lib.hid hus; have HQ := Lib.hid hq
        have htk : C.take (k + 1) = C.take k ++ [l] := by rw [List.take_succ_eq_append_getElem hkC, hl]
        have HTK := Lib.hid htk
        clear hlt hkC hl hmem hus hq htk
        by_cases hqN : q = N
        · subst hqN
          have t4 : ((q : Int) != q) = false := by simp
          go_wp2_with fail
          go_loopg [7] q (fun gh yv ws => ∃ t, t ≤ q ∧ gh = q - t ∧ yv = .int .i64 (t : Nat) ∧ (∀ j, j < t → 0 ≤ l.getD j 0 ∧ l.getD j 0 ≤ 2147483647) ∧ ws = wr)
          case atStart => exact ⟨0, Nat.zero_le _, rfl, rfl, fun j h => by omega, rfl⟩
          case round =>
            obtain ⟨t, ht, rfl, rfl, hin, rfl⟩ := hrel
            have HIN := Lib.hid hin
            clear hin
            by_cases htq : t < q
            · obtain ⟨b2, off2, rfl, hc2⟩ := HUS.out.pos (i := t) (by rw [HQ.out]; exact htq)
              obtain ⟨z, hz⟩ : ∃ z, l.getD t 0 = z := ⟨_, rfl⟩
              rw [hz] at hc2
              have t5 : decide (t < q) = true := decide_eq_true htq
              have j3 : (t : Int) < q := by omega
              have j4 : (0 : Int) ≤ t := by omega
              have HTQ := Lib.hid htq; have HZ := Lib.hid hz
              have hz2 : decide (z < 0) = true ∨ (decide (z < 0) = false ∧ decide (2147483647 < z) = true) ∨ ((decide (z < 0) = false ∧ decide (2147483647 < z) = false) ∧ (0 ≤ z ∧ z ≤ 2147483647)) := by
                simp only [decide_eq_true_eq, decide_eq_false_iff_not]
                omega
              clear htq hz
              rcases hz2 with t6 | ⟨t6, t7⟩ | ⟨⟨t6, t7⟩, hz⟩
              · go_wp2_with fail
                go_ret2
                exact Or.inl ⟨rfl, rfl⟩
              · go_wp2_with fail
                go_ret2
                exact Or.inl ⟨rfl, rfl⟩
              · have HZ2 := Lib.hid hz
                clear hz
                go_wp2_with fail
                go_roundg (q - (t + 1))
                case rel =>
                  refine ⟨t + 1, HTQ.out, rfl, by go_num, fun j hj => ?_, rfl⟩
                  rcases (by omega : j < t ∨ j = t) with h | rfl
                  · exact HIN.out j h
                  · rw [HZ.out]; exact HZ2.out
                case measure => have := HTQ.out; omega
            · obtain rfl : t = q := by omega
              have t5 : decide (t < t) = false := by simp
              have HNEW : Hid (∀ l' ∈ C.take (k + 1), l'.length = t ∧ ∀ x ∈ l', 0 ≤ x ∧ x ≤ 2147483647) := Lib.hid (fun l' hl' => by
                rw [HTK.out, List.mem_append, List.mem_singleton] at hl'
                rcases hl' with hl' | rfl
                · exact HG.out l' hl'
                · refine ⟨HQ.out, fun x hx => ?_⟩
                  obtain ⟨j, hj, rfl⟩ := List.getElem_of_mem hx
                  have h1 := HIN.out j (by rw [← HQ.out]; exact hj)
                  have e : l'.getD j 0 = l'[j] := by simp [List.getD, hj]
                  rw [e] at h1
                  exact h1)
              clear htq
              go_wp2_with fail
              go_roundg (m - (k + 1))
              case rel => exact ⟨k + 1, HLT.out, rfl, by go_num, HNEW.out, rfl⟩
              case measure => have := HLT.out; omega
        · have t4 : ((q : Int) != N) = true := by simp; omega
          have t4' : (q != N) = true := by simpa using hqN
          clear hqN
          go_wp2_with fail
          go_ret2
          exact Or.inl ⟨rfl, rfl⟩
      · obtain rfl : k = m := by omega
        have t3 : decide (k < k) = false := by simp
        have hall := HG.out
        rw [List.take_of_length_le (by rw [HM.out]; omega)] at hall
        have HGC : Hid (GoodC N C) := Lib.hid ⟨HN.out.1, HN.out.2.1, by rw [HM.out]; exact HN.out.2.2, fun l hl => (hall l hl).1, fun l hl => (hall l hl).2⟩
        have OF := Lib.hid (of_any N C _ wr HN.out.1 (by have := HN.out.2.1; omega) HV.out (by rw [HM.out]; have := HN.out.2.2; omega) (fun l hl => (hall l hl).1) (fun l hl => (hall l hl).2))
        clear hlt hall hk
        go_wp2_with fail
        refine OF.out.mono ?_; rintro e w2 ⟨p, rfl, ho, hb⟩
        have HO := Lib.hid ho; have HB := Lib.hid hb
        obtain ⟨ob, _, _, rfl, _⟩ := ho
        clear hb
        go_wp2_with fail
        go_quiet (fail)
        go_wp2_with fail
        go_ret2
        exact Or.inr ⟨N, _, rfl, HGC.out, rfl, odag_drew HO.out _, below_drewN' HB.out _⟩
end Go.Proofs.YtgphdngfbcjmcaaGreatDoor
