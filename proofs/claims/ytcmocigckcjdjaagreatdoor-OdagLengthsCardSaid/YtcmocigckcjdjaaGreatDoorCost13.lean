/- odag: Cost: its contract. -/
import Derived.Test.YtcmocigckcjdjaaGreatDoorOdag2
namespace Go.Proofs.YtcmocigckcjdjaaGreatDoor
open Go.RowKit

theorem sum_take1 {α : Type} (f : α → Nat) {L : List α} {k : Nat} (h : k < L.length) : ((L.take (k + 1)).map f).sum = ((L.take k).map f).sum + f L[k] := by
  rw [List.take_succ_eq_append_getElem h, List.map_append, List.sum_append]
  simp
theorem sum_takeN {α : Type} (f : α → Nat) (m : Nat) {L : List α} (k : Nat) (h : ∀ x ∈ L, f x ≤ m) : ((L.take k).map f).sum ≤ L.length * m := by
  have h1 := sum_le_mul f m (L.take k) fun x hx => h x (List.mem_of_mem_take hx)
  rw [List.length_take] at h1
  exact Nat.le_trans h1 (Nat.mul_le_mul_right _ (Nat.min_le_right _ _))
/-- How many numbers stand in rows and links. -/
def costP (n : Nat) (C : List (List Int)) : Nat := ((rowsP n C).map List.length).sum + ((allLinksP n C).map fun T : List (List Int) => (T.map List.length).sum).sum
theorem cost_nil (w : World) : Calls Tryz.prog 20 #[.pointer none] w fun e w' => e = .returned (.int .i64 0) ∧ w' = w := by
  go_enter Tryz.func20, Tryz.ntmps20
  go_wp2_with fail
  go_ret
  exact ⟨rfl, rfl⟩
set_option maxRecDepth 100000 in
set_option maxHeartbeats 4000000 in
theorem cost_any {w : World} {v : Value} {n : Nat} {C : List (List Int)} (h : OdagC w v n C) (hn8 : n ≤ 8) (hC : C.length ≤ 1000) :
    Calls Tryz.prog 20 #[v] w fun e w' => e = .returned (.int .i64 (costP n C : Nat)) ∧ w' = w := by
  obtain ⟨ob, vr, vk, rfl, hw, hr, hk⟩ := h
  have hrl : (rowsP n C).length = n := by simp [rowsP]
  have hkl : (allLinksP n C).length = n - 1 := by simp [allLinksP]
  have hrb : ∀ L ∈ rowsP n C, L.length ≤ 1000 := fun L hL => by
    simp only [rowsP, List.mem_map, List.mem_range] at hL
    obtain ⟨i, _, rfl⟩ := hL
    exact Nat.le_trans (row_len C i) hC
  have hkb : ∀ T ∈ allLinksP n C, T.length ≤ 1000 ∧ ∀ L ∈ T, L.length ≤ 1000 := fun T hT => by
    simp only [allLinksP, List.mem_map, List.mem_range] at hT
    obtain ⟨i, _, rfl⟩ := hT
    refine ⟨by simp only [linksP, List.length_map]; exact Nat.le_trans (row_len C i) hC, fun L hL => ?_⟩
    simp only [linksP, List.mem_map] at hL
    obtain ⟨a, _, rfl⟩ := hL
    exact Nat.le_trans (link_len C i a) hC
  have hcost : ((rowsP n C).map List.length).sum + ((allLinksP n C).map fun T : List (List Int) => (T.map List.length).sum).sum = costP n C := rfl
  obtain ⟨R, hR⟩ : ∃ R, rowsP n C = R := ⟨_, rfl⟩
  obtain ⟨K, hK⟩ : ∃ K, allLinksP n C = K := ⟨_, rfl⟩
  rw [hR] at hr hrl hrb hcost
  rw [hK] at hk hkl hkb hcost
  have hrs : ∀ k, ((R.take k).map List.length).sum ≤ 8000 := fun k => Nat.le_trans (sum_takeN List.length 1000 k hrb) (by rw [hrl]; omega)
  have hkT : ∀ T ∈ K, (T.map List.length).sum ≤ 1000000 := fun T hT => by
    have h1 := sum_le_mul List.length 1000 T (hkb T hT).2
    have h2 := Nat.mul_le_mul_right 1000 (hkb T hT).1
    omega
  have hks : ∀ k, ((K.take k).map fun T : List (List Int) => (T.map List.length).sum).sum ≤ 8000000 := fun k => Nat.le_trans (sum_takeN (fun T : List (List Int) => (T.map List.length).sum) 1000000 k hkT) (by rw [hkl]; omega)
  have c0 : w.cell? ⟨ob, 0, none⟩ = some vr := hw.cell 0
  have c1 : w.cell? ⟨ob, 1, none⟩ = some vk := hw.cell 1
  obtain ⟨Ar, cr, rfl⟩ := hr.form
  obtain ⟨Ak, ck, rfl⟩ := hk.form
  obtain ⟨l, hl⟩ : ∃ l, n - 1 = l := ⟨_, rfl⟩
  rw [hl] at hkl
  rw [hrl] at hr c0
  rw [hkl] at hk c1
  have i1 : (n : Int) ≤ 8 := by omega
  have i2 : (l : Int) ≤ 8 := by omega
  have HR := Lib.hid hr; have HK := Lib.hid hk; have HRL := Lib.hid hrl; have HKL := Lib.hid hkl; have HRS := Lib.hid hrs; have HKS := Lib.hid hks; have HKB := Lib.hid hkb; have HCO := Lib.hid hcost; have HKT := Lib.hid hkT
  clear hw hr hk hrl hkl hrs hks hkb hcost hkT hrb hR hK hl
  go_enter Tryz.func20, Tryz.ntmps20
  go_wp2_with fail
  go_loopg [3, 17] n (fun gh x y wr => ∃ k, k ≤ n ∧ gh = n - k ∧ y = .int .i64 (k : Nat) ∧ x = .int .i64 ((((R.take k).map List.length).sum : Nat) : Int) ∧ wr = w)
  case atStart => exact ⟨0, Nat.zero_le _, rfl, rfl, by simp, rfl⟩
  case round =>
    obtain ⟨k, hk, rfl, rfl, rfl, rfl⟩ := hrel
    by_cases hlt : k < n
    · have hkR : k < R.length := by rw [HRL.out]; exact hlt
      obtain ⟨br, orr, u, rfl, hc, hu⟩ := HR.out.pos hkR
      obtain ⟨hua, A2, c2, rfl, hub⟩ := hu
      have hst := sum_take1 List.length hkR
      have hb1 := HRS.out k
      have hb2 := HRS.out (k + 1)
      obtain ⟨s, hs⟩ : ∃ s, ((R.take k).map List.length).sum = s := ⟨_, rfl⟩
      obtain ⟨m, hm⟩ : ∃ m, R[k].length = m := ⟨_, rfl⟩
      rw [hs] at hst hb1 ⊢
      rw [hm] at hst hc
      rw [hst] at hb2
      have HST := Lib.hid hst
      have t1 : decide (k < n) = true := decide_eq_true hlt
      have j1 : (k : Int) < n := by omega
      have j2 : (0 : Int) ≤ k := by omega
      have j3 : (s : Int) + m ≤ 8000 := by omega
      have HLT := Lib.hid hlt
      clear hua hub hkR hst hb1 hb2 hs hm hlt
      go_wp2_with fail
      go_roundg (n - (k + 1))
      case rel => exact ⟨k + 1, HLT.out, rfl, by go_num, by rw [HST.out]; go_num, rfl⟩
      case measure => have := HLT.out; omega
    · obtain rfl : k = n := by omega
      have t1 : decide (k < k) = false := by simp
      have hfull : R.take k = R := List.take_of_length_le (by rw [HRL.out]; exact Nat.le_refl _)
      have hb1 := HRS.out k
      rw [hfull] at hb1 ⊢
      obtain ⟨S, hS⟩ : ∃ s, (R.map List.length).sum = s := ⟨_, rfl⟩
      rw [hS] at hb1 ⊢
      have HSS := Lib.hid hS
      clear hlt hfull hS
      go_wp2_with fail
      go_loopg [3, 31] l (fun gh x y ws => ∃ t, t ≤ l ∧ gh = l - t ∧ y = .int .i64 (t : Nat) ∧ x = .int .i64 (((S + ((K.take t).map fun T : List (List Int) => (T.map List.length).sum).sum : Nat)) : Int) ∧ ws = wr)
      case atStart => exact ⟨0, Nat.zero_le _, rfl, rfl, by simp, rfl⟩
      case round =>
        obtain ⟨t, ht, rfl, rfl, rfl, rfl⟩ := hrel
        by_cases hlt : t < l
        · have htK : t < K.length := by rw [HKL.out]; exact hlt
          obtain ⟨bk, okk, uk, rfl, hck, huk⟩ := HK.out.pos htK
          obtain ⟨At, ct, rfl⟩ := huk.form
          have hst := sum_take1 (fun T : List (List Int) => (T.map List.length).sum) htK
          have hb2 := HKS.out t
          have hTb := HKT.out K[t] (List.getElem_mem _)
          have hTl := (HKB.out K[t] (List.getElem_mem _)).1
          obtain ⟨T, hT⟩ : ∃ T, K[t] = T := ⟨_, rfl⟩
          rw [hT] at huk hst hck hTb hTl
          obtain ⟨s, hs⟩ : ∃ s, ((K.take t).map fun T : List (List Int) => (T.map List.length).sum).sum = s := ⟨_, rfl⟩
          rw [hs] at hst hb2 ⊢
          obtain ⟨m, hm⟩ : ∃ m, T.length = m := ⟨_, rfl⟩
          rw [hm] at huk hck hTl
          have HUK := Lib.hid huk; have HM := Lib.hid hm; have HST := Lib.hid hst; have HTB := Lib.hid hTb
          have t2 : decide (t < l) = true := decide_eq_true hlt
          have j1 : (t : Int) < l := by omega
          have j2 : (0 : Int) ≤ t := by omega
          have HLT := Lib.hid hlt
          clear htK huk hst hT hs hm hlt hTb
          go_wp2_with fail
          go_loopg [3, 37] m (fun gh x y wv => ∃ j, j ≤ m ∧ gh = m - j ∧ y = .int .i64 (j : Nat) ∧ x = .int .i64 (((S + s + ((T.take j).map List.length).sum : Nat)) : Int) ∧ wv = wr)
          case atStart => exact ⟨0, Nat.zero_le _, rfl, rfl, by simp, rfl⟩
          case round =>
            obtain ⟨j, hj, rfl, rfl, rfl, rfl⟩ := hrel
            have hpre : ((T.take j).map List.length).sum ≤ 1000000 := Nat.le_trans (by
              have h1 : (T.map List.length).sum = ((T.take j).map List.length).sum + ((T.drop j).map List.length).sum := by
                rw [← List.sum_append, ← List.map_append, List.take_append_drop]
              omega) HTB.out
            by_cases hjm : j < m
            · have hjT : j < T.length := by rw [HM.out]; exact hjm
              obtain ⟨b3, o3, u3, rfl, hc3, hu3⟩ := HUK.out.pos hjT
              obtain ⟨hua, A3, c3, rfl, hub⟩ := hu3
              have hs3 := sum_take1 List.length hjT
              have hpl : T[j].length ≤ 1000000 := by
                have h1 : (T.map List.length).sum = ((T.take (j + 1)).map List.length).sum + ((T.drop (j + 1)).map List.length).sum := by
                  rw [← List.sum_append, ← List.map_append, List.take_append_drop]
                have := HTB.out
                omega
              obtain ⟨p, hp⟩ : ∃ p, ((T.take j).map List.length).sum = p := ⟨_, rfl⟩
              obtain ⟨q, hq⟩ : ∃ q, T[j].length = q := ⟨_, rfl⟩
              rw [hp] at hs3 hpre ⊢
              rw [hq] at hs3 hc3 hpl
              have HS3 := Lib.hid hs3
              have t3 : decide (j < m) = true := decide_eq_true hjm
              have k1 : (j : Int) < m := by omega
              have k2 : (0 : Int) ≤ j := by omega
              have k3 : (S : Int) + s + p + q ≤ 100000000 := by omega
              have HJM := Lib.hid hjm
              clear hua hub hjT hs3 hp hq hjm
              go_wp2_with fail
              go_roundg (m - (j + 1))
              case rel => exact ⟨j + 1, HJM.out, rfl, by go_num, by rw [HS3.out]; go_num, rfl⟩
              case measure => have := HJM.out; omega
            · obtain rfl : j = m := by omega
              have t3 : decide (j < j) = false := by simp
              have hfin : ((T.take j).map List.length).sum = (T.map List.length).sum := by rw [List.take_of_length_le (by rw [HM.out]; exact Nat.le_refl _)]
              rw [hfin] at hpre ⊢
              obtain ⟨p, hp⟩ : ∃ p, (T.map List.length).sum = p := ⟨_, rfl⟩
              rw [hp] at hpre HST ⊢
              clear hjm hfin hp
              go_wp2_with fail
              go_roundg (l - (t + 1))
              case rel => exact ⟨t + 1, HLT.out, rfl, by go_num, by rw [HST.out]; go_num, rfl⟩
              case measure => have := HLT.out; omega
        · obtain rfl : t = l := by omega
          have t2 : decide (t < t) = false := by simp
          have hfin : K.take t = K := List.take_of_length_le (by rw [HKL.out]; exact Nat.le_refl _)
          rw [hfin]
          have hco := HCO.out
          rw [HSS.out] at hco
          rw [hco]
          clear hlt hfin hco
          go_wp2_with fail
          go_ret
          exact ⟨rfl, rfl⟩
end Go.Proofs.YtcmocigckcjdjaaGreatDoor
