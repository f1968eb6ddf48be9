/- Odags: next, Row, Links: contracts. -/
import Derived.Test.YtcmocigckcjdjaaGreatDoorOdag1
namespace Go.Proofs.YtcmocigckcjdjaaGreatDoor
open Go.RowKit

theorem seqC_drew {w : World} {v : Value} {L : List Int} (h : SeqC w v L) (q : Nat) : SeqC (w.drewN q) v L := h.below (below_drewN' (Below.refl _ _) q) (Nat.le_refl _)
theorem odag_drew {w : World} {v : Value} {n : Nat} {C : List (List Int)} (h : OdagC w v n C) (q : Nat) : OdagC (w.drewN q) v n C := h.below (below_drewN' (Below.refl _ _) q) (Nat.le_refl _)
set_option maxRecDepth 100000 in
set_option maxHeartbeats 1000000 in
theorem next_any {w : World} {v : Value} {n : Nat} {C : List (List Int)} (h : OdagC w v n C) (hC : C.length ≤ 100000) (hn8 : n ≤ 8) (i : Nat) (hi : i + 1 < n) (a : Int) :
    Calls Tryz.prog 27 #[v, .int .i64 i, .int .i64 a] w fun e w' => ∃ u, e = .returned u ∧ SeqC w' u (linkP C i a) ∧ ∃ q, w' = w.drewN q := by
  have HR := Lib.hid (row_any h i)
  rw [rowAt_in (show i < n by omega)] at HR
  have HL := Lib.hid (fun q => len_any (odag_drew h q))
  have HO := Lib.hid h
  have HCL := Lib.hid (row_len C i)
  obtain ⟨b, vr, vk, rfl, hw, hr, hk⟩ := h
  obtain ⟨Ak, ck, rfl⟩ := hk.form
  have hkl : (allLinksP n C).length = n - 1 := by simp [allLinksP]
  obtain ⟨kb, koff, ku, rfl, cku, hku⟩ := hk.pos (i := i) (by rw [hkl]; omega)
  rw [show (allLinksP n C)[i]'(by rw [hkl]; omega) = linksP C i by simp [allLinksP]] at hku
  rw [hkl] at hw hk
  have hlen : (linksP C i).length = (rowP C i).length := by unfold linksP; rw [List.length_map]
  obtain ⟨Al, cl, rfl⟩ := hku.form
  rw [hlen] at hku cku
  obtain ⟨m, hm⟩ : ∃ m, (rowP C i).length = m := ⟨_, rfl⟩
  rw [hm] at cku hku
  have c1 : w.cell? ⟨b, 1, none⟩ = some (.slice (some ⟨kb, koff, none⟩) (n - 1) ck) := hw.cell 1
  have hn1 : ((n - 1 : Nat) : Int) = (n : Int) - 1 := by omega
  have i1 : (i : Int) < (n - 1 : Nat) := by omega
  have i2 : (0 : Int) ≤ i := by omega
  obtain ⟨n1, hN1⟩ : ∃ x, n - 1 = x := ⟨_, rfl⟩
  rw [hN1] at c1 i1 hn1
  have HKU := Lib.hid hku; have HM := Lib.hid hm; have HN1 := Lib.hid hn1
  have hlink : a ∉ rowP C i → linkP C i a = [] := link_none
  have HNONE := Lib.hid hlink
  have hidx := fun hx : a ∈ rowP C i => rankL_at (row_rising C i) hx
  have HIDX := Lib.hid hidx
  have HIN := Lib.hid hi
  clear hr hk hw hlen hkl hku hm hlink hidx hN1 hn1 hi
  go_enter Tryz.func27, Tryz.ntmps27
  go_wp2_with fail
  refine HR.out.mono ?_; rintro e w1 ⟨u1, rfl, hu1, hw1⟩; obtain rfl := hw1.symm
  have BS := Lib.hid (bs_any hu1.1 (row_rising C i) (by have := HCL.out; omega) a)
  obtain ⟨_, A1, c1', rfl, _⟩ := hu1
  rw [HM.out] at BS ⊢
  by_cases hx : a ∈ rowP C i
  · have hb : (rowP C i).contains a = true := by simpa using hx
    rw [hb] at BS
    obtain ⟨k1, k2⟩ := HIDX.out hx
    rw [HM.out] at k1
    obtain ⟨k, hk⟩ : ∃ k, rankL (rowP C i) a = k := ⟨_, rfl⟩
    rw [hk] at BS k1 k2
    have hll : (linksP C i)[k]? = some (linkP C i a) := by
      unfold linksP
      rw [List.getElem?_map, List.getElem?_eq_getElem (by rw [HM.out]; exact k1)]
      have : (rowP C i)[k]'(by rw [HM.out]; exact k1) = a := by simpa [List.getD, HM.out, k1] using k2
      rw [this]
      rfl
    obtain ⟨hkl, hkg⟩ := List.getElem?_eq_some_iff.1 hll
    obtain ⟨lb, loff, lu, rfl, clu, hlu⟩ := HKU.out.pos hkl
    rw [hkg] at hlu
    obtain ⟨T, hT⟩ : ∃ T, linkP C i a = T := ⟨_, rfl⟩
    rw [hT] at hlu
    have HLU := Lib.hid hlu
    obtain ⟨_, A5, c5, rfl, _⟩ := hlu
    have t1 : ((i : Int) == (n : Int) - 1) = false := by simp; have := HIN.out; omega
    have i3 : (k : Int) < m := by omega
    have i4 : (0 : Int) ≤ k := by omega
    have HT := Lib.hid hT
    have i9 : (1 : Int) ≤ n := by have := HIN.out; omega
    have i10 : (n : Int) ≤ 8 := by omega
    clear hx hb k1 k2 hk hll hkl hkg hT
    go_wp2_with fail
    refine BS.out.mono ?_; rintro e w2 ⟨rfl, q, hw2⟩
    have HW2 := Lib.hid hw2
    have HL2 := Lib.hid (HL.out q)
    clear hw2
    rw [HW2.out]
    go_wp2_with fail
    refine HL2.out.mono ?_; rintro e w3 ⟨rfl, hw3⟩
    have HW3 := Lib.hid hw3
    clear hw3
    rw [HW3.out]
    go_wp2_with fail
    go_ret
    exact ⟨_, rfl, by rw [HT.out]; exact seqC_drew HLU.out q, q, rfl⟩
  · have hb : (rowP C i).contains a = false := by simpa using hx
    rw [hb] at BS
    have HX := Lib.hid (HNONE.out hx)
    clear hx hb
    go_wp2_with fail
    refine BS.out.mono ?_; rintro e w2 ⟨rfl, q, hw2⟩
    have HW2 := Lib.hid hw2
    clear hw2
    go_wp2_with fail
    go_ret
    exact ⟨_, rfl, by rw [HX.out]; exact seqC_none _, q, HW2.out⟩

/-- slices.Clone of numbers. -/
theorem clone_any {w : World} {v : Value} {L : List Int} (h : SeqV w v L) (hl : L.length ≤ 1000000) :
    Calls Tryz.prog 40 #[v] w fun e w' => ∃ u, e = .returned u ∧ w'.ownsRow w.heap.size 3 1 u L.length (intCells L) ∧ Below w.heap.size w w' := by
  rcases h with ⟨h0, A, c, rfl⟩ | ⟨h0, b, off, c, rfl, hc⟩
  · have hL : L = [] := List.eq_nil_of_length_eq_zero h0
    subst hL
    rcases A with _ | a
    · refine (Tryz.slices_Clone_int_nil 0 c w).mono ?_
      rintro e w1 ⟨rfl, hw⟩
      subst hw
      exact ⟨_, rfl, World.ownsRow_nil _ _ _ _, Below.refl _ _⟩
    · refine (Tryz.slices_Clone_int_zero a c w).mono ?_
      rintro e w1 ⟨v1, rfl, hown, _, hb1⟩
      exact ⟨v1, rfl, hown, hb1⟩
  · have C1 := Tryz.slices_Clone_int b off L.length c L w (Nat.le_refl _) (by omega) (fun j hj => hc j hj)
    rw [List.take_length] at C1
    refine C1.mono ?_
    rintro e w1 ⟨v1, rfl, hown, _, hb1⟩
    exact ⟨v1, rfl, hown, hb1⟩
theorem rowC_any {w : World} {v : Value} {n : Nat} {C : List (List Int)} (h : OdagC w v n C) (hC : C.length ≤ 100000) (i : Int) :
    Calls Tryz.prog 21 #[v, .int .i64 i] w fun e w' => ∃ u, e = .returned u ∧ w'.ownsRow w.heap.size 3 1 u (rowAt n C i).length (intCells (rowAt n C i)) ∧ Below w.heap.size w w' := by
  have HR := Lib.hid (row_any h i)
  have hlen : (rowAt n C i).length ≤ 1000000 := by
    unfold rowAt
    split
    · have := row_len C i.toNat; omega
    · simp
  have HLEN := Lib.hid hlen
  obtain ⟨b, vr, vk, rfl, _⟩ := h
  obtain ⟨T, hT⟩ : ∃ T, rowAt n C i = T := ⟨_, rfl⟩
  rw [hT] at HR HLEN ⊢
  obtain ⟨m, hm⟩ : ∃ m, T.length = m := ⟨_, rfl⟩
  rw [hm]
  have HM := Lib.hid hm
  clear hlen hT hm hC
  go_enter Tryz.func21, Tryz.ntmps21
  go_wp2_with fail
  refine HR.out.mono ?_; rintro e w1 ⟨u1, rfl, hu1, hw1⟩; obtain rfl := hw1.symm
  have CL := Lib.hid (clone_any hu1.1 HLEN.out)
  obtain ⟨_, A1, c1, rfl, _⟩ := hu1
  rw [HM.out] at CL ⊢
  go_wp2_with fail
  refine CL.out.mono ?_; rintro e w2 ⟨u, rfl, hown, hb⟩
  obtain ⟨A2, c2, rfl⟩ := own_form hown
  have HO := Lib.hid hown; have HB := Lib.hid hb
  clear hown hb
  go_wp2_with fail
  go_ret
  exact ⟨_, rfl, HO.out, HB.out⟩
theorem linksC_any {w : World} {v : Value} {n : Nat} {C : List (List Int)} (h : OdagC w v n C) (hC : C.length ≤ 100000) (hn8 : n ≤ 8) (i : Nat) (hi : i + 1 < n) (a : Int) :
    Calls Tryz.prog 22 #[v, .int .i64 i, .int .i64 a] w fun e w' => ∃ u, e = .returned u ∧ w'.ownsRow w.heap.size 3 1 u (linkP C i a).length (intCells (linkP C i a)) ∧ Below w.heap.size w w' := by
  have HR := Lib.hid (next_any h hC hn8 i hi a)
  have HLEN := Lib.hid (link_len C i a)
  have HCC := Lib.hid hC
  obtain ⟨b, vr, vk, rfl, _⟩ := h
  obtain ⟨T, hT⟩ : ∃ T, linkP C i a = T := ⟨_, rfl⟩
  rw [hT] at HR HLEN ⊢
  obtain ⟨m, hm⟩ : ∃ m, T.length = m := ⟨_, rfl⟩
  rw [hm]
  have HM := Lib.hid hm
  clear hT hm hC hi
  go_enter Tryz.func22, Tryz.ntmps22
  go_wp2_with fail
  refine HR.out.mono ?_; rintro e w1 ⟨u1, rfl, hu1, q, hw1⟩
  have CL := Lib.hid (clone_any hu1.1 (by have := HLEN.out; have := HCC.out; omega))
  have HW1 := Lib.hid hw1
  obtain ⟨_, A1, c1, rfl, _⟩ := hu1
  rw [HM.out] at CL ⊢
  clear hw1
  go_wp2_with fail
  refine CL.out.mono ?_; rintro e w2 ⟨u, rfl, hown, hb⟩
  obtain ⟨A2, c2, rfl⟩ := own_form hown
  rw [HW1.out] at hown hb
  have HO := Lib.hid hown
  have HB : Hid (Below w.heap.size w w2) := Lib.hid ((below_drewN' (Below.refl _ _) q).trans (hb.mono (Nat.le_refl _)))
  clear hown hb
  go_wp2_with fail
  go_ret
  exact ⟨_, rfl, HO.out, HB.out⟩
end Go.Proofs.YtcmocigckcjdjaaGreatDoor
