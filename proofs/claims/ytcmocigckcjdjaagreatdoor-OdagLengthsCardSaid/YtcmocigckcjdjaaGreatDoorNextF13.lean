/- odag: next, where the odag was made ahead of much else. -/
import Derived.Test.YtcmocigckcjdjaaGreatDoorOdag2
import Derived.Test.YtcmocigckcjdjaaGreatDoorWay
namespace Go.Proofs.YtcmocigckcjdjaaGreatDoor
open Go.RowKit

theorem OdagC.heap {Wo W : World} {v : Value} {n : Nat} {C : List (List Int)} (h : OdagC Wo v n C) (hb : ∀ b, b < Wo.heap.size → W.heap[b]? = Wo.heap[b]?) (hs : Wo.heap.size ≤ W.heap.size) : OdagC W v n C := by
  have k := OdagC.below h (worldOf_below hb hs) (Nat.le_refl _)
  exact k
set_option maxRecDepth 100000 in
set_option maxHeartbeats 1000000 in
theorem next_at {Wo w : World} {v : Value} {n : Nat} {C : List (List Int)} (h : OdagC Wo v n C) (hcells : ∀ b, b < Wo.heap.size → w.heap[b]? = Wo.heap[b]?) (hs : Wo.heap.size ≤ w.heap.size) (hC : C.length ≤ 100000) (hn8 : n ≤ 8) (i : Nat) (hi : i + 1 < n) (a : Int) :
    Calls Tryz.prog 27 #[v, .int .i64 i, .int .i64 a] w fun e w' => ∃ u, e = .returned u ∧ SeqC Wo u (linkP C i a) ∧ ∃ q, w' = w.drewN q := by
  have hw0 := h.heap hcells hs
  have HR := Lib.hid (row_any hw0 i)
  rw [rowAt_in (show i < n by omega)] at HR
  have HL := Lib.hid (fun q => len_any (odag_drew hw0 q))
  have HCL := Lib.hid (row_len C i)
  have cv : ∀ {p : Addr} {x : Value}, Wo.cell? p = some x → w.cell? p = some x := fun {p x} hp => (World.cell?_of_block (hcells p.block (World.block_lt_of_cell? _ _ hp))).trans hp
  obtain ⟨b, vr, vk, rfl, hw, hr, hk⟩ := h
  obtain ⟨Ak, ck, rfl⟩ := hk.form
  have hkl : (allLinksP n C).length = n - 1 := by simp [allLinksP]
  obtain ⟨kb, koff, ku, rfl, cku, hku⟩ := hk.pos (i := i) (by rw [hkl]; omega)
  rw [show (allLinksP n C)[i]'(by rw [hkl]; omega) = linksP C i by simp [allLinksP]] at hku
  rw [hkl] at hw hk
  have hlen : (linksP C i).length = (rowP C i).length := by unfold linksP; rw [List.length_map]
  obtain ⟨Al, cl, rfl⟩ := hku.form
  rw [hlen] at hku cku
  obtain ⟨m, hm⟩ : ∃ m, (rowP C i).length = m := ⟨_, rfl⟩
  rw [hm] at cku hku
  have c1 : w.cell? ⟨b, 1, none⟩ = some (.slice (some ⟨kb, koff, none⟩) (n - 1) ck) := cv (hw.cell 1)
  replace cku := cv cku
  have hn1 : ((n - 1 : Nat) : Int) = (n : Int) - 1 := by omega
  have i1 : (i : Int) < (n - 1 : Nat) := by omega
  have i2 : (0 : Int) ≤ i := by omega
  obtain ⟨n1, hN1⟩ : ∃ x, n - 1 = x := ⟨_, rfl⟩
  rw [hN1] at c1 i1 hn1
  have HKU := Lib.hid hku; have HM := Lib.hid hm; have HN1 := Lib.hid hn1
  have hlink : a ∉ rowP C i → linkP C i a = [] := link_none
  have HNONE := Lib.hid hlink
  have hidx := fun hx : a ∈ rowP C i => rankL_at (row_rising C i) hx
  have HIDX := Lib.hid hidx
  have HIN := Lib.hid hi
  have CV := Lib.hid (fun (p : Addr) (x : Value) (hp : Wo.cell? p = some x) => cv hp)
  clear hr hk hw hlen hkl hku hm hlink hidx hN1 hn1 hi hw0 hcells hs cv
  go_enter Tryz.func27, Tryz.ntmps27
  go_wp2_with fail
  refine HR.out.mono ?_; rintro e w1 ⟨u1, rfl, hu1, hw1⟩; obtain rfl := hw1.symm
  have BS := Lib.hid (bs_any hu1.1 (row_rising C i) (by have := HCL.out; omega) a)
  obtain ⟨_, A1, c1', rfl, _⟩ := hu1
  rw [HM.out] at BS ⊢
  by_cases hx : a ∈ rowP C i
  · have hb : (rowP C i).contains a = true := by simpa using hx
    rw [hb] at BS
    obtain ⟨k1, k2⟩ := HIDX.out hx
    rw [HM.out] at k1
    obtain ⟨k, hk⟩ : ∃ k, rankL (rowP C i) a = k := ⟨_, rfl⟩
    rw [hk] at BS k1 k2
    have hll : (linksP C i)[k]? = some (linkP C i a) := by
      unfold linksP
      rw [List.getElem?_map, List.getElem?_eq_getElem (by rw [HM.out]; exact k1)]
      have : (rowP C i)[k]'(by rw [HM.out]; exact k1) = a := by simpa [List.getD, HM.out, k1] using k2
      rw [this]
      rfl
    obtain ⟨hkl, hkg⟩ := List.getElem?_eq_some_iff.1 hll
    obtain ⟨lb, loff, lu, rfl, clu, hlu⟩ := HKU.out.pos hkl
    rw [hkg] at hlu
    replace clu := CV.out _ _ clu
    obtain ⟨T, hT⟩ : ∃ T, linkP C i a = T := ⟨_, rfl⟩
    rw [hT] at hlu
    have HLU := Lib.hid hlu
    obtain ⟨_, A5, c5, rfl, _⟩ := hlu
    have t1 : ((i : Int) == (n : Int) - 1) = false := by simp; have := HIN.out; omega
    have i3 : (k : Int) < m := by omega
    have i4 : (0 : Int) ≤ k := by omega
    have HT := Lib.hid hT
    have i9 : (1 : Int) ≤ n := by have := HIN.out; omega
    have i10 : (n : Int) ≤ 8 := by omega
    clear hx hb k1 k2 hk hll hkl hkg hT
    go_wp2_with fail
    refine BS.out.mono ?_; rintro e w2 ⟨rfl, q, hw2⟩
    have HW2 := Lib.hid hw2
    have HL2 := Lib.hid (HL.out q)
    clear hw2
    rw [HW2.out]
    go_wp2_with fail
    refine HL2.out.mono ?_; rintro e w3 ⟨rfl, hw3⟩
    have HW3 := Lib.hid hw3
    clear hw3
    rw [HW3.out]
    go_wp2_with fail
    go_ret
    exact ⟨_, rfl, by rw [HT.out]; exact HLU.out, q, rfl⟩
  · have hb : (rowP C i).contains a = false := by simpa using hx
    rw [hb] at BS
    have HX := Lib.hid (HNONE.out hx)
    clear hx hb
    go_wp2_with fail
    refine BS.out.mono ?_; rintro e w2 ⟨rfl, q, hw2⟩
    have HW2 := Lib.hid hw2
    clear hw2
    go_wp2_with fail
    go_ret
    exact ⟨_, rfl, by rw [HX.out]; exact seqC_none _, q, HW2.out⟩
end Go.Proofs.YtcmocigckcjdjaaGreatDoor
