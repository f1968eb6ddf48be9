/- The document's sets: Has, Add: their contracts (as in layer 6). The document's rows and links: Row, Linked: their contracts. Numbers and values appended at a step of a region that draws; lists that are the same. -/
import Derived.Test.YtgphdngfbcjmcaaGreatDoorRisP
import Derived.Test.YtgphdngfbcjmcaaGreatDoorSeq
import Derived.WalkSpells
import Derived.Test.YtgphdngfbcjmcaaGreatDoorOdP13
import Derived.Test.YtgphdngfbcjmcaaGreatDoorRowsOwn
import Derived.Test.YtgphdngfbcjmcaaGreatDoorAppVals
import Derived.Test.YtgphdngfbcjmcaaGreatDoorSameInts
import Derived.RegionTactic
import Derived.Deep.AppendLies
namespace Go.Proofs.YtgphdngfbcjmcaaGreatDoor
section
open Go.RowKit

theorem take_succ_contains (L : List Int) (x : Int) (k : Nat) (hk : k < L.length) : (L.take (k + 1)).contains x = ((L.take k).contains x || (L.getD k 0 == x)) := by
  have hg : L.getD k 0 = L[k] := by simp [List.getD, hk]
  rw [Bool.eq_iff_iff, Bool.or_eq_true, List.contains_iff_mem, List.contains_iff_mem, beq_iff_eq, List.take_succ_eq_append_getElem hk, List.mem_append, List.mem_singleton, hg]
  exact ⟨fun h => h.imp id Eq.symm, fun h => h.imp id Eq.symm⟩

set_option maxRecDepth 100000 in
set_option maxHeartbeats 1000000 in
theorem refHas_any (L : List Int) (x : Int) (v : Value) (w : World) (h : SeqV w v L) (hn : L.length ≤ 1000000000) :
    Calls Tryz.prog 68 #[v, .int .i64 x] w fun e w' => e = .returned (.bool (L.contains x)) ∧ w' = w := by
  obtain ⟨A, c, rfl⟩ := IntsV.form h
  obtain ⟨n, hl⟩ : ∃ n, L.length = n := ⟨_, rfl⟩
  have H : Hid (IntsV w (.slice A n c) n (fun i => L.getD i 0)) := Lib.hid (by rw [← hl]; exact h)
  have HL := Lib.hid hl
  rw [hl] at hn ⊢
  clear h hl
  go_enter Tryz.func68, Tryz.ntmps68
  go_wp2_with fail
  go_loopg [5] n (fun g y wr => ∃ k, k ≤ n ∧ g = n - k ∧ y = .int .i64 (k : Nat) ∧ (L.take k).contains x = false ∧ wr = w)
  case atStart => exact ⟨0, by omega, rfl, rfl, by simp, rfl⟩
  case round =>
    obtain ⟨k, hk, rfl, rfl, hno, rfl⟩ := hrel
    have HNO := Lib.hid hno
    clear hno
    by_cases hlt : k < n
    · obtain ⟨b, off, rfl, hcell⟩ := H.out.pos hlt
      have hc := hcell k hlt
      obtain ⟨z, hz⟩ : ∃ z : Int, L.getD k 0 = z := ⟨_, rfl⟩
      have hc' : wr.cell? ⟨b, off + k, none⟩ = some (.int .i64 z) := by rw [← hz]; exact hc
      have HT := Lib.hid (take_succ_contains L x k (by rw [HL.out]; exact hlt))
      have HZ := Lib.hid hz
      have HLT := Lib.hid hlt
      have t7 : decide (k < n) = true := decide_eq_true hlt
      have i1 : (k : Int) < n := by omega
      have i2 : (0 : Int) ≤ k := by omega
      clear hcell hc hz hlt
      by_cases hzx : z = x
      · have t8 : (z == x) = true := by simp [hzx]
        have HK : Hid (L.contains x = true) := Lib.hid (by
          have h1 := HT.out
          rw [HNO.out, HZ.out, t8] at h1
          simp at h1
          simpa using List.mem_of_mem_take h1)
        clear hzx
        go_wp2_with fail
        go_ret
        exact ⟨by rw [HK.out]; rfl, rfl⟩
      · have t8 : (z == x) = false := by simp [hzx]
        have HK : Hid ((L.take (k + 1)).contains x = false) := Lib.hid (by rw [HT.out, HNO.out, HZ.out, t8]; rfl)
        clear hzx
        go_wp2_with fail
        go_roundg (n - (k + 1))
        case rel => exact ⟨k + 1, HLT.out, rfl, by go_num, HK.out, rfl⟩
        case measure => have := HLT.out; omega
    · obtain rfl : k = n := by omega
      have t7 : decide (k < k) = false := by simp
      have HK : Hid (L.contains x = false) := Lib.hid (by have h1 := HNO.out; rwa [List.take_of_length_le (by rw [HL.out]; omega)] at h1)
      clear hlt
      go_wp2
      go_ret
      exact ⟨by rw [HK.out]; rfl, rfl⟩
set_option maxRecDepth 100000 in
set_option maxHeartbeats 4000000 in
theorem refAdd_any (L : List Int) (x : Int) (v : Value) (w : World) (h : SeqC w v L) (hn : L.length ≤ 100000000) :
    Calls Tryz.prog 51 #[v, .int .i64 x] w fun e w' => ∃ v', e = .returned v' ∧ SeqC w' v' (addR L x) ∧ Below w.heap.size w w' := by
  obtain ⟨i0, hi, hz0, hz1, hz2⟩ := info_parts Tryz.infoInt6
  obtain ⟨hs, A, c, rfl, hcap⟩ := id h
  have H0 := refHas_any L x _ w hs (by omega)
  cases hc : L.contains x with
  | true =>
    rw [hc] at H0
    have HH := Lib.hid H0
    have HR : Hid (addR L x = L) := Lib.hid (by unfold addR; rw [if_pos hc])
    have HS := Lib.hid h
    clear h hs H0 hc hcap
    go_enter Tryz.func51, Tryz.ntmps51
    go_wp2_with fail
    refine HH.out.mono ?_; rintro e w1 ⟨rfl, hw1⟩; obtain rfl := hw1.symm
    go_wp2_with fail
    go_ret
    exact ⟨_, rfl, by rw [HR.out]; exact HS.out, Below.refl _ _⟩
  | false =>
    rw [hc] at H0
    have HR : Hid (addR L x = L.take (lower L x) ++ [x] ++ L.drop (lower L x)) := Lib.hid (by unfold addR; rw [if_neg (by rw [hc]; simp)])
    obtain ⟨n, hl⟩ : ∃ n, L.length = n := ⟨_, rfl⟩
    have hs' : IntsV w (.slice A n c) n (fun i => L.getD i 0) := by have := hs; unfold SeqV at this; rw [hl] at this; exact this
    rw [hl] at H0
    have HH := Lib.hid H0
    have HS := Lib.hid hs'; have HL := Lib.hid hl
    have hlo := lower_le L x
    obtain ⟨m, hm⟩ : ∃ m, lower L x = m := ⟨_, rfl⟩
    have hlt' := lower_lt L x
    have hge' := lower_ge L x
    rw [hm] at hlo hlt' hge'
    rw [hl] at hlo hn hcap hge' ⊢
    have HM := Lib.hid hm; have HLT := Lib.hid hlt'; have HGE := Lib.hid hge'
    clear h hs hs' H0 hc hl hm hlt' hge'
    go_enter Tryz.func51, Tryz.ntmps51
    go_wp2_with fail
    refine HH.out.mono ?_; rintro e w1 ⟨rfl, hw1⟩; obtain rfl := hw1.symm
    go_wp2_with fail
    go_loopg [5] m (fun g y wr => ∃ k, k ≤ m ∧ g = m - k ∧ y = .int .i64 (k : Nat) ∧ wr = w)
    case atStart => exact ⟨0, by omega, rfl, rfl, rfl⟩
    case round =>
      obtain ⟨k, hk, rfl, rfl, rfl⟩ := hrel
      by_cases hkm : k < m
      · obtain ⟨b, off, rfl, hcell⟩ := HS.out.pos (show k < n by omega)
        have hc := hcell k (by omega)
        have hlt := HLT.out k hkm
        obtain ⟨z, hz⟩ : ∃ z : Int, L.getD k 0 = z := ⟨_, rfl⟩
        have hc' : wr.cell? ⟨b, off + k, none⟩ = some (.int .i64 z) := by rw [← hz]; exact hc
        rw [hz] at hlt
        have HK := Lib.hid hkm
        have t7 : decide (k < n) = true := decide_eq_true (by omega)
        have t7' : decide ((k : Int) < n) = true := decide_eq_true (by omega)
        have t8 : decide (z < x) = true := decide_eq_true hlt
        have i1 : (k : Int) < n := by omega
        have i2 : (0 : Int) ≤ k := by omega
        clear hcell hc hz hlt hkm
        go_wp2_with fail
        go_roundg (m - (k + 1))
        case rel => exact ⟨k + 1, HK.out, rfl, by go_num, rfl⟩
        case measure => have := HK.out; omega
      · obtain rfl : k = m := by omega
        clear hkm
        have hpre : SeqV wr (.slice A k c) (L.take k) := by
          have hlen : (L.take k).length = k := by rw [List.length_take, HL.out]; omega
          rcases HS.out with ⟨h0, A0, c0, e⟩ | ⟨h0, b, off, c0, e, hcell⟩
          · have hk0 : k = 0 := by omega
            subst hk0
            exact Or.inl ⟨by simp, _, _, rfl⟩
          · injection e with e1 e2 e3
            rcases Nat.eq_zero_or_pos k with hk0 | hk0
            · subst hk0
              exact Or.inl ⟨by simp, _, _, rfl⟩
            · refine Or.inr ⟨by omega, b, off, c, by rw [hlen, e1], fun i hi => ?_⟩
              rw [hlen] at hi
              rw [hcell i (by omega)]
              simp [List.getD, hi]
        have OW0 := World.ownsRow_lit (base := wr.heap.size) (e := 3) (size := 1) wr #[] 0 (Nat.le_refl _) (by unfold maxLen; omega) rfl
        have hA0 : Below wr.heap.size wr (wr.alloc (.cells #[] 3)) := (Below.refl _ _).alloc (Nat.le_refl _) _
        have HPRE := Lib.hid (hpre.below hA0 (Nat.le_refl _))
        have HOW0 := Lib.hid OW0; have HA0 := Lib.hid hA0
        have hsz0 : wr.heap.size ≤ (wr.alloc (.cells #[] 3)).heap.size := hA0.size
        have HTL : Hid ((L.take k).length = k) := Lib.hid (by rw [List.length_take, HL.out]; omega)
        have i1 : (k : Int) ≤ c := by omega
        have i2 : (0 : Int) ≤ k := by omega
        have i3 : (k : Int) ≤ n := by omega
        clear hpre OW0 hA0
        have hend : ((decide (k < n) = false) ∧ k = n) ∨ (∃ (b off : Nat) (z : Int), A = some ⟨b, off, none⟩ ∧ wr.cell? ⟨b, off + k, none⟩ = some (.int .i64 z) ∧ decide (k < n) = true ∧ decide (z < x) = false ∧ k < n) := by
          rcases (by omega : k = n ∨ k < n) with h1 | h1
          · exact Or.inl ⟨decide_eq_false (by omega), h1⟩
          · obtain ⟨b, off, hA, hcell⟩ := HS.out.pos h1
            exact Or.inr ⟨b, off, _, hA, hcell k h1, decide_eq_true h1, decide_eq_false (by have := HGE.out h1; omega), h1⟩
        obtain ⟨P1, hP1⟩ : ∃ P, L.take k = P := ⟨_, rfl⟩
        rw [hP1] at HPRE HTL
        have HP1 := Lib.hid hP1
        clear hP1
        rcases hend with ⟨t7, hkn⟩ | ⟨b, off, z, rfl, hc', t7, t8, hkn⟩
        · subst hkn
          have HFIN : Hid (addR L x = P1 ++ [x]) := Lib.hid (by rw [HR.out, HM.out, HP1.out, List.drop_of_length_le (by rw [HL.out]; omega), List.append_nil])
          go_wp2_with (at_builtin; refine wpList_appInts _ rfl _ _ 23 rfl wr.heap.size i0 Tryz.underlying23 hi hz0 hz1 hz2 _ 0 _ rfl HOW0.out _ P1 rfl HPRE.out (by rw [HTL.out]; omega) hsz0 ?_)
          intro A2 c2 w2 hown2 hgrow2
          have hb2 : Below wr.heap.size wr w2 := hgrow2.below HOW0.out HA0.out (Nat.le_refl _) hsz0
          rw [HTL.out] at hown2
          rw [HTL.out]
          have hs2 := hb2.size
          have hown2' : w2.ownsRow wr.heap.size 3 1 (.slice A2 k c2) k (intCells P1) := by simpa using hown2
          have HOW2 := Lib.hid hown2'; have HB2 := Lib.hid hb2
          clear hown2 hgrow2 hb2 hown2'
          go_wp2_with (at_builtin; refine wpList_app1g _ rfl _ _ 23 rfl wr.heap.size 3 i0 (.int .i64 0) 8 Tryz.underlying23 hi hz0 hz1 hz2 rfl _ k _ rfl HOW2.out _ rfl rfl (by omega) (by omega) hs2 ?_)
          intro A3 c3 w3 hown3 hgrow3
          have hb3 : Below wr.heap.size wr w3 := hgrow3.below HOW2.out HB2.out (Nat.le_refl _) hs2
          have hs3 := hb3.size
          have HOW3 := Lib.hid hown3; have HB3 := Lib.hid hb3
          clear hown3 hgrow3 hb3
          go_wp2_with (at_builtin; refine wpList_appInts _ rfl _ _ 23 rfl wr.heap.size i0 Tryz.underlying23 hi hz0 hz1 hz2 _ (k + 1) _ rfl HOW3.out _ [] rfl (seqV_nil _ _ _) (by simp; omega) hs3 ?_)
          all_goals
            intro A4 c4 w4 hown4 hgrow4
            have hb4 : Below wr.heap.size wr w4 := hgrow4.below HOW3.out HB3.out (Nat.le_refl _) hs3
            have ho4 : w4.ownsRow wr.heap.size 3 1 (.slice A4 (k + 1) c4) (k + 1) (intCells (addR L x)) := by rw [HFIN.out, intCells_app]; simpa [intCells] using hown4
            have HO4 := Lib.hid (own_seqC ho4); have HB4 := Lib.hid hb4
            clear hown4 hgrow4 hb4 ho4
            go_wp2_with fail
            go_ret
            exact ⟨_, rfl, HO4.out, HB4.out⟩
        · obtain ⟨P2, hP2⟩ : ∃ P, L.drop k = P := ⟨_, rfl⟩
          have hP2l : P2.length = n - k := by rw [← hP2, List.length_drop, HL.out]
          have HFIN : Hid (addR L x = P1 ++ [x] ++ P2) := Lib.hid (by rw [HR.out, HM.out, HP1.out, hP2])
          have hck : ¬ c = k := by omega
          have hbl : b < wr.heap.size := World.block_lt_of_cell? _ _ hc'
          have HSUF : Hid (SeqV wr (.slice (some ⟨b, off + k, none⟩) (n - k) (c - k)) P2) := Lib.hid (by
            rcases HS.out with ⟨h0, _⟩ | ⟨_, b', off', c0, e, hcell⟩
            · omega
            · injection e with e1 e2 e3
              injection e1 with e1
              injection e1 with e1 e4
              subst e1 e4
              refine Or.inr ⟨by omega, b, off + k, c - k, by rw [hP2l], fun i hi => ?_⟩
              rw [hP2l] at hi
              rw [Nat.add_assoc, hcell (k + i) (by omega), ← hP2]
              simp [List.getD, List.getElem?_drop])
          have HP2L := Lib.hid hP2l
          clear hP2 hP2l hbl
          go_wp2_with (at_builtin; refine wpList_appInts _ rfl _ _ 23 rfl wr.heap.size i0 Tryz.underlying23 hi hz0 hz1 hz2 _ 0 _ rfl HOW0.out _ P1 rfl HPRE.out (by rw [HTL.out]; omega) hsz0 ?_)
          intro A2 c2 w2 hown2 hgrow2
          have hb2 : Below wr.heap.size wr w2 := hgrow2.below HOW0.out HA0.out (Nat.le_refl _) hsz0
          rw [HTL.out] at hown2
          rw [HTL.out]
          have hs2 := hb2.size
          have hown2' : w2.ownsRow wr.heap.size 3 1 (.slice A2 k c2) k (intCells P1) := by simpa using hown2
          have HOW2 := Lib.hid hown2'; have HB2 := Lib.hid hb2
          clear hown2 hgrow2 hb2 hown2'
          go_wp2_with (at_builtin; refine wpList_app1g _ rfl _ _ 23 rfl wr.heap.size 3 i0 (.int .i64 0) 8 Tryz.underlying23 hi hz0 hz1 hz2 rfl _ k _ rfl HOW2.out _ rfl rfl (by omega) (by omega) hs2 ?_)
          intro A3 c3 w3 hown3 hgrow3
          have hb3 : Below wr.heap.size wr w3 := hgrow3.below HOW2.out HB2.out (Nat.le_refl _) hs2
          have hs3 := hb3.size
          have HOW3 := Lib.hid hown3; have HB3 := Lib.hid hb3
          clear hown3 hgrow3 hb3
          have HSUF3 := Lib.hid (HSUF.out.below HB3.out (Nat.le_refl _))
          go_wp2_with (at_builtin; refine wpList_appInts _ rfl _ _ 23 rfl wr.heap.size i0 Tryz.underlying23 hi hz0 hz1 hz2 _ (k + 1) _ rfl HOW3.out _ P2 rfl HSUF3.out (by rw [HP2L.out]; omega) hs3 ?_)
          intro A4 c4 w4 hown4 hgrow4
          have hb4 : Below wr.heap.size wr w4 := hgrow4.below HOW3.out HB3.out (Nat.le_refl _) hs3
          have ho4 : w4.ownsRow wr.heap.size 3 1 (.slice A4 (k + 1 + P2.length) c4) (k + 1 + P2.length) (intCells (addR L x)) := by rw [HFIN.out, intCells_app, intCells_app]; simpa [intCells] using hown4
          have HO4 := Lib.hid (own_seqC ho4); have HB4 := Lib.hid hb4
          clear hown4 hgrow4 hb4 ho4
          go_wp2_with fail
          go_ret
          exact ⟨_, rfl, HO4.out, HB4.out⟩
end

section
open Go.RowKit

theorem ofR_take {L : List Int} {k : Nat} (h : k < L.length) : ofR (L.take (k + 1)) = addR (ofR (L.take k)) (L.getD k 0) := by
  rw [List.take_succ_eq_append_getElem h, ofR_snoc]
  simp [List.getD, h]
set_option maxRecDepth 100000 in
set_option maxHeartbeats 4000000 in
theorem refRow_any (C : List (List Int)) (n i : Nat) (v : Value) (w : World) (hv : ListsV w v C) (hC : C.length ≤ 100000) (hL : ∀ l ∈ C, l.length = n) (hin : i < n) :
    Calls Tryz.prog 28 #[v, .int .i64 i] w fun e w' => ∃ v', e = .returned v' ∧ SeqC w' v' (rowP C i) ∧ Below w.heap.size w w' := by
  obtain ⟨A, c, rfl⟩ := hv.form
  obtain ⟨m, hm⟩ : ∃ m, C.length = m := ⟨_, rfl⟩
  rw [hm] at hv hC ⊢
  have HV := Lib.hid hv; have HM := Lib.hid hm; have HL := Lib.hid hL
  obtain ⟨N, hN⟩ : ∃ N, C.map (fun l => l.getD i 0) = N := ⟨_, rfl⟩
  have hNl : N.length = m := by rw [← hN, List.length_map, hm]
  have HR : Hid (rowP C i = ofR N) := Lib.hid (by rw [← hN]; rfl)
  have HN : Hid (∀ (k : Nat) (h : k < C.length), N.getD k 0 = C[k].getD i 0) := Lib.hid (fun k h => by rw [← hN]; simp [List.getD, h])
  have HNL := Lib.hid hNl
  have HI := Lib.hid hin
  clear hv hm hL hN hNl
  go_enter Tryz.func28, Tryz.ntmps28
  go_wp2_with fail
  go_loopg [5, 6] m (fun gh x y wr => ∃ k, k ≤ m ∧ gh = m - k ∧ y = .int .i64 (k : Nat) ∧ SeqC wr x (ofR (N.take k)) ∧ Below w.heap.size w wr)
  case atStart => exact ⟨0, Nat.zero_le _, rfl, rfl, ⟨Or.inl ⟨rfl, _, _, rfl⟩, _, _, rfl, Nat.le_refl _⟩, Below.refl _ _⟩
  case round =>
    obtain ⟨k, hk, rfl, rfl, hx, hb⟩ := hrel
    have HX := Lib.hid hx; have HB := Lib.hid hb
    obtain ⟨_, Ax, cx, rfl, _⟩ := hx
    by_cases hlt : k < m
    · have hkC : k < C.length := by rw [HM.out]; exact hlt
      obtain ⟨bb, off, u, rfl, hc, hu⟩ := (HV.out.below hb (Nat.le_refl _)).pos hkC
      have hlen := HL.out C[k] (List.getElem_mem _)
      have hz := HN.out k hkC
      obtain ⟨l, hl⟩ : ∃ l, C[k] = l := ⟨_, rfl⟩
      rw [hl] at hu hlen hz
      obtain ⟨hus, A2, c2, rfl, _⟩ := hu
      obtain ⟨b2, off2, rfl, hcA⟩ := hus.pos (i := i) (by rw [hlen]; exact HI.out)
      have hc2 := hcA i (by rw [hlen]; exact HI.out)
      rw [← hz] at hc2
      rw [hlen] at hc
      have hst := ofR_take (L := N) (k := k) (by rw [HNL.out]; exact hlt)
      obtain ⟨z, hzz⟩ : ∃ z, N.getD k 0 = z := ⟨_, rfl⟩
      rw [hzz] at hc2 hst
      have hll : (ofR (N.take k)).length ≤ 100000 := by
        have := ofR_len (N.take k)
        rw [List.length_take, HNL.out] at this
        omega
      have ADD := Lib.hid (refAdd_any _ z _ wr HX.out (by omega))
      have HST := Lib.hid hst
      have t1 : decide (k < m) = true := decide_eq_true hlt
      have i1 : (k : Int) < m := by omega
      have i2 : (0 : Int) ≤ k := by omega
      have i3 : (i : Int) < n := by have := HI.out; omega
      have i4 : (0 : Int) ≤ i := by omega
      have HLT := Lib.hid hlt
      clear hb hkC hlen hz hl hus hcA hst hzz hll hlt
      go_wp2_with fail
      refine ADD.out.mono ?_; rintro e w2 ⟨v2, rfl, hv2, hb2⟩
      have HV2 := Lib.hid hv2; have HB2 := Lib.hid (HB.out.trans (hb2.mono HB.out.size))
      obtain ⟨_, A3, c3, rfl, _⟩ := hv2
      clear hb2 hc hc2
      go_wp2_with fail
      go_roundg (m - (k + 1))
      case rel => exact ⟨k + 1, HLT.out, rfl, by go_num, by rw [HST.out]; exact HV2.out, HB2.out⟩
      case measure => have := HLT.out; omega
    · obtain rfl : k = m := by omega
      have t1 : decide (k < k) = false := by simp
      have HF : Hid (ofR (N.take k) = rowP C i) := Lib.hid (by rw [HR.out, List.take_of_length_le (by rw [HNL.out]; exact Nat.le_refl _)])
      clear hb hlt
      go_wp2_with fail
      go_ret
      exact ⟨_, rfl, by rw [← HF.out]; exact HX.out, HB.out⟩
set_option maxRecDepth 100000 in
set_option maxHeartbeats 4000000 in
theorem refLinked_any (C : List (List Int)) (n i : Nat) (a b : Int) (v : Value) (w : World) (hv : ListsV w v C) (hC : C.length ≤ 100000) (hL : ∀ l ∈ C, l.length = n) (hin : i + 1 < n) (hn : n ≤ 100) :
    Calls Tryz.prog 29 #[v, .int .i64 i, .int .i64 a, .int .i64 b] w fun e w' => e = .returned (.bool ((linkP C i a).contains b)) ∧ w' = w := by
  obtain ⟨A, c, rfl⟩ := hv.form
  obtain ⟨m, hm⟩ : ∃ m, C.length = m := ⟨_, rfl⟩
  rw [hm] at hv hC ⊢
  have HV := Lib.hid hv; have HM := Lib.hid hm; have HL := Lib.hid hL
  have HI := Lib.hid hin
  obtain ⟨B, hB⟩ : ∃ B, (linkP C i a).contains b = B := ⟨_, rfl⟩
  have HBB := Lib.hid hB
  rw [hB]
  clear hv hm hL hB
  go_enter Tryz.func29, Tryz.ntmps29
  go_wp2_with fail
  go_loopg [9] m (fun gh y wr => ∃ k, k ≤ m ∧ gh = m - k ∧ y = .int .i64 (k : Nat) ∧ (∀ l ∈ C.take k, ¬ (l.getD i 0 = a ∧ l.getD (i + 1) 0 = b)) ∧ wr = w)
  case atStart => exact ⟨0, Nat.zero_le _, rfl, rfl, by simp, rfl⟩
  case round =>
    obtain ⟨k, hk, rfl, rfl, hno, rfl⟩ := hrel
    have HNO := Lib.hid hno
    clear hno
    by_cases hlt : k < m
    · have hkC : k < C.length := by rw [HM.out]; exact hlt
      obtain ⟨bb, off, u, rfl, hc, hu⟩ := HV.out.pos hkC
      have hlen := HL.out C[k] (List.getElem_mem _)
      have htk : C.take (k + 1) = C.take k ++ [C[k]] := List.take_succ_eq_append_getElem hkC
      have hmem : C[k] ∈ C := List.getElem_mem _
      obtain ⟨l, hl⟩ : ∃ l, C[k] = l := ⟨_, rfl⟩
      rw [hl] at hu hlen htk hmem
      obtain ⟨hus, A2, c2, rfl, _⟩ := hu
      obtain ⟨b2, off2, rfl, hcA⟩ := hus.pos (i := i) (by rw [hlen]; have := HI.out; omega)
      have hc2 := hcA i (by rw [hlen]; have := HI.out; omega)
      have hc3 := hcA (i + 1) (by rw [hlen]; exact HI.out)
      rw [hlen] at hc
      have HTK := Lib.hid htk; have HMEM := Lib.hid hmem
      obtain ⟨x, hx⟩ : ∃ z, l.getD i 0 = z := ⟨_, rfl⟩
      obtain ⟨y, hy⟩ : ∃ z, l.getD (i + 1) 0 = z := ⟨_, rfl⟩
      rw [hx] at hc2
      rw [hy] at hc3
      have HXX := Lib.hid hx; have HYY := Lib.hid hy
      have t1 : decide (k < m) = true := decide_eq_true hlt
      have t2 : decide (i + 1 < n) = true := decide_eq_true HI.out
      have t2' : decide ((i : Int) + 1 < n) = true := decide_eq_true (by have := HI.out; omega)
      have i1 : (k : Int) < m := by omega
      have i2 : (0 : Int) ≤ k := by omega
      have i3 : (i : Int) + 1 < n := by have := HI.out; omega
      have i4 : (0 : Int) ≤ i := by omega
      have i5 : (n : Int) ≤ 100 := by omega
      have HLT := Lib.hid hlt
      clear hkC hlen htk hmem hl hus hcA hx hy hlt
      have hno : ∀ (_ : ¬ (x = a ∧ y = b)), ∀ l ∈ C.take (k + 1), ¬ (l.getD i 0 = a ∧ l.getD (i + 1) 0 = b) := fun hxy l' hl' => by
        rw [HTK.out, List.mem_append, List.mem_singleton] at hl'
        rcases hl' with hl' | rfl
        · exact HNO.out l' hl'
        · rw [HXX.out, HYY.out]; exact hxy
      by_cases hxa : x = a
      · have t3 : (x == a) = true := by simpa using hxa
        by_cases hyb : y = b
        · have t4 : (y == b) = true := by simpa using hyb
          have HF : Hid (B = true) := Lib.hid (by
            rw [← HBB.out]
            have : b ∈ linkP C i a := link_mem.2 ⟨l, HMEM.out, by rw [HXX.out, hxa], by rw [HYY.out, hyb]⟩
            simpa using this)
          clear hxa hyb hno
          go_wp2_with fail
          go_ret
          have h := HF.out
          subst h
          exact ⟨rfl, rfl⟩
        · have t4 : (y == b) = false := by simpa using hyb
          have HNX := Lib.hid (hno (fun h => hyb h.2))
          clear hxa hyb hno
          go_wp2_with fail
          go_roundg (m - (k + 1))
          case rel => exact ⟨k + 1, HLT.out, rfl, by go_num, HNX.out, rfl⟩
          case measure => have := HLT.out; omega
      · have t3 : (x == a) = false := by simpa using hxa
        have HNX := Lib.hid (hno (fun h => hxa h.1))
        clear hxa hno
        go_wp2_with fail
        go_roundg (m - (k + 1))
        case rel => exact ⟨k + 1, HLT.out, rfl, by go_num, HNX.out, rfl⟩
        case measure => have := HLT.out; omega
    · obtain rfl : k = m := by omega
      have t1 : decide (k < k) = false := by simp
      have HF : Hid (B = false) := Lib.hid (by
        rw [← HBB.out]
        have h1 := HNO.out
        rw [List.take_of_length_le (by rw [HM.out]; exact Nat.le_refl _)] at h1
        have : b ∉ linkP C i a := fun h => by
          obtain ⟨l, h2, h3, h4⟩ := link_mem.1 h
          exact h1 l h2 ⟨h3, h4⟩
        simpa using this)
      clear hlt
      go_wp2_with fail
      go_ret
      have h := HF.out
      subst h
      exact ⟨rfl, rfl⟩
end

section
open Go.RowKit

section
variable {P : Program}
/-- Numbers behind a row of the call's own: the run. -/
theorem run_appInts (w : World) (t ty : TypeId) (base : Nat) (i : TypeInfo) (ht : P.underlying t = some (.slice 3)) (hi : P.info? 3 = some i) (hz : i.zero = some (.int .i64 0))
    (hsize : i.size = 1) (hby : i.bytes = 8) (v : Value) (n : Nat) (xs : List Value) (hown : w.ownsRow base 3 1 v n xs)
    (u : Value) (l : List Int) (hu : SeqV w u l) (hn : n + l.length ≤ 1000000000) (hbase : base ≤ w.heap.size) :
    ∃ A' c' w', (Builtin.append_ #[t, t] ty #[v, u]).run P w = .ok (.slice A' (n + l.length) c') w' ∧ w'.ownsRow base 3 1 (.slice A' (n + l.length) c') (n + l.length) (xs ++ intCells l) ∧ w.grownBy w' v.ownBlock := by
  obtain ⟨A, c, rfl⟩ := IntsV.form hu
  have key : ∀ ad : Addr, A = some ad → ∃ A' c' w', (Builtin.append_ #[t, t] ty #[v, .slice A l.length c]).run P w = .ok (.slice A' (n + l.length) c') w' ∧ w'.ownsRow base 3 1 (.slice A' (n + l.length) c') (n + l.length) (xs ++ intCells l) ∧ w.grownBy w' v.ownBlock := by
    intro ad hA
    subst hA
    obtain ⟨v', w', hr, h2, h3, _⟩ := run_append_own_at (P := P) w base t ty 3 i (.int .i64 0) 1 8 ht hi hz hsize hby rfl (by decide) v n xs hown ad l.length c (intCells l) (by simp [intCells])
      (by
        rcases hu with ⟨h0, _⟩ | ⟨_, b, off, c', e, hc⟩
        · intro j u hj
          rw [List.eq_nil_of_length_eq_zero h0] at hj
          simp [intCells] at hj
        · injection e with e1 e2 e3
          injection e1 with e1
          subst e1
          exact seq_cells (c := l.length) hc rfl (Nat.le_refl _)) (fun u hu => by simp [intCells] at hu; obtain ⟨z, _, rfl⟩ := hu; rfl) (by unfold maxLen; omega) (by omega) hbase
    obtain ⟨A', c', rfl⟩ := own_form h2
    exact ⟨A', c', w', hr, h2, h3⟩
  rcases A with _ | ad
  · have hl0 : l = [] := by
      rcases hu with ⟨h0, _⟩ | ⟨_, b, off, c', e, _⟩
      · exact List.eq_nil_of_length_eq_zero h0
      · cases e
    subst hl0
    obtain ⟨A', c', rfl⟩ := own_form hown
    have hr : (Builtin.append_ #[t, t] ty #[.slice A' n c', .slice none 0 c]).run P w = .ok (.slice A' n c') w := by
      rcases hown.2 with ⟨h1, h2⟩ | ⟨g, cap, cur, h1, _, _, hnc, _⟩
      · injection h1 with e1 e2 e3
        subst e1 e2 e3
        simp [Builtin.append_, run_underlying ht, sizeOf, typeInfo, hi, Builtin.lenOf, Builtin.firstCells]
      · injection h1 with e1 e2 e3
        subst e1 e3
        simp [Builtin.append_, run_underlying ht, sizeOf, typeInfo, hi, Builtin.lenOf, Builtin.firstCells, hnc, storeCells]
    exact ⟨A', c', w, hr, by simpa [intCells] using hown, (Grew.refl w (.slice A' n c')).1⟩
  · exact key ad rfl
/-- At a step of a region that draws. -/
theorem step_appInts {ops : Array Oper} {o : Oper} {a : Act} {w : World} {K : Act → World → Prop} {Q : Exit → Act → World → Prop} {E : Prop} (hw : Region.wanted o (yielded ops a.tmps) = true) (s x : Operand) (t : TypeId)
    (ho : o.op = .call { callee := .builtin .append, args := #[s, x], argTypes := #[t, t] })
    (base : Nat) (i : TypeInfo) (ht : P.underlying t = some (.slice 3)) (hi : P.info? 3 = some i) (hz : i.zero = some (.int .i64 0))
    (hsize : i.size = 1) (hby : i.bytes = 8) (v : Value) (n : Nat) (xs : List Value) (hs : a.eval s = v) (hown : w.ownsRow base 3 1 v n xs)
    (u : Value) (l : List Int) (hx : a.eval x = u) (hu : SeqV w u l) (hn : n + l.length ≤ 1000000000) (hbase : base ≤ w.heap.size)
    (h : ∀ A' c' w', w'.ownsRow base 3 1 (.slice A' (n + l.length) c') (n + l.length) (xs ++ intCells l) → w.grownBy w' v.ownBlock → K (a.put o.dst (.slice A' (n + l.length) c')) w') :
    if Region.wanted o (yielded ops a.tmps) = true then Oper.wp P o a w K Q else E := by
  rw [if_pos hw]
  obtain ⟨A', c', w', hr, h2, h3⟩ := run_appInts (P := P) w t o.type base i ht hi hz hsize hby v n xs hown u l hu hn hbase
  unfold Oper.wp execOp
  simp only [ho, resolve, invoke, builtin, Sem.run_bind, Sem.run_pure, Result.andThen_ok, List.map_toArray, List.map_cons, List.map_nil, hs, hx, hr]
  exact h A' c' w' h2 h3
end
/-- One number in a block of its own. -/
theorem seq_cell1 {w : World} {b : Nat} {x : Int} (h : w.cell? ⟨b, 0, none⟩ = some (.int .i64 x)) : SeqV w (.slice (some ⟨b, 0, none⟩) 1 1) [x] := by
  refine Or.inr ⟨Nat.zero_lt_one, b, 0, 1, rfl, fun i hi => ?_⟩
  obtain rfl : i = 0 := by simpa using hi
  exact h
theorem own_empty (W : World) (base : Nat) (hb : base ≤ W.heap.size) : (W.alloc (.cells #[] 3)).ownsRow base 3 1 (.slice (some ⟨W.heap.size, 0, none⟩) 0 0) 0 [] :=
  World.ownsRow_lit (size := 1) W #[] 0 hb (by decide) rfl
theorem cell_new1 (W : World) (x : Int) : (W.alloc (.cells #[.int .i64 x] 3)).cell? ⟨W.heap.size, 0, none⟩ = some (.int .i64 x) := (Whole.new W 3 #[.int .i64 x]).cell 0
theorem sameI_self (L : List Int) : sameI (fun i => L.getD i 0) L.length (fun i => L.getD i 0) L.length = true := by
  unfold sameI
  rw [Bool.and_eq_true, eqUpto_iff]
  exact ⟨by simp, fun i _ => rfl⟩
theorem sameI_iff {L M : List Int} : sameI (fun i => L.getD i 0) L.length (fun i => M.getD i 0) M.length = true ↔ L = M := by
  constructor
  · intro h
    unfold sameI at h
    rw [Bool.and_eq_true, eqUpto_iff, decide_eq_true_eq] at h
    apply List.ext_getElem h.1
    intro i h1 h2
    have := h.2 i h1
    simpa [List.getD, h1, h2] using this
  · rintro rfl
    exact sameI_self L
theorem same_dec {A B : List Int} {u v : Value} {w : World} (h : SeqV w u A) (k : SeqV w v B) (hl : A.length ≤ 1000000000) :
    Calls Tryz.prog 15 #[u, v] w fun e w' => e = .returned (.bool (decide (A = B))) ∧ Below w.heap.size w w' := by
  refine (sameInts_any A.length B.length _ _ u v w h k hl).mono ?_
  rintro e w' ⟨rfl, d, rfl⟩
  refine ⟨?_, below_drewN' (Below.refl _ _) d⟩
  congr 2
  rw [Bool.eq_iff_iff, sameI_iff, decide_eq_true_eq]
/-- One value appended at a step of a region that draws. -/
theorem step_app1 {P : Program} {ops : Array Oper} {o : Oper} {a : Act} {w : World} {K : Act → World → Prop} {Q : Exit → Act → World → Prop} {E : Prop} (hw : Region.wanted o (yielded ops a.tmps) = true) (s x : Operand) (t : TypeId)
    (ho : o.op = .call { callee := .builtin .append, args := #[s, x], argTypes := #[t, t] })
    (base : Nat) (e : TypeId) (i : TypeInfo) (z : Value) (bytes : Nat) (ht : P.underlying t = some (.slice e)) (hi : P.info? e = some i) (hz : i.zero = some z)
    (hsize : i.size = 1) (hby : i.bytes = bytes) (hzs : z.cells.size = 1) (v : Value) (n : Nat) (xs : List Value) (hs : a.eval s = v) (hown : w.ownsRow base e 1 v n xs)
    (u : Value) (hu : u.oneCell' = true) (b : Nat) (hx : a.eval x = .slice (some ⟨b, 0, none⟩) 1 1) (hc : w.cell? ⟨b, 0, none⟩ = some u) (hn : n ≤ 1000000000) (hbytes : bytes ≤ 128) (hbase : base ≤ w.heap.size)
    (h : ∀ A' c' w', w'.ownsRow base e 1 (.slice A' (n + 1) c') (n + 1) (xs ++ [u]) → Grew w v w' (.slice A' (n + 1) c') → K (a.put o.dst (.slice A' (n + 1) c')) w') :
    if Region.wanted o (yielded ops a.tmps) = true then Oper.wp P o a w K Q else E := by
  rw [if_pos hw]
  have hb2 : (n + 1) * bytes ≤ 140737488355328 := Nat.le_trans (Nat.mul_le_mul (show n + 1 ≤ 1000000001 by omega) hbytes) (by decide)
  obtain ⟨v', w', hr, h2, h3, _, h5⟩ := run_append_own_at (P := P) w base t o.type e i z 1 bytes ht hi hz hsize hby hzs (by decide) v n xs hown ⟨b, 0, none⟩ 1 1 [u] rfl
    (by
      intro j y hj
      match j, hj with
      | 0, hj =>
        simp at hj; subst hj
        exact hc) (by intro y hy; rw [List.mem_singleton] at hy; subst hy; exact hu) (by unfold maxLen; omega) hb2 hbase
  obtain ⟨A', c', rfl⟩ := own_form h2
  unfold Oper.wp execOp
  simp only [ho, resolve, invoke, builtin, Sem.run_bind, Sem.run_pure, Result.andThen_ok, List.map_toArray, List.map_cons, List.map_nil, hs, hx, hr]
  refine h A' c' w' h2 ⟨h3, ?_⟩
  rcases h5 with h5 | h5
  · exact Or.inl h5
  · exact Or.inr ⟨_, h5, Nat.le_refl _⟩
end
end Go.Proofs.YtgphdngfbcjmcaaGreatDoor
