/- The document's sets: Add and Of, walked. -/
import Derived.Test.YtploaffmhemjkaaRef06
import Derived.WalkSpells
namespace Go.Proofs.Ytploaffmhemjkaa
open Go.RowKit

set_option maxRecDepth 100000 in
set_option maxHeartbeats 4000000 in
theorem refAdd_any (L : List Int) (x : Int) (v : Value) (w : World) (h : SeqC w v L) (hn : L.length ≤ 100000000) :
    Calls Try.prog 45 #[v, .int .i64 x] w fun e w' => ∃ v', e = .returned v' ∧ SeqC w' v' (addR L x) ∧ Below w.heap.size w w' := by
  obtain ⟨i0, hi, hz0, hz1, hz2⟩ := info_parts Try.infoInt6
  obtain ⟨hs, A, c, rfl, hcap⟩ := id h
  have H0 := refHas_any L x _ w hs (by omega)
  cases hc : L.contains x with
  | true =>
    rw [hc] at H0
    have HH := Lib.hid H0
    have HR : Hid (addR L x = L) := Lib.hid (by unfold addR; rw [if_pos hc])
    have HS := Lib.hid h
    clear h hs H0 hc hcap
    go_enter Try.func45, Try.ntmps45
    go_wp2_with fail
    refine HH.out.mono ?_; rintro e w1 ⟨rfl, hw1⟩; obtain rfl := hw1.symm
    go_wp2_with fail
    go_ret
    exact ⟨_, rfl, by rw [HR.out]; exact HS.out, Below.refl _ _⟩
  | false =>
    rw [hc] at H0
    have HR : Hid (addR L x = L.take (lower L x) ++ [x] ++ L.drop (lower L x)) := Lib.hid (by unfold addR; rw [if_neg (by rw [hc]; simp)])
    obtain ⟨n, hl⟩ : ∃ n, L.length = n := ⟨_, rfl⟩
    have hs' : IntsV w (.slice A n c) n (fun i => L.getD i 0) := by have := hs; unfold SeqV at this; rw [hl] at this; exact this
    rw [hl] at H0
    have HH := Lib.hid H0
    have HS := Lib.hid hs'; have HL := Lib.hid hl
    have hlo := lower_le L x
    obtain ⟨m, hm⟩ : ∃ m, lower L x = m := ⟨_, rfl⟩
    have hlt' := lower_lt L x
    have hge' := lower_ge L x
    rw [hm] at hlo hlt' hge'
    rw [hl] at hlo hn hcap hge' ⊢
    have HM := Lib.hid hm; have HLT := Lib.hid hlt'; have HGE := Lib.hid hge'
    clear h hs hs' H0 hc hl hm hlt' hge'
    go_enter Try.func45, Try.ntmps45
    go_wp2_with fail
    refine HH.out.mono ?_; rintro e w1 ⟨rfl, hw1⟩; obtain rfl := hw1.symm
    go_wp2_with fail
    go_loopg [5] m (fun g y wr => ∃ k, k ≤ m ∧ g = m - k ∧ y = .int .i64 (k : Nat) ∧ wr = w)
    case atStart => exact ⟨0, by omega, rfl, rfl, rfl⟩
    case round =>
      obtain ⟨k, hk, rfl, rfl, rfl⟩ := hrel
      by_cases hkm : k < m
      · obtain ⟨b, off, rfl, hcell⟩ := HS.out.pos (show k < n by omega)
        have hc := hcell k (by omega)
        have hlt := HLT.out k hkm
        obtain ⟨z, hz⟩ : ∃ z : Int, L.getD k 0 = z := ⟨_, rfl⟩
        have hc' : wr.cell? ⟨b, off + k, none⟩ = some (.int .i64 z) := by rw [← hz]; exact hc
        rw [hz] at hlt
        have HK := Lib.hid hkm
        have t7 : decide (k < n) = true := decide_eq_true (by omega)
        have t7' : decide ((k : Int) < n) = true := decide_eq_true (by omega)
        have t8 : decide (z < x) = true := decide_eq_true hlt
        have i1 : (k : Int) < n := by omega
        have i2 : (0 : Int) ≤ k := by omega
        clear hcell hc hz hlt hkm
        go_wp2_with fail
        go_roundg (m - (k + 1))
        case rel => exact ⟨k + 1, HK.out, rfl, by go_num, rfl⟩
        case measure => have := HK.out; omega
      · obtain rfl : k = m := by omega
        clear hkm
        have hpre : SeqV wr (.slice A k c) (L.take k) := by
          have hlen : (L.take k).length = k := by rw [List.length_take, HL.out]; omega
          rcases HS.out with ⟨h0, A0, c0, e⟩ | ⟨h0, b, off, c0, e, hcell⟩
          · have hk0 : k = 0 := by omega
            subst hk0
            exact Or.inl ⟨by simp, _, _, rfl⟩
          · injection e with e1 e2 e3
            rcases Nat.eq_zero_or_pos k with hk0 | hk0
            · subst hk0
              exact Or.inl ⟨by simp, _, _, rfl⟩
            · refine Or.inr ⟨by omega, b, off, c, by rw [hlen, e1], fun i hi => ?_⟩
              rw [hlen] at hi
              rw [hcell i (by omega)]
              simp [List.getD, hi]
        have OW0 := World.ownsRow_lit (base := wr.heap.size) (e := 3) (size := 1) wr #[] 0 (Nat.le_refl _) (by unfold maxLen; omega) rfl
        have hA0 : Below wr.heap.size wr (wr.alloc (.cells #[] 3)) := (Below.refl _ _).alloc (Nat.le_refl _) _
        have HPRE := Lib.hid (hpre.below hA0 (Nat.le_refl _))
        have HOW0 := Lib.hid OW0; have HA0 := Lib.hid hA0
        have hsz0 : wr.heap.size ≤ (wr.alloc (.cells #[] 3)).heap.size := hA0.size
        have HTL : Hid ((L.take k).length = k) := Lib.hid (by rw [List.length_take, HL.out]; omega)
        have i1 : (k : Int) ≤ c := by omega
        have i2 : (0 : Int) ≤ k := by omega
        have i3 : (k : Int) ≤ n := by omega
        clear hpre OW0 hA0
        have hend : ((decide (k < n) = false) ∧ k = n) ∨ (∃ (b off : Nat) (z : Int), A = some ⟨b, off, none⟩ ∧ wr.cell? ⟨b, off + k, none⟩ = some (.int .i64 z) ∧ decide (k < n) = true ∧ decide (z < x) = false ∧ k < n) := by
          rcases (by omega : k = n ∨ k < n) with h1 | h1
          · exact Or.inl ⟨decide_eq_false (by omega), h1⟩
          · obtain ⟨b, off, hA, hcell⟩ := HS.out.pos h1
            exact Or.inr ⟨b, off, _, hA, hcell k h1, decide_eq_true h1, decide_eq_false (by have := HGE.out h1; omega), h1⟩
        obtain ⟨P1, hP1⟩ : ∃ P, L.take k = P := ⟨_, rfl⟩
        rw [hP1] at HPRE HTL
        have HP1 := Lib.hid hP1
        clear hP1
        rcases hend with ⟨t7, hkn⟩ | ⟨b, off, z, rfl, hc', t7, t8, hkn⟩
        · subst hkn
          have HFIN : Hid (addR L x = P1 ++ [x]) := Lib.hid (by rw [HR.out, HM.out, HP1.out, List.drop_of_length_le (by rw [HL.out]; omega), List.append_nil])
          go_wp2_with (at_builtin; refine wpList_appInts _ rfl _ _ 22 rfl wr.heap.size i0 Try.underlying22 hi hz0 hz1 hz2 _ 0 _ rfl HOW0.out _ P1 rfl HPRE.out (by rw [HTL.out]; omega) hsz0 ?_)
          intro A2 c2 w2 hown2 hgrow2
          have hb2 : Below wr.heap.size wr w2 := hgrow2.below HOW0.out HA0.out (Nat.le_refl _) hsz0
          rw [HTL.out] at hown2
          rw [HTL.out]
          have hs2 := hb2.size
          have hown2' : w2.ownsRow wr.heap.size 3 1 (.slice A2 k c2) k (intCells P1) := by simpa using hown2
          have HOW2 := Lib.hid hown2'; have HB2 := Lib.hid hb2
          clear hown2 hgrow2 hb2 hown2'
          go_wp2_with (at_builtin; refine wpList_app1g _ rfl _ _ 22 rfl wr.heap.size 3 i0 (.int .i64 0) 8 Try.underlying22 hi hz0 hz1 hz2 rfl _ k _ rfl HOW2.out _ rfl rfl (by omega) (by omega) hs2 ?_)
          intro A3 c3 w3 hown3 hgrow3
          have hb3 : Below wr.heap.size wr w3 := hgrow3.below HOW2.out HB2.out (Nat.le_refl _) hs2
          have hs3 := hb3.size
          have HOW3 := Lib.hid hown3; have HB3 := Lib.hid hb3
          clear hown3 hgrow3 hb3
          go_wp2_with (at_builtin; refine wpList_appInts _ rfl _ _ 22 rfl wr.heap.size i0 Try.underlying22 hi hz0 hz1 hz2 _ (k + 1) _ rfl HOW3.out _ [] rfl (seqV_nil _ _ _) (by simp; omega) hs3 ?_)
          all_goals
            intro A4 c4 w4 hown4 hgrow4
            have hb4 : Below wr.heap.size wr w4 := hgrow4.below HOW3.out HB3.out (Nat.le_refl _) hs3
            have ho4 : w4.ownsRow wr.heap.size 3 1 (.slice A4 (k + 1) c4) (k + 1) (intCells (addR L x)) := by rw [HFIN.out, intCells_app]; simpa [intCells] using hown4
            have HO4 := Lib.hid (own_seqC ho4); have HB4 := Lib.hid hb4
            clear hown4 hgrow4 hb4 ho4
            go_wp2_with fail
            go_ret
            exact ⟨_, rfl, HO4.out, HB4.out⟩
        · obtain ⟨P2, hP2⟩ : ∃ P, L.drop k = P := ⟨_, rfl⟩
          have hP2l : P2.length = n - k := by rw [← hP2, List.length_drop, HL.out]
          have HFIN : Hid (addR L x = P1 ++ [x] ++ P2) := Lib.hid (by rw [HR.out, HM.out, HP1.out, hP2])
          have hck : ¬ c = k := by omega
          have hbl : b < wr.heap.size := World.block_lt_of_cell? _ _ hc'
          have HSUF : Hid (SeqV wr (.slice (some ⟨b, off + k, none⟩) (n - k) (c - k)) P2) := Lib.hid (by
            rcases HS.out with ⟨h0, _⟩ | ⟨_, b', off', c0, e, hcell⟩
            · omega
            · injection e with e1 e2 e3
              injection e1 with e1
              injection e1 with e1 e4
              subst e1 e4
              refine Or.inr ⟨by omega, b, off + k, c - k, by rw [hP2l], fun i hi => ?_⟩
              rw [hP2l] at hi
              rw [Nat.add_assoc, hcell (k + i) (by omega), ← hP2]
              simp [List.getD, List.getElem?_drop])
          have HP2L := Lib.hid hP2l
          clear hP2 hP2l hbl
          go_wp2_with (at_builtin; refine wpList_appInts _ rfl _ _ 22 rfl wr.heap.size i0 Try.underlying22 hi hz0 hz1 hz2 _ 0 _ rfl HOW0.out _ P1 rfl HPRE.out (by rw [HTL.out]; omega) hsz0 ?_)
          intro A2 c2 w2 hown2 hgrow2
          have hb2 : Below wr.heap.size wr w2 := hgrow2.below HOW0.out HA0.out (Nat.le_refl _) hsz0
          rw [HTL.out] at hown2
          rw [HTL.out]
          have hs2 := hb2.size
          have hown2' : w2.ownsRow wr.heap.size 3 1 (.slice A2 k c2) k (intCells P1) := by simpa using hown2
          have HOW2 := Lib.hid hown2'; have HB2 := Lib.hid hb2
          clear hown2 hgrow2 hb2 hown2'
          go_wp2_with (at_builtin; refine wpList_app1g _ rfl _ _ 22 rfl wr.heap.size 3 i0 (.int .i64 0) 8 Try.underlying22 hi hz0 hz1 hz2 rfl _ k _ rfl HOW2.out _ rfl rfl (by omega) (by omega) hs2 ?_)
          intro A3 c3 w3 hown3 hgrow3
          have hb3 : Below wr.heap.size wr w3 := hgrow3.below HOW2.out HB2.out (Nat.le_refl _) hs2
          have hs3 := hb3.size
          have HOW3 := Lib.hid hown3; have HB3 := Lib.hid hb3
          clear hown3 hgrow3 hb3
          have HSUF3 := Lib.hid (HSUF.out.below HB3.out (Nat.le_refl _))
          go_wp2_with (at_builtin; refine wpList_appInts _ rfl _ _ 22 rfl wr.heap.size i0 Try.underlying22 hi hz0 hz1 hz2 _ (k + 1) _ rfl HOW3.out _ P2 rfl HSUF3.out (by rw [HP2L.out]; omega) hs3 ?_)
          intro A4 c4 w4 hown4 hgrow4
          have hb4 : Below wr.heap.size wr w4 := hgrow4.below HOW3.out HB3.out (Nat.le_refl _) hs3
          have ho4 : w4.ownsRow wr.heap.size 3 1 (.slice A4 (k + 1 + P2.length) c4) (k + 1 + P2.length) (intCells (addR L x)) := by rw [HFIN.out, intCells_app, intCells_app]; simpa [intCells] using hown4
          have HO4 := Lib.hid (own_seqC ho4); have HB4 := Lib.hid hb4
          clear hown4 hgrow4 hb4 ho4
          go_wp2_with fail
          go_ret
          exact ⟨_, rfl, HO4.out, HB4.out⟩

set_option maxRecDepth 100000 in
set_option maxHeartbeats 2000000 in
theorem refOf_any (L : List Int) (v : Value) (w : World) (h : SeqV w v L) (hn : L.length ≤ 1000000) :
    Calls Try.prog 23 #[v] w fun e w' => ∃ v', e = .returned v' ∧ SeqC w' v' (ofR L) ∧ Below w.heap.size w w' := by
  obtain ⟨A, c, rfl⟩ := IntsV.form h
  obtain ⟨n, hl⟩ : ∃ n, L.length = n := ⟨_, rfl⟩
  have H : Hid (IntsV w (.slice A n c) n (fun i => L.getD i 0)) := Lib.hid (by rw [← hl]; exact h)
  have HL := Lib.hid hl
  rw [hl] at hn ⊢
  clear h hl
  go_enter Try.func23, Try.ntmps23
  go_wp2_with fail
  go_loopg [3, 4] n (fun g x y wr => ∃ k, k ≤ n ∧ g = n - k ∧ y = .int .i64 (k : Nat) ∧ SeqC wr x (ofR (L.take k)) ∧ Below w.heap.size w wr)
  case atStart => exact ⟨0, by omega, rfl, rfl, ⟨by simp [ofR]; exact seqV_nil _ _ _, _, _, rfl, by simp [ofR]⟩, Below.refl _ _⟩
  case round =>
    obtain ⟨k, hk, rfl, rfl, hs, hb⟩ := hrel
    by_cases hlt : k < n
    · obtain ⟨b, off, rfl, hcell⟩ := (H.out.below hb (Nat.le_refl _)).pos hlt
      have hc := hcell k hlt
      obtain ⟨z, hz⟩ : ∃ z : Int, L.getD k 0 = z := ⟨_, rfl⟩
      have hc' : wr.cell? ⟨b, off + k, none⟩ = some (.int .i64 z) := by rw [← hz]; exact hc
      have hle := (ofR_parts _ (L.take k) rfl).2.2
      have A1 := Lib.hid (refAdd_any _ z _ wr hs (by rw [List.length_take] at hle; omega))
      have HK : Hid (ofR (L.take (k + 1)) = addR (ofR (L.take k)) z) := Lib.hid (by
        rw [List.take_succ_eq_append_getElem (by rw [HL.out]; exact hlt), ofR_snoc, ← hz]
        simp [List.getD, HL.out, hlt])
      have HB := Lib.hid hb; have HLT := Lib.hid hlt
      obtain ⟨_, A', c', rfl, _⟩ := hs
      obtain ⟨q, hq⟩ : ∃ q, (ofR (L.take k)).length = q := ⟨_, rfl⟩
      rw [hq] at A1 ⊢
      have t7 : decide (k < n) = true := decide_eq_true hlt
      have i1 : (k : Int) < n := by omega
      have i2 : (0 : Int) ≤ k := by omega
      have hsz := hb.size
      clear hcell hc hz hlt hb hle hq
      go_wp2_with fail
      refine A1.out.mono ?_; rintro e w2 ⟨v2, rfl, hs2, hb2⟩
      have HS2 := Lib.hid hs2; have HB2 := Lib.hid (HB.out.trans (hb2.mono hsz))
      obtain ⟨_, A2, c2, rfl, _⟩ := hs2
      clear hb2
      go_wp2_with fail
      go_roundg (n - (k + 1))
      case rel => exact ⟨k + 1, HLT.out, rfl, by go_num, by rw [HK.out]; exact HS2.out, HB2.out⟩
      case measure => have := HLT.out; omega
    · obtain rfl : k = n := by omega
      have t7 : decide (k < k) = false := by simp
      have hs' : SeqC wr u3 (ofR L) := by rwa [List.take_of_length_le (by rw [HL.out]; omega)] at hs
      have HS := Lib.hid hs'; have HB := Lib.hid hb
      clear hs hs' hb hlt
      go_wp2
      go_ret
      exact ⟨_, rfl, HS.out, HB.out⟩
end Go.Proofs.Ytploaffmhemjkaa
