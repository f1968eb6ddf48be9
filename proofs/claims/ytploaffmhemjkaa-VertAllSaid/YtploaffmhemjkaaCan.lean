/- vert.Canonical, May. -/
import Derived.Test.YtploaffmhemjkaaFollows
import Derived.Test.YtploaffmhemjkaaLaw0
namespace Go.Proofs.Ytploaffmhemjkaa
open Go.RowKit

theorem seq_take {w : World} {A : Option Addr} {n c : Nat} {L : List Int} (h : SeqV w (.slice A n c) L) (k : Nat) (hk : k ≤ n) : SeqV w (.slice A k c) (L.take k) := by
  have hn : L.length = n := by
    obtain ⟨A', c', e⟩ := IntsV.form h
    injection e with _ e _
    exact e.symm
  rcases h with ⟨h0, a, c', e⟩ | ⟨h0, b, off, c', e, hc⟩
  · have hk0 : k = 0 := by omega
    subst hk0
    exact Or.inl ⟨by simp, A, c, rfl⟩
  · injection e with e1 e2 e3
    subst e1
    rcases Nat.eq_zero_or_pos k with rfl | hp
    · exact Or.inl ⟨by simp, some ⟨b, off, none⟩, c, rfl⟩
    · have hl : (L.take k).length = k := by rw [List.length_take]; omega
      refine Or.inr ⟨by omega, b, off, c, by rw [hl], fun i hi => ?_⟩
      rw [hl] at hi
      have := hc i (by omega)
      rw [this]
      simp [List.getD, List.getElem?_take_of_lt hi]

set_option maxRecDepth 100000 in
set_option maxHeartbeats 1000000 in
theorem canonical_any {w : World} {base m : Nat} {g : Value} {S : List (Int × Int)} (hG : GF w base g m S) (l : List Int) (vl : Value) (hlc : SeqC w vl l) (hn : l.length ≤ 1000000) :
    Calls Try.prog 15 #[g, vl] w fun e w' => e = .returned (.bool (canL m (adj S) l)) ∧ ∃ d, w' = w.drewN d := by
  obtain ⟨hl, A, c, rfl, hcap⟩ := hlc
  obtain ⟨n, hln⟩ : ∃ n, l.length = n := ⟨_, rfl⟩
  rw [hln] at hl hn hcap ⊢
  have HF := Lib.hid (fun (d i : Nat) (hi : i ≤ n) (v : Int) => follows_any (hG.drewN d) (l.take i) v A i c (by rw [List.length_take]; omega) (seq_take (hl.below (below_drewN' (Below.refl _ _) d) (Nat.le_refl _)) i hi) (by omega))
  have HL := Lib.hid (fun d => (show SeqV (w.drewN d) (.slice A n c) l from hl.below (below_drewN' (Below.refl _ _) d) (Nat.le_refl _))); have HN := Lib.hid hln
  have HC := Lib.hid hcap
  clear hG hl hln hcap
  go_enter Try.func15, Try.ntmps15
  go_wp2_with fail
  go_loopg [9] n (fun gh yv wr => ∃ i d, i ≤ n ∧ gh = n - i ∧ yv = .int .i64 (i : Nat) ∧ canTo m (adj S) l i = true ∧ wr = w.drewN d)
  case atStart => exact ⟨0, 0, Nat.zero_le _, rfl, rfl, rfl, rfl⟩
  case round =>
    obtain ⟨i, d, hi, rfl, rfl, hcan, hwd⟩ := hrel
    by_cases hit : i < n
    · have hil : i < l.length := by rw [HN.out]; exact hit
      obtain ⟨b, off, hA, hx⟩ := seqPos (HL.out d) hil
      rw [← hwd] at hx
      obtain ⟨v, hv⟩ : ∃ v, l.getD i 0 = v := ⟨_, rfl⟩
      rw [hv] at hx
      have hst : canTo m (adj S) l (i + 1) = (canTo m (adj S) l i && follows m (adj S) (l.take i) (l.getD i 0)) := rfl
      rw [hcan, Bool.true_and, hv] at hst
      have hF := HF.out d i hi v
      rw [← hwd] at hF
      obtain ⟨z, hz⟩ : ∃ z, follows m (adj S) (l.take i) v = z := ⟨_, rfl⟩
      have hbd : z = false → canTo m (adj S) l n = false := fun h => canTo_bad hit (by rw [hv, hz, h])
      rw [hz] at hF hst
      have HST := Lib.hid hst; have HFF := Lib.hid hF; have HBD := Lib.hid hbd; have HWD := Lib.hid hwd; have HIT := Lib.hid hit
      have t3 : decide (i < n) = true := decide_eq_true hit
      have i1 : (i : Int) < n := by omega
      have i2 : (0 : Int) ≤ i := by omega
      have i3 : (i : Int) ≤ c := by have := HC.out; omega
      subst hA
      clear hit hil hv hst hF hz hbd hwd hcan
      cases z with
      | false =>
        have HB : Hid (canL m (adj S) l = false) := Lib.hid (by unfold canL; rw [HN.out]; exact HBD.out rfl)
        go_wp2_with fail
        refine HFF.out.mono ?_; rintro e w1 ⟨rfl, d2, hw2⟩
        have HW2 := Lib.hid hw2
        clear hw2
        go_wp2_with fail
        go_ret
        exact ⟨by rw [HB.out]; rfl, d + d2, by rw [HW2.out, HWD.out, World.drewN_drewN]⟩
      | true =>
        go_wp2_with fail
        refine HFF.out.mono ?_; rintro e w1 ⟨rfl, d2, hw2⟩
        have HW2 := Lib.hid hw2
        clear hw2
        go_wp2_with fail
        go_roundg (n - (i + 1))
        case rel => exact ⟨i + 1, d + d2, HIT.out, rfl, by go_num, HST.out, by rw [HW2.out, HWD.out, World.drewN_drewN]⟩
        case measure => have := HIT.out; omega
    · obtain rfl : n = i := by omega
      have t3 : decide (n < n) = false := by simp
      have HB : Hid (canL m (adj S) l = true) := Lib.hid (by unfold canL; rw [HN.out]; exact hcan)
      have HWD := Lib.hid hwd
      clear hit hcan hwd
      go_wp2_with fail
      go_ret
      exact ⟨by rw [HB.out]; rfl, d, HWD.out⟩

set_option maxRecDepth 100000 in
theorem may_any {w : World} {base m : Nat} {g : Value} {S : List (Int × Int)} (hG : GF w base g m S) (l : List Int) (v : Int) (vl : Value) (hlc : SeqC w vl l) (hn : l.length ≤ 1000000) :
    Calls Try.prog 17 #[g, vl, .int .i64 v] w fun e w' => e = .returned (.bool (canL m (adj S) (l ++ [v]))) ∧ ∃ d, w' = w.drewN d := by
  have HC := Lib.hid (canonical_any hG l vl hlc hn)
  obtain ⟨hl, A, c, rfl, hcap⟩ := hlc
  obtain ⟨n, hln⟩ : ∃ n, l.length = n := ⟨_, rfl⟩
  rw [hln] at hl hn HC ⊢
  have HF := Lib.hid (fun d => follows_any (hG.drewN d) l v A n c hln (hl.below (below_drewN' (Below.refl _ _) d) (Nat.le_refl _)) hn)
  rw [canL_snoc]
  obtain ⟨z, hz⟩ : ∃ z, canL m (adj S) l = z := ⟨_, rfl⟩
  obtain ⟨y, hy⟩ : ∃ y, follows m (adj S) l v = y := ⟨_, rfl⟩
  rw [hz] at HC ⊢
  rw [hy] at HF ⊢
  clear hG hl hln hz hy
  cases z with
  | false =>
    go_enter Try.func17, Try.ntmps17
    go_wp2_with fail
    refine HC.out.mono ?_; rintro e w1 ⟨rfl, d, hw1⟩
    have HW1 := Lib.hid hw1
    clear hw1
    go_wp2_with fail
    go_ret
    exact ⟨rfl, d, HW1.out⟩
  | true =>
    go_enter Try.func17, Try.ntmps17
    go_wp2_with fail
    refine HC.out.mono ?_; rintro e w1 ⟨rfl, d, hw1⟩
    obtain rfl := hw1.symm
    go_wp2_with fail
    refine (HF.out d).mono ?_; rintro e w2 ⟨rfl, d2, hw2⟩
    have HW2 := Lib.hid hw2
    clear hw2
    go_wp2_with fail
    go_ret
    exact ⟨by simp, d + d2, by rw [HW2.out, World.drewN_drewN]⟩
end Go.Proofs.Ytploaffmhemjkaa
