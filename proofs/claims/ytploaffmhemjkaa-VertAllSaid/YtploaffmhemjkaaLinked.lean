/- vert.Linked. -/
import Derived.Test.YtploaffmhemjkaaContains
import Derived.Test.YtploaffmhemjkaaFollows
import Derived.BigQuiet
import Derived.Deep.QuietTactic
namespace Go.Proofs.Ytploaffmhemjkaa
open Go.RowKit

theorem drew_drew {w : World} (a : Nat) {w' : World} (h : Drew (w.drewN a) w') : Drew w w' := by
  obtain ⟨d, rfl⟩ := h
  exact ⟨a + d, by rw [World.drewN_drewN]⟩

theorem GF.ptr {w : World} {base n : Nat} {p : Value} {S : List (Int × Int)} (h : GF w base p n S) : ∃ o, p = .pointer o := by
  rcases h.own with ⟨g, _, h, _⟩ | ⟨h, _⟩
  · exact ⟨_, h⟩
  · exact ⟨_, h⟩
/-- Is a vertex of a list none ahead, and beside one ahead? -/
def lkAt (n : Nat) (b : Int → Int → Bool) (l : List Int) (i : Nat) : Bool := hasV n (l.getD i 0) && (!(l.take i).contains (l.getD i 0) && (decide (i = 0) || bes b (l.take i) (l.getD i 0)))
theorem lkTo_bad {n : Nat} {b : Int → Int → Bool} {l : List Int} {i : Nat} : ∀ {k : Nat}, i < k → lkAt n b l i = false → lkTo n b l k = false
  | 0, h, _ => by omega
  | k + 1, h, hf => by
    unfold lkTo
    rcases (by omega : i < k ∨ i = k) with h | rfl
    · rw [lkTo_bad h hf]; rfl
    · have h2 : (lkTo n b l i && lkAt n b l i) = false := by rw [hf]; simp
      exact h2
theorem lkTo_valid {n : Nat} {b : Int → Int → Bool} {l : List Int} {k : Nat} (hk : k ≤ l.length) (h : lkTo n b l k = true) : ∀ u, u ∈ l.take k → hasV n u = true := by
  intro u hu
  rw [List.mem_take_iff_getElem] at hu
  obtain ⟨i, hi, rfl⟩ := hu
  exact ((lkTo_iff hk).1 h i (by omega) (by omega)).1
set_option maxRecDepth 100000 in
set_option maxHeartbeats 1000000 in
theorem closure_any {W : World} {base m : Nat} {o : Option Addr} {S : List (Int × Int)} (hG : GF W base (.pointer o) m S) (x v : Int) (gb vb : Nat) (c0 : W.cell? ⟨gb, 0, none⟩ = some (.pointer o)) (c1 : W.cell? ⟨vb, 0, none⟩ = some (.int .i64 v)) :
    Calls Try.prog 38 #[.int .i64 x, .pointer (some ⟨gb, 0, none⟩), .pointer (some ⟨vb, 0, none⟩)] W fun e w' => e = .returned (.bool (adj S x v)) ∧ Drew W w' := by
  have HH := Lib.hid (hG.has x v)
  obtain ⟨z, hz⟩ : ∃ z, adj S x v = z := ⟨_, rfl⟩
  rw [hz] at HH ⊢
  clear hG hz
  go_enter Try.func38, Try.ntmps38
  go_wp2_with fail
  refine HH.out.mono ?_; rintro e w1 ⟨rfl, d, hd⟩
  have HD := Lib.hid hd
  clear hd
  go_wp2_with fail
  go_ret
  exact ⟨rfl, d, HD.out⟩

set_option maxRecDepth 100000 in
set_option maxHeartbeats 2000000 in
theorem linked_any {w : World} {base m : Nat} {g : Value} {S : List (Int × Int)} (hG : GF w base g m S) (l : List Int) (vl : Value) (hlc : SeqC w vl l) (hn : l.length ≤ 1000000) :
    Calls Try.prog 13 #[g, vl] w fun e w' => e = .returned (.bool (lkTo m (adj S) l l.length)) ∧ Below w.heap.size w w' := by
  obtain ⟨o, rfl⟩ := hG.ptr
  obtain ⟨hl, A, c, rfl, hc⟩ := hlc
  obtain ⟨n, hln⟩ : ∃ n, l.length = n := ⟨_, rfl⟩
  rw [hln] at hl hn hc ⊢
  have hb0 : Below w.heap.size w (w.alloc (.cells #[.pointer o] 25)) := (Below.refl _ _).alloc (Nat.le_refl _) _
  have hGB := Whole.new w 25 #[.pointer o]
  obtain ⟨w0, hw0⟩ : ∃ W, w.alloc (.cells #[.pointer o] 25) = W := ⟨_, rfl⟩
  rw [hw0] at hb0 hGB
  obtain ⟨gb, hgb⟩ : ∃ b, w.heap.size = b := ⟨_, rfl⟩
  have HG := Lib.hid (hG.below hb0); have HL := Lib.hid (hl.below hb0 (Nat.le_refl _)); have HB0 := Lib.hid hb0; have HW0 := Lib.hid hw0; have HGBN := Lib.hid hgb; have HN := Lib.hid hln;
  rw [hgb] at hGB
  have HGB := Lib.hid hGB
  clear hG hl hb0 hGB hw0 hgb hln
  go_enter Try.func13, Try.ntmps13
  go_wp2_with fail
  rw [HW0.out, HGBN.out]
  go_loopg [10] n (fun gh yv wr => ∃ i, i ≤ n ∧ gh = n - i ∧ yv = .int .i64 (i : Nat) ∧ lkTo m (adj S) l i = true ∧ Below w0.heap.size w0 wr)
  case atStart => exact ⟨0, Nat.zero_le _, rfl, rfl, rfl, Below.refl _ _⟩
  case round =>
    obtain ⟨i, hi, rfl, rfl, hlk, hB⟩ := hrel
    have HLK := Lib.hid hlk
    clear hlk
    by_cases hlt : i < n
    · have hiL : i < l.length := by rw [HN.out]; exact hlt
      have hseq := HL.out.below hB (Nat.le_refl _)
      obtain ⟨bl, ol, hA, hx⟩ := SeqV.pos hseq hiL
      obtain ⟨v, hv⟩ : ∃ v, l.getD i 0 = v := ⟨_, rfl⟩
      rw [hv] at hx
      have hsucc : lkTo m (adj S) l (i + 1) = lkAt m (adj S) l i := by show (lkTo m (adj S) l i && lkAt m (adj S) l i) = _; rw [HLK.out, Bool.true_and]
      have hok : lkAt m (adj S) l i = (hasV m v && (!(l.take i).contains v && (decide (i = 0) || (l.take i).any fun u => adj S u v))) := by unfold lkAt; rw [hv]; rfl
      have hval : ∀ u, u ∈ l.take i → hasV m u = true := lkTo_valid (by omega) HLK.out
      have hb1 : Below wr.heap.size wr (wr.alloc (.cells #[.int .i64 v] 3)) := (Below.refl _ _).alloc (Nat.le_refl _) _
      have hVB := Whole.new wr 3 #[.int .i64 v]
      obtain ⟨w1, hw1⟩ : ∃ W, wr.alloc (.cells #[.int .i64 v] 3) = W := ⟨_, rfl⟩
      obtain ⟨vb, hvb⟩ : ∃ b, wr.heap.size = b := ⟨_, rfl⟩
      rw [hw1] at hb1 hVB
      have hB1 := hB.trans (hb1.mono hB.size)
      have hG1 := HG.out.below hB1
      have hS1 := HL.out.below hB1 (Nat.le_refl _)
      have hGB1 := HGB.out.below hB1 HGB.out.lt
      rw [hvb] at hVB
      have g0 : w1.cell? ⟨gb, 0, none⟩ = some (.pointer o) := hGB1.cell 0
      have v0 : w1.cell? ⟨vb, 0, none⟩ = some (.int .i64 v) := hVB.cell 0
      have hgd : ∀ d, (w1.drewN d).cell? ⟨gb, 0, none⟩ = some (.pointer o) := fun d => (hGB1.drewN d).cell 0
      have hvd : ∀ d, (w1.drewN d).cell? ⟨vb, 0, none⟩ = some (.int .i64 v) := fun d => (hVB.drewN d).cell 0
      have LN := fun d => (hG1.drewN d).len
      have CT := fun d => contains_any (l.take i) v (.slice A i c) (w1.drewN d) ((seq_take hS1 i hi).below (below_drewN' (Below.refl _ _) d) (Nat.le_refl _)) (by rw [List.length_take]; omega)
      have CF := fun d => containsFunc_any (l.take i) (fun u => adj S u v) (.pointer (some ⟨gb, 0, none⟩)) (.pointer (some ⟨vb, 0, none⟩)) (.slice A i c) (w1.drewN d) ((seq_take hS1 i hi).below (below_drewN' (Below.refl _ _) d) (Nat.le_refl _)) (by rw [List.length_take]; omega)
        (fun x _ d' => by
          rw [World.drewN_drewN]
          refine (closure_any (hG1.drewN (d + d')) x v gb vb (hgd _) (hvd _)).mono ?_
          rintro e w' ⟨he, q, rfl⟩
          exact ⟨he, d' + q, by rw [World.drewN_drewN, World.drewN_drewN, Nat.add_assoc]⟩)
      obtain ⟨b1, hb1e⟩ : ∃ b, (l.take i).contains v = b := ⟨_, rfl⟩
      obtain ⟨b2, hb2e⟩ : ∃ b, ((l.take i).any fun u => adj S u v) = b := ⟨_, rfl⟩
      rw [hb1e] at CT hok
      rw [hb2e] at CF hok
      have HLN := Lib.hid LN; have HCT := Lib.hid CT; have HCF := Lib.hid CF; have HB1 := Lib.hid (hB1); have HBW1 := Lib.hid (HB0.out.trans (hB1.mono HB0.out.size)); have HW1 := Lib.hid hw1; have HVB := Lib.hid hvb
      have HSU := Lib.hid hsucc; have HOK := Lib.hid hok; have HLT := Lib.hid hlt
      have t3 : decide (i < n) = true := decide_eq_true hlt
      have i1 : (i : Int) < n := by omega
      have i2 : (0 : Int) ≤ i := by omega
      have i3 : (i : Int) ≤ c := by omega
      subst hA
      clear hB hseq hv hsucc hok hval hb1e hb2e hb1 hVB hw1 hvb hB1 hG1 hS1 hGB1 hgd hvd LN CT CF hlt hiL
      go_upto_region 4 with fail
      rw [HW1.out, HVB.out]
      go_upto_region 5 with fail
      cases hv : hasV m v with
      | false =>
        have HBAD : Hid (lkTo m (adj S) l n = false) := Lib.hid (lkTo_bad HLT.out (by rw [HOK.out, hv]; rfl))
        have hcase : (decide (v < 0) = true) ∨ (decide (v < 0) = false ∧ decide ((m : Int) ≤ v) = true) := by
          rcases hasV_no' hv with h | ⟨h, k⟩
          · exact Or.inl (decide_eq_true h)
          · exact Or.inr ⟨decide_eq_false (by omega), decide_eq_true k⟩
        clear hv
        rcases hcase with k1 | ⟨k1, k2⟩
        all_goals
          go_quiet ((go_at_call 25; with_reducible exact Calls.quiet_of_same (HLN.out _)))
          go_wp2_with fail
          go_ret
          exact ⟨by rw [HBAD.out]; rfl, below_drewN' HBW1.out _⟩
      | true =>
        obtain ⟨k, rfl, hk⟩ := hasV_yes hv
        have HV := Lib.hid hv
        have k1 : decide ((k : Int) < 0) = false := decide_eq_false (by omega)
        have k2 : decide ((m : Int) ≤ k) = false := decide_eq_false (by omega)
        have k2' : decide (m ≤ k) = false := decide_eq_false (by omega)
        have k3 : (k : Int) < m := by omega
        have k4 : (0 : Int) ≤ k := by omega
        clear hv hk
        cases b1 with
        | true =>
          have HBAD : Hid (lkTo m (adj S) l n = false) := Lib.hid (lkTo_bad HLT.out (by rw [HOK.out, HV.out]; rfl))
          go_quiet ((go_at_call 25; with_reducible exact Calls.quiet_of_same (HLN.out _)))
          go_wp2_with fail
          refine (HCT.out _).mono ?_; rintro e w2 ⟨rfl, hw⟩
          have HWW := Lib.hid hw
          clear hw
          go_wp2_with fail
          go_ret
          exact ⟨by rw [HBAD.out]; rfl, by rw [HWW.out]; exact below_drewN' HBW1.out _⟩
        | false =>
          by_cases hi0 : i = 0
          · subst hi0
            have HNX : Hid (lkTo m (adj S) l (0 + 1) = true) := Lib.hid (by rw [HSU.out, HOK.out, HV.out]; rfl)
            go_quiet ((go_at_call 25; with_reducible exact Calls.quiet_of_same (HLN.out _)))
            go_wp2_with fail
            refine (HCT.out _).mono ?_; rintro e w2 ⟨rfl, hw⟩
            have HWW := Lib.hid hw
            clear hw
            go_wp2_with fail
            go_roundg (n - (0 + 1))
            case rel => exact ⟨1, HLT.out, rfl, by go_num, HNX.out, by rw [HWW.out]; exact below_drewN' HB1.out _⟩
            case measure => have := HLT.out; omega
          · have t5 : decide ((0 : Int) < i) = true := decide_eq_true (by omega)
            have t5' : decide (0 < i) = true := decide_eq_true (by omega)
            have HI0 := Lib.hid hi0
            clear hi0
            cases b2 with
            | false =>
              have HBAD : Hid (lkTo m (adj S) l n = false) := Lib.hid (lkTo_bad HLT.out (by rw [HOK.out, HV.out, decide_eq_false HI0.out]; rfl))
              go_quiet ((go_at_call 25; with_reducible exact Calls.quiet_of_same (HLN.out _)))
              go_wp2_with fail
              refine (HCT.out _).mono ?_; rintro e w2 ⟨rfl, hw⟩; obtain rfl := hw.symm
              go_wp2_with fail
              refine (HCF.out _).mono ?_; rintro e w2 ⟨rfl, d2, hw⟩
              have HWW := Lib.hid hw
              clear hw
              go_wp2_with fail
              go_ret
              exact ⟨by rw [HBAD.out]; rfl, by rw [HWW.out]; exact below_drewN' (below_drewN' HBW1.out _) _⟩
            | true =>
              have HNX : Hid (lkTo m (adj S) l (i + 1) = true) := Lib.hid (by rw [HSU.out, HOK.out, HV.out]; simp)
              go_quiet ((go_at_call 25; with_reducible exact Calls.quiet_of_same (HLN.out _)))
              go_wp2_with fail
              refine (HCT.out _).mono ?_; rintro e w2 ⟨rfl, hw⟩; obtain rfl := hw.symm
              go_wp2_with fail
              refine (HCF.out _).mono ?_; rintro e w2 ⟨rfl, d2, hw⟩
              have HWW := Lib.hid hw
              clear hw
              go_wp2_with fail
              go_roundg (n - (i + 1))
              case rel => exact ⟨i + 1, HLT.out, rfl, by go_num, HNX.out, by rw [HWW.out]; exact below_drewN' (below_drewN' HB1.out _) _⟩
              case measure => have := HLT.out; omega
    · obtain rfl : n = i := by omega
      have t3 : decide (n < n) = false := by simp
      have HBF := Lib.hid (HB0.out.trans (hB.mono HB0.out.size))
      clear hlt hB
      go_wp2_with fail
      go_ret
      exact ⟨by rw [HLK.out]; rfl, HBF.out⟩
end Go.Proofs.Ytploaffmhemjkaa
