/- The document's Canonical. -/
import Derived.Test.YtploaffmhemjkaaRefT3
import Derived.Test.YtploaffmhemjkaaCan
namespace Go.Proofs.Ytploaffmhemjkaa
open Go.RowKit

theorem can_of {n : Nat} {b : Int → Int → Bool} {l : List Int} {x : Option (List Int)} (h : listL n b l = x) : canL n b l = decide (x = some l) := by
  rw [Bool.eq_iff_iff, can_iff, h, decide_eq_true_eq]

set_option maxRecDepth 100000 in
set_option maxHeartbeats 4000000 in
theorem refCan_any (S : List (Int × Int)) (L l : List Int) (vl ve vs : Value) (n : Nat) (w : World) (hl : SeqV w vl L) (hn : L.length = n) (he : EdgesV w ve S) (hS : S.length ≤ 1000) (hs : SeqV w vs l) (hq : l.length ≤ 100000) :
    Calls Try.prog 16 #[.agg #[vl, ve], vs] w fun e w' => e = .returned (.bool (canL n (adj S) l)) ∧ Below w.heap.size w w' := by
  obtain ⟨A, c, rfl⟩ := IntsV.form hs
  obtain ⟨p, hp⟩ : ∃ p, l.length = p := ⟨_, rfl⟩
  rw [hp] at hs hq ⊢
  have hb0 : Below w.heap.size w (w.alloc (.cells #[vl, ve] 27)) := (Below.refl _ _).alloc (Nat.le_refl _) _
  have hG := Whole.new w 27 #[vl, ve]
  obtain ⟨w0, hw0⟩ : ∃ W, w.alloc (.cells #[vl, ve] 27) = W := ⟨_, rfl⟩
  obtain ⟨gb, hgb⟩ : ∃ b, w.heap.size = b := ⟨_, rfl⟩
  rw [hw0] at hb0 hG
  rw [hgb] at hG
  have hs0 := hs.below hb0 (Nat.le_refl _)
  have RL := Lib.hid (refList_any S L l vl ve _ n w0 (hl.below hb0 (Nat.le_refl _)) hn (he.below hb0 (Nat.le_refl _)) hS hs0 (by omega))
  have HS := Lib.hid hs0; have HB0 := Lib.hid hb0; have HG := Lib.hid hG; have HW0 := Lib.hid hw0; have HGB := Lib.hid hgb; have HP := Lib.hid hp
  obtain ⟨x, hx⟩ : ∃ x, listL n (adj S) l = x := ⟨_, rfl⟩
  have hcan := can_of hx
  obtain ⟨z, hz⟩ : ∃ z, canL n (adj S) l = z := ⟨_, rfl⟩
  rw [hx] at RL
  rw [hz] at hcan ⊢
  have HZ := Lib.hid hcan
  have c0 : w0.cell? ⟨gb, 0, none⟩ = some vl := hG.cell 0
  have c1 : w0.cell? ⟨gb, 1, none⟩ = some ve := hG.cell 1
  clear hl hn he hs hs0 hb0 hG hw0 hgb hp hx hz hcan
  go_enter Try.func16, Try.ntmps16
  go_upto_region 1 with fail
  rw [HW0.out, HGB.out]
  go_wp2_with fail
  refine RL.out.mono ?_; rintro e w1 ⟨v1, rfl, hs1, hb1⟩
  have HB1 := Lib.hid hb1
  cases x with
  | none =>
    obtain rfl : z = false := HZ.out
    go_wp2_with fail
    go_ret
    exact ⟨rfl, HB0.out.trans (HB1.out.mono HB0.out.size)⟩
  | some x =>
    simp only [Option.getD_some, Option.isSome_some] at hs1 ⊢
    obtain ⟨hsv, A1, c1', rfl, _⟩ := hs1
    obtain ⟨q, hq1⟩ : ∃ q, x.length = q := ⟨_, rfl⟩
    rw [hq1] at hsv ⊢
    have HSX := Lib.hid hsv; have HQ := Lib.hid hq1
    have HS1 := Lib.hid (HS.out.below hb1 (Nat.le_refl _))
    by_cases hqp : q = p
    · subst hqp
      have t1 : ((q : Int) != q) = false := by simp
      clear hb1 hsv hq1
      go_wp2_with fail
      go_loopg [7] q (fun gh yv wr => ∃ i d, i ≤ q ∧ gh = q - i ∧ yv = .int .i64 (i : Nat) ∧ (∀ j, (hj : j < x.length) → (hk : j < l.length) → j < i → x[j] = l[j]) ∧ wr = w1.drewN d)
      case atStart => exact ⟨0, 0, Nat.zero_le _, rfl, rfl, fun j _ _ h => absurd h (Nat.not_lt_zero _), rfl⟩
      case round =>
        obtain ⟨i, d, hi, rfl, rfl, hsame, hwd⟩ := hrel
        have HSM := Lib.hid hsame
        by_cases hlt : i < q
        · have hix : i < x.length := by rw [HQ.out]; exact hlt
          have hil : i < l.length := by rw [HP.out]; exact hlt
          have hbd : Below w1.heap.size w1 (w1.drewN d) := below_drewN' (Below.refl _ _) d
          obtain ⟨b, off, hA, hx0⟩ := seqPos (HSX.out.below hbd (Nat.le_refl _)) hix
          obtain ⟨b', off', hA', hl0⟩ := seqPos (HS1.out.below hbd (Nat.le_refl _)) hil
          have hgx : x.getD i 0 = x[i] := by simp [List.getD, hix]
          have hgl : l.getD i 0 = l[i] := by simp [List.getD, hil]
          have hsn : x.getD i 0 = l.getD i 0 → ∀ j, (hj : j < x.length) → (hk : j < l.length) → j < i + 1 → x[j] = l[j] := fun h j hj hk hji => by
            rcases (by omega : j < i ∨ j = i) with h1 | rfl
            · exact hsame j hj hk h1
            · rw [← hgx, ← hgl]; exact h
          have hno : x.getD i 0 ≠ l.getD i 0 → z = false := fun h => by
            rw [HZ.out]
            exact decide_eq_false (fun e => by injection e with e; rw [e] at h; exact h rfl)
          obtain ⟨u, hu⟩ : ∃ u, x.getD i 0 = u := ⟨_, rfl⟩
          obtain ⟨y, hy⟩ : ∃ u, l.getD i 0 = u := ⟨_, rfl⟩
          rw [hu] at hx0 hsn hno
          rw [hy] at hl0 hsn hno
          rw [← hwd] at hx0 hl0
          have HSN := Lib.hid hsn; have HNO := Lib.hid hno; have HLT := Lib.hid hlt; have HWD := Lib.hid hwd
          have t3 : decide (i < q) = true := decide_eq_true hlt
          have i1 : (i : Int) < q := by omega
          have i2 : (0 : Int) ≤ i := by omega
          subst hA hA'
          clear hsame hix hil hbd hgx hgl hsn hno hu hy hlt hwd
          by_cases huy : u = y
          · have t4 : (u != y) = false := by simp [huy]
            have HEQ := Lib.hid (HSN.out huy)
            clear huy
            go_upto_region 7 with fail
            go_quiet (fail)
            go_wp2_with fail
            go_roundg (q - (i + 1))
            case rel => exact ⟨i + 1, _, HLT.out, rfl, by go_num, HEQ.out, by rw [HWD.out, World.drewN_drewN]⟩
            case measure => have := HLT.out; omega
          · have t4 : (u != y) = true := by simp [huy]
            have HZF := Lib.hid (HNO.out huy)
            clear huy
            go_upto_region 7 with fail
            go_quiet (fail)
            go_wp2_with fail
            go_ret
            exact ⟨by rw [HZF.out]; rfl, HB0.out.trans ((by rw [HWD.out]; exact below_drewN' (below_drewN' HB1.out d) _ : Below w0.heap.size w0 _).mono HB0.out.size)⟩
        · obtain rfl : q = i := by omega
          have t3 : decide (q < q) = false := by simp
          have HZT : Hid (z = true) := Lib.hid (by
            rw [HZ.out]
            refine decide_eq_true (congrArg some ?_)
            exact List.ext_getElem (by rw [HQ.out, HP.out]) (fun j h1 h2 => HSM.out j h1 h2 (by rw [← HQ.out]; exact h1)))
          have HWD := Lib.hid hwd
          clear hlt hsame hwd
          go_wp2_with fail
          go_ret
          exact ⟨by rw [HZT.out]; rfl, HB0.out.trans ((by rw [HWD.out]; exact below_drewN' HB1.out d : Below w0.heap.size w0 _).mono HB0.out.size)⟩
    · have t1 : ((q : Int) != p) = true := by simp; omega
      have HZF : Hid (z = false) := Lib.hid (by
        rw [HZ.out]
        exact decide_eq_false (fun e => by
          injection e with e
          have h1 := HQ.out
          rw [e, HP.out] at h1
          exact hqp h1.symm))
      clear hb1 hsv hq1 hqp
      go_wp2_with fail
      go_ret
      exact ⟨by rw [HZF.out]; rfl, HB0.out.trans (HB1.out.mono HB0.out.size)⟩
end Go.Proofs.Ytploaffmhemjkaa
