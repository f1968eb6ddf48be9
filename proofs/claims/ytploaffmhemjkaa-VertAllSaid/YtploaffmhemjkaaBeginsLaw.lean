/- VertBegins: the law. -/
import Derived.Test.YtploaffmhemjkaaGrow
import Derived.Test.YtploaffmhemjkaaArg4
import Derived.Test.YtploaffmhemjkaaRef06b
import Derived.BigQuiet
import Derived.Deep.RegionHeld3
import Derived.Deep.DrawnRows
import Derived.Deep.CutBlock
namespace Go.Proofs.Ytploaffmhemjkaa
open Go.RowKit

theorem bare_n {w : World} {base m : Nat} {g : Value} {S : List (Int × Int)} (hG : GF w base g m S) :
    Calls Try.prog 21 #[g] w fun e w' => ∃ A c, e = .returned (.slice A m c) ∧ Below w.heap.size w w' := by
  refine (bare_any hG).mono ?_
  rintro e w' ⟨v, h1, h2, h3⟩
  obtain ⟨A, c, h4⟩ := h2.form
  rw [bareL_len] at h4
  exact ⟨A, c, by rw [h1, h4], h3⟩
theorem seq_one (w : World) (x : Int) (t : TypeId) : SeqC (w.alloc (.cells #[.int .i64 x] t)) (.slice (some ⟨w.heap.size, 0, none⟩) 1 1) [x] := by
  refine ⟨Or.inr ⟨by simp, w.heap.size, 0, 1, rfl, fun i hi => ?_⟩, _, _, rfl, Nat.le_refl _⟩
  obtain rfl : i = 0 := by simp at hi; exact hi
  exact (Whole.new w t #[.int .i64 x]).cell 0
theorem nilC (w : World) : SeqC w (.slice none 0 0) [] := ⟨seqV_nil _ _ _, none, 0, rfl, Nat.le_refl _⟩
theorem first_least {n : Nat} {b : Int → Int → Bool} {s x : List Int} (h : listL n b s = some x) (h0 : 0 < x.length) : x.getD 0 0 = (ofR s).getD 0 0 := by
  obtain ⟨p1, p2, _⟩ := ofR_parts _ s rfl
  obtain ⟨_, h2, h3⟩ := listL_some.1 h
  have hn := (nextL_some p1).1 (h3 0 h0)
  have e1 : x.getD 0 0 = x[0] := by simp [List.getD, h0]
  have hT : 0 < (ofR s).length := by omega
  have e2 : (ofR s).getD 0 0 = (ofR s)[0] := by simp [List.getD, hT]
  rw [e1, e2]
  have h5 : x[0] ≤ (ofR s)[0] := hn.2.2 _ (List.getElem_mem hT) (cand_iff.2 ⟨by simp, Or.inl (by simp)⟩)
  obtain ⟨j, hj, hje⟩ := List.getElem_of_mem hn.1
  rcases Nat.eq_zero_or_pos j with rfl | hp
  · exact hje.symm
  · have := List.pairwise_iff_getElem.1 p1 0 j hT hj hp
    omega
theorem can_step {n : Nat} {b : Int → Int → Bool} {l : List Int} (h : canL n b l = true) {i : Nat} (hi : i < l.length) : canL n b (l.take i ++ [l.getD i 0]) = true := by
  have := canL_pre h (i := i + 1) hi
  rw [List.take_succ_eq_append_getElem hi] at this
  rw [show l.getD i 0 = l[i] by simp [List.getD, hi]]
  exact this

set_option maxRecDepth 100000 in
set_option maxHeartbeats 2000000 in
theorem begins_law (L : List Int) (E : List (Int × Int)) (X : List Int) (vl ve vx : Value) (w : World) (hl : SeqV w vl L) (he : EdgesV w ve E) (hx : SeqV w vx X) (hE : ∀ e, e ∈ E → In64 e.1 ∧ In64 e.2) (h1 : L.length ≤ 9223372036854775807) (h2 : E.length ≤ 9223372036854775807) (h3 : X.length ≤ 9223372036854775807) :
    Calls Try.prog 5 #[vl, ve, vx] w fun e w' => e = .returned (.bool true) ∧ Below w.heap.size w w' := by
  have AL := Lib.hid (alive_ok w)
  have HSL := Lib.hid hl; have HSX := Lib.hid hx; have HSE := Lib.hid he; have HE := Lib.hid hE; have HL1 := Lib.hid h1; have HL2 := Lib.hid h2
  obtain ⟨Al, cl, rfl⟩ := IntsV.form hl
  obtain ⟨Ae, ce, rfl⟩ := he.form
  obtain ⟨Ax, cx, rfl⟩ := IntsV.form hx
  obtain ⟨p, hpp⟩ : ∃ p, X.length = p := ⟨_, rfl⟩
  obtain ⟨n, hnn⟩ : ∃ n, L.length = n := ⟨_, rfl⟩
  obtain ⟨m, hmm⟩ : ∃ m, E.length = m := ⟨_, rfl⟩
  rw [hpp] at HSX h3 ⊢
  rw [hnn] at HSL ⊢
  rw [hmm] at HSE ⊢
  have HPP := Lib.hid hpp; have HNN := Lib.hid hnn; have HMM := Lib.hid hmm
  clear hl he hx hE h1 h2 hnn hmm hpp
  go_enter Try.func5, Try.ntmps5
  go_wp2_with fail
  refine AL.out.mono ?_; rintro e w1 ⟨rfl, hb1⟩
  have MA := Lib.hid (made_sure L E _ _ w1 (HSL.out.below hb1 (Nat.le_refl _)) (HSE.out.below hb1 (Nat.le_refl _)) HE.out HL1.out HL2.out)
  have HB1 := Lib.hid hb1
  clear hb1
  go_wp2_with fail
  refine MA.out.mono ?_
  rintro e w2 ⟨hb2, ⟨_, g0, rfl⟩ | ⟨hn, hm, hnf, g, v, rfl, hG, hv⟩⟩
  · have HB2 := Lib.hid (HB1.out.trans (hb2.mono HB1.out.size))
    have HB3 := Lib.hid (HB2.out.alloc HB2.out.size (.cells #[.slice none 0 0, .slice none 0 0] 27))
    clear hb2
    go_wp2_with fail
    go_ret
    exact ⟨rfl, HB3.out⟩
  · rw [HNN.out] at hn
    rw [HMM.out] at hm hv
    obtain ⟨Av, cv, rfl⟩ := own_form hv
    have hB2 := HB1.out.trans (hb2.mono HB1.out.size)
    by_cases hp20 : 20 < p
    · have t20 : decide ((20 : Int) < p) = true := decide_eq_true (by omega)
      have t20' : decide (20 < p) = true := decide_eq_true hp20
      have HB2 := Lib.hid hB2
      clear hb2 hG hv hnf MA hB2
      go_wp2_with fail
      go_ret
      exact ⟨rfl, (HB2.out.alloc HB2.out.size _)⟩
    have t20 : decide ((20 : Int) < p) = false := decide_eq_false (by omega)
    have t20' : decide (20 < p) = false := decide_eq_false (by omega)
    obtain ⟨hF, hR, hSl⟩ := fine_sort hnf
    obtain ⟨S, hS⟩ : ∃ S, sortE E = S := ⟨_, rfl⟩
    rw [hS] at hF hR hSl hG hv
    rw [HNN.out] at hR
    rw [HMM.out] at hSl
    have hG2 := GF.of hG HNN.out hF hR (by omega) (by omega)
    have hB3 : Below w.heap.size w (w2.alloc (.cells #[.slice Al n cl, .slice Av m cv] 27)) := hB2.alloc hB2.size _
    have hG3 := hG2.below (w' := w2.alloc (.cells #[.slice Al n cl, .slice Av m cv] 27)) ((Below.refl _ _).alloc (Nat.le_refl _) _)
    obtain ⟨w3, hw3⟩ : ∃ W, w2.alloc (.cells #[.slice Al n cl, .slice Av m cv] 27) = W := ⟨_, rfl⟩
    rw [hw3] at hB3 hG3
    have L3 := Lib.hid (list_any hG3 X _ (HSX.out.below hB3 (Nat.le_refl _)) (by rw [HPP.out]; omega))
    have HG3 := Lib.hid hG3; have HB3 := Lib.hid hB3; have HW3 := Lib.hid hw3
    have hp10 : p ≤ 20 := by omega
    clear hb2 hG hv hnf MA hB2 hp20 hF hR hSl hS hG2 hB3 hG3 hw3
    go_upto_region 6 with fail
    rw [HW3.out]
    go_wp2_with fail
    refine L3.out.mono ?_; rintro e w4 ⟨v4, rfl, hs4, hb4⟩
    have hB4 := HB3.out.trans (hb4.mono HB3.out.size)
    have HB4 := Lib.hid hB4; have HG4 := Lib.hid (HG3.out.below hb4)
    have HX4 := Lib.hid (HSX.out.below hB4 (Nat.le_refl _))
    have hcase : ∃ (A : Option Addr) (k c : Nat) (z : Bool), v4 = .slice A k c ∧ (listL n (adj S) X).isSome = z ∧ (z = true → ∃ x, listL n (adj S) X = some x ∧ x.length = k ∧ SeqC w4 (.slice A k c) x) := by
      obtain ⟨hs, A, c, e1, hc⟩ := id hs4
      refine ⟨A, _, c, _, e1, rfl, fun hz => ?_⟩
      cases hx : listL n (adj S) X with
      | none => rw [hx] at hz; cases hz
      | some x =>
        rw [hx] at hs4 e1 hc
        exact ⟨x, rfl, rfl, by rw [e1] at hs4; exact hs4⟩
    obtain ⟨A, k, c, z, rfl, hz, hsome⟩ := hcase
    rw [hz]
    have HSOME := Lib.hid hsome
    clear hs4 hb4 hB4 hz hsome L3
    go_upto_if 39 with fail
    go_cut [] (fun wx => Below w.heap.size w wx)
    case first =>
      cases z with
      | false =>
        go_wp2_with fail
        go_meet
        exact HB4.out
      | true =>
        obtain ⟨x, hx, hk, hsx⟩ := HSOME.out rfl
        have hcan := list_can hx
        have hsame := listL_same hx
        have hk20 : k ≤ 20 := by
          have := (ofR_parts _ X rfl).2.2
          rw [HPP.out] at this
          rw [← hk, hsame.2.2.2.2.1]
          omega
        have hkc : k ≤ c := by
          obtain ⟨_, A', c', e, h⟩ := hsx
          injection e with _ e1 e2
          omega
        have hfl : 0 < k → x.getD 0 0 = (ofR X).getD 0 0 := fun h => first_least hx (by omega)
        have HX := Lib.hid hx; have HK := Lib.hid hk; have HSX4 := Lib.hid hsx; have HCAN := Lib.hid hcan; have HSAME := Lib.hid hsame; have HFL := Lib.hid hfl
        clear hx hk hsx hcan hsame hfl HSOME
        go_wp2_with fail
        go_loopg [12] (k + 1) (fun gh yv wr => ∃ i, i ≤ k + 1 ∧ gh = k + 1 - i ∧ yv = .int .i64 (i : Nat) ∧ Below w4.heap.size w4 wr)
        case atStart => exact ⟨0, Nat.zero_le _, rfl, rfl, Below.refl _ _⟩
        case round =>
          obtain ⟨i, hi, rfl, rfl, hB⟩ := hrel
          by_cases hit : i ≤ k
          · have hS := HSX4.out.below hB (Nat.le_refl _)
            have hTK : ∀ W, Below wr.heap.size wr W → SeqC W (.slice A i c) (x.take i) := fun W hb => by
              have h := (hS.below hb (Nat.le_refl _)).1
              exact ⟨seq_take h i hit, A, c, by rw [List.length_take, HK.out, Nat.min_eq_left hit], by rw [List.length_take]; omega⟩
            have hCA := fun (W : World) (hb : Below wr.heap.size wr W) => (canonical_any (HG4.out.below (hB.trans (hb.mono hB.size))) (x.take i) _ (hTK W hb) (by rw [List.length_take, HK.out]; omega)).mono (fun e w' hh => (show e = .returned (.bool true) ∧ Below wr.heap.size wr w' by
              obtain ⟨h1, d, rfl⟩ := hh
              rw [canL_pre HCAN.out (by rw [HK.out]; exact hit)] at h1
              exact ⟨h1, below_drewN' hb d⟩))
            have hLK := fun (W : World) (hb : Below wr.heap.size wr W) => (linked_any (HG4.out.below (hB.trans (hb.mono hB.size))) (x.take i) _ (hTK W hb) (by rw [List.length_take, HK.out]; omega)).mono (fun e w' hh => (show e = .returned (.bool true) ∧ Below wr.heap.size wr w' by
              obtain ⟨h1, h2⟩ := hh
              rw [can_lk (canL_pre HCAN.out (by rw [HK.out]; exact hit))] at h1
              exact ⟨h1, hb.trans (h2.mono hb.size)⟩))
            have HCA := Lib.hid hCA; have HLK := Lib.hid hLK; have HIT := Lib.hid hit; have HBi := Lib.hid hB
            have t5 : decide (i ≤ k) = true := decide_eq_true hit
            have t5' : decide ((i : Int) ≤ k) = true := decide_eq_true (by omega)
            have i1 : (i : Int) ≤ c := by omega
            have i2 : (0 : Int) ≤ i := by omega
            have ic : i ≤ c := by omega
            by_cases hik : i < k
            · obtain ⟨bx, ox, hAx, hxc⟩ := seqPos hS.1 (i := i) (by rw [HK.out]; exact hik)
              obtain ⟨u, hu⟩ : ∃ u, x.getD i 0 = u := ⟨_, rfl⟩
              have hcs := can_step HCAN.out (i := i) (by rw [HK.out]; exact hik)
              rw [hu] at hxc hcs
              have hMY := fun (W : World) (hb : Below wr.heap.size wr W) => (may_any (HG4.out.below (hB.trans (hb.mono hB.size))) (x.take i) u _ (hTK W hb) (by rw [List.length_take, HK.out]; omega)).mono (fun e w' hh => (show e = .returned (.bool true) ∧ Below wr.heap.size wr w' by
                obtain ⟨h1, d, rfl⟩ := hh
                rw [hcs] at h1
                exact ⟨h1, below_drewN' hb d⟩))
              have hlt := cellLt hxc
              have HMY := Lib.hid hMY
              have HKS := Lib.hid (fun (W : World) (hb : Below wr.heap.size wr W) => (show Below wr.heap.size wr W ∧ W.cell? ⟨bx, ox + i, none⟩ = some (.int .i64 u) from ⟨hb, (hb.cell (p := ⟨bx, ox + i, none⟩) hlt).trans hxc⟩))
              have t6 : decide (i < k) = true := decide_eq_true hik
              have t6' : decide ((i : Int) < k) = true := decide_eq_true (by omega)
              have i3 : (i : Int) < k := by omega
              subst hAx
              clear hB hit hS hTK hCA hLK hik hu hcs hMY hlt
              go_upto_region 11 with fail
              go_cut [77] (fun x wx => x = .bool false ∧ Below wr.heap.size wr wx)
              case first =>
                go_region_held3 (fun w' => Below wr.heap.size wr w' ∧ w'.cell? ⟨bx, ox + i, none⟩ = some (.int .i64 u))
                  (exact HKS.out _ (by first | assumption | exact below_drewN' (Below.refl _ _) _))
                  (first
                    | (go_at_call 15; refine (HCA.out _ (by first | assumption | exact below_drewN' (Below.refl _ _) _)).mono ?_; rintro e' wT ⟨rfl, hBT⟩)
                    | (go_at_call 13; refine (HLK.out _ (by first | assumption | exact below_drewN' (Below.refl _ _) _)).mono ?_; rintro e' wU ⟨rfl, hBU⟩)
                    | (go_at_call 17; refine (HMY.out _ (by first | assumption | exact below_drewN' (Below.refl _ _) _)).mono ?_; rintro e' wV ⟨rfl, hBV⟩))
                all_goals
                  go_wp2
                  go_meet
                  exact ⟨rfl, by assumption⟩
              case rest =>
                obtain ⟨rfl, hbx⟩ := hcut
                have HBX := Lib.hid (HBi.out.trans (hbx.mono HBi.out.size))
                clear hbx
                go_wp2_with fail
                go_roundg (k + 1 - (i + 1))
                case rel => exact ⟨i + 1, by have := HIT.out; omega, rfl, by go_num, HBX.out⟩
                case measure => have := HIT.out; omega
            · have t6 : decide (i < k) = false := decide_eq_false hik
              have t6' : decide ((i : Int) < k) = false := decide_eq_false (by omega)
              clear hB hit hS hTK hCA hLK hik
              go_upto_region 11 with fail
              go_cut [77] (fun x wx => x = .bool false ∧ Below wr.heap.size wr wx)
              case first =>
                refine wp_region_held_drew (S := fun w' => Below wr.heap.size wr w') (by kernel_rfl) ?_ (fun hHeld => ?_)
                · (try dsimp only); first | assumption | exact below_drewN' (Below.refl _ _) _
                refine wpAnyH_take (i := 0) (oi := ({ dst := some 46, op := Op.move (Operand.tmp 7), type := 25, pos := "law.go:108", after := #[], guard := none } : Oper)) (v := ?v0) rfl (by kernel_rfl) (by kernel_rfl) (by kernel_rfl) (fun _ _ _ h => h) (Or.inl ⟨by rfl, ?hy0⟩) (by assumption) ?rest0
                case hy0 => intro w hSw; (try dsimp only at hSw); go_simp; all_goals (with_reducible rfl)
                try simp only [Act.put, List.setIfInBounds_toArray, List.set_cons_zero, List.set_cons_succ]
                refine wpAnyH_take (i := 1) (oi := ({ dst := some 47, op := Op.move (Operand.tmp 10), type := 22, pos := "law.go:108", after := #[], guard := none } : Oper)) (v := ?v1) rfl (by kernel_rfl) (by kernel_rfl) (by kernel_rfl) (fun _ _ _ h => h) (Or.inl ⟨by rfl, ?hy1⟩) (by assumption) ?rest1
                case hy1 => intro w hSw; (try dsimp only at hSw); go_simp; all_goals (with_reducible rfl)
                try simp only [Act.put, List.setIfInBounds_toArray, List.set_cons_zero, List.set_cons_succ]
                refine wpAnyH_take (i := 2) (oi := ({ dst := some 48, op := Op.move (Operand.tmp 12), type := 3, pos := "law.go:108", after := #[], guard := none } : Oper)) (v := ?v2) rfl (by kernel_rfl) (by kernel_rfl) (by kernel_rfl) (fun _ _ _ h => h) (Or.inl ⟨by rfl, ?hy2⟩) (by assumption) ?rest2
                case hy2 => intro w hSw; (try dsimp only at hSw); go_simp; all_goals (with_reducible rfl)
                try simp only [Act.put, List.setIfInBounds_toArray, List.set_cons_zero, List.set_cons_succ]
                refine wpAnyH_take (i := 3) (oi := ({ dst := some 49, op := Op.slice 22 (Operand.tmp 47) none (some (Operand.tmp 48)) none, type := 22, pos := "law.go:108", after := #[{ on := 1, ground := Ground.data }, { on := 2, ground := Ground.data }], guard := none } : Oper)) (v := ?v3) rfl (by kernel_rfl) (by kernel_rfl) (by kernel_rfl) (fun _ _ _ h => h) (Or.inl ⟨by rfl, ?hy3⟩) (by assumption) ?rest3
                case hy3 => intro w hSw; (try dsimp only at hSw); go_simp; all_goals (with_reducible rfl)
                try simp only [Act.put, List.setIfInBounds_toArray, List.set_cons_zero, List.set_cons_succ]
                refine wpAnyH_ready (rs := [4]) (by kernel_rfl) (by simp) ?_
                refine AllReadyH.cons (o := ({ dst := some 50, op := Op.call { callee := Callee.value (Operand.func 15), args := #[Operand.tmp 46, Operand.tmp 49], argTypes := #[25, 22] }, type := 4, pos := "law.go:108", after := #[{ on := 0, ground := Ground.data }, { on := 3, ground := Ground.data }], guard := none } : Oper)) rfl (fun K hK => ?_) AllReadyH.nil
                go_simp
                refine (HCA.out _ (by first | assumption | exact below_drewN' (Below.refl _ _) _)).mono ?_; rintro e' wT ⟨rfl, hBT⟩
                refine hK.out _ _ ?_ (fun hHeld => ?_)
                · (try dsimp only); first | assumption | exact below_drewN' (Below.refl _ _) _
                clear hK K
                try simp only [Act.put, List.setIfInBounds_toArray, List.set_cons_zero, List.set_cons_succ]
                refine wpAnyH_take (i := 5) (oi := ({ dst := some 51, op := Op.unOp UnOp.not 4 (Operand.tmp 50), type := 4, pos := "law.go:108", after := #[{ on := 4, ground := Ground.data }], guard := none } : Oper)) (v := ?v5) rfl (by kernel_rfl) (by kernel_rfl) (by kernel_rfl) (fun _ _ _ h => h) (Or.inl ⟨by rfl, ?hy5⟩) (by assumption) ?rest5
                case hy5 => intro w hSw; (try dsimp only at hSw); go_simp; all_goals (with_reducible rfl)
                try simp only [Act.put, List.setIfInBounds_toArray, List.set_cons_zero, List.set_cons_succ]
                refine wpAnyH_take (i := 6) (oi := ({ dst := some 52, op := Op.move (Operand.tmp 51), type := 4, pos := "law.go:108", after := #[{ on := 5, ground := Ground.data }, { on := 4, ground := Ground.chain }], guard := none } : Oper)) (v := ?v6) rfl (by kernel_rfl) (by kernel_rfl) (by kernel_rfl) (fun _ _ _ h => h) (Or.inl ⟨by rfl, ?hy6⟩) (by assumption) ?rest6
                case hy6 => intro w hSw; (try dsimp only at hSw); go_simp; all_goals (with_reducible rfl)
                try simp only [Act.put, List.setIfInBounds_toArray, List.set_cons_zero, List.set_cons_succ]
                refine wpAnyH_take (i := 7) (oi := ({ dst := some 53, op := Op.move (Operand.tmp 7), type := 25, pos := "law.go:108", after := #[{ on := 6, ground := Ground.guard }], guard := some (6, false) } : Oper)) (v := ?v7) rfl (by kernel_rfl) (by kernel_rfl) (by kernel_rfl) (fun _ _ _ h => h) (Or.inl ⟨by rfl, ?hy7⟩) (by assumption) ?rest7
                case hy7 => intro w hSw; (try dsimp only at hSw); go_simp; all_goals (with_reducible rfl)
                try simp only [Act.put, List.setIfInBounds_toArray, List.set_cons_zero, List.set_cons_succ]
                refine wpAnyH_take (i := 8) (oi := ({ dst := some 54, op := Op.move (Operand.tmp 10), type := 22, pos := "law.go:108", after := #[{ on := 6, ground := Ground.guard }], guard := some (6, false) } : Oper)) (v := ?v8) rfl (by kernel_rfl) (by kernel_rfl) (by kernel_rfl) (fun _ _ _ h => h) (Or.inl ⟨by rfl, ?hy8⟩) (by assumption) ?rest8
                case hy8 => intro w hSw; (try dsimp only at hSw); go_simp; all_goals (with_reducible rfl)
                try simp only [Act.put, List.setIfInBounds_toArray, List.set_cons_zero, List.set_cons_succ]
                refine wpAnyH_take (i := 9) (oi := ({ dst := some 55, op := Op.move (Operand.tmp 12), type := 3, pos := "law.go:108", after := #[{ on := 6, ground := Ground.guard }], guard := some (6, false) } : Oper)) (v := ?v9) rfl (by kernel_rfl) (by kernel_rfl) (by kernel_rfl) (fun _ _ _ h => h) (Or.inl ⟨by rfl, ?hy9⟩) (by assumption) ?rest9
                case hy9 => intro w hSw; (try dsimp only at hSw); go_simp; all_goals (with_reducible rfl)
                try simp only [Act.put, List.setIfInBounds_toArray, List.set_cons_zero, List.set_cons_succ]
                refine wpAnyH_take (i := 10) (oi := ({ dst := some 56, op := Op.slice 22 (Operand.tmp 54) none (some (Operand.tmp 55)) none, type := 22, pos := "law.go:108", after := #[{ on := 8, ground := Ground.data }, { on := 9, ground := Ground.data }, { on := 6, ground := Ground.guard }], guard := some (6, false) } : Oper)) (v := ?v10) rfl (by kernel_rfl) (by kernel_rfl) (by kernel_rfl) (fun _ _ _ h => h) (Or.inl ⟨by rfl, ?hy10⟩) (by assumption) ?rest10
                case hy10 => intro w hSw; (try dsimp only at hSw); go_simp; all_goals (with_reducible rfl)
                try simp only [Act.put, List.setIfInBounds_toArray, List.set_cons_zero, List.set_cons_succ]
                refine wpAnyH_ready (rs := [11]) (by kernel_rfl) (by simp) ?_
                refine AllReadyH.cons (o := ({ dst := some 57, op := Op.call { callee := Callee.value (Operand.func 13), args := #[Operand.tmp 53, Operand.tmp 56], argTypes := #[25, 22] }, type := 4, pos := "law.go:108", after := #[{ on := 7, ground := Ground.data }, { on := 10, ground := Ground.data }, { on := 6, ground := Ground.chain }, { on := 6, ground := Ground.guard }], guard := some (6, false) } : Oper)) rfl (fun K hK => ?_) AllReadyH.nil
                go_simp
                refine (HLK.out _ (by first | assumption | exact below_drewN' (Below.refl _ _) _)).mono ?_; rintro e' wU ⟨rfl, hBU⟩
                refine hK.out _ _ ?_ (fun hHeld => ?_)
                · (try dsimp only); first | assumption | exact below_drewN' (Below.refl _ _) _
                clear hK K
                try simp only [Act.put, List.setIfInBounds_toArray, List.set_cons_zero, List.set_cons_succ]
                refine wpAnyH_take (i := 12) (oi := ({ dst := some 58, op := Op.unOp UnOp.not 4 (Operand.tmp 57), type := 4, pos := "law.go:108", after := #[{ on := 11, ground := Ground.data }, { on := 6, ground := Ground.guard }], guard := some (6, false) } : Oper)) (v := ?v12) rfl (by kernel_rfl) (by kernel_rfl) (by kernel_rfl) (fun _ _ _ h => h) (Or.inl ⟨by rfl, ?hy12⟩) (by assumption) ?rest12
                case hy12 => intro w hSw; (try dsimp only at hSw); go_simp; all_goals (with_reducible rfl)
                try simp only [Act.put, List.setIfInBounds_toArray, List.set_cons_zero, List.set_cons_succ]
                refine wpAnyH_take (i := 13) (oi := ({ dst := some 59, op := Op.pick (Operand.tmp 52) (Operand.const (Value.bool true)) (Operand.tmp 58), type := 4, pos := "law.go:108", after := #[{ on := 6, ground := Ground.data }, { on := 12, ground := Ground.data }], guard := none } : Oper)) (v := ?v13) rfl (by kernel_rfl) (by kernel_rfl) (by kernel_rfl) (fun _ _ _ h => h) (Or.inl ⟨by rfl, ?hy13⟩) (by assumption) ?rest13
                case hy13 => intro w hSw; (try dsimp only at hSw); go_simp; all_goals (with_reducible rfl)
                try simp only [Act.put, List.setIfInBounds_toArray, List.set_cons_zero, List.set_cons_succ]
                refine wpAnyH_take (i := 14) (oi := ({ dst := some 60, op := Op.move (Operand.tmp 59), type := 4, pos := "law.go:108", after := #[{ on := 13, ground := Ground.data }, { on := 11, ground := Ground.chain }], guard := none } : Oper)) (v := ?v14) rfl (by kernel_rfl) (by kernel_rfl) (by kernel_rfl) (fun _ _ _ h => h) (Or.inl ⟨by rfl, ?hy14⟩) (by assumption) ?rest14
                case hy14 => intro w hSw; (try dsimp only at hSw); go_simp; all_goals (with_reducible rfl)
                try simp only [Act.put, List.setIfInBounds_toArray, List.set_cons_zero, List.set_cons_succ]
                refine wpAnyH_take (i := 15) (oi := ({ dst := some 61, op := Op.move (Operand.tmp 12), type := 3, pos := "law.go:108", after := #[{ on := 14, ground := Ground.guard }], guard := some (14, false) } : Oper)) (v := ?v15) rfl (by kernel_rfl) (by kernel_rfl) (by kernel_rfl) (fun _ _ _ h => h) (Or.inl ⟨by rfl, ?hy15⟩) (by assumption) ?rest15
                case hy15 => intro w hSw; (try dsimp only at hSw); go_simp; all_goals (with_reducible rfl)
                try simp only [Act.put, List.setIfInBounds_toArray, List.set_cons_zero, List.set_cons_succ]
                refine wpAnyH_take (i := 16) (oi := ({ dst := some 62, op := Op.move (Operand.tmp 10), type := 22, pos := "law.go:108", after := #[{ on := 14, ground := Ground.guard }], guard := some (14, false) } : Oper)) (v := ?v16) rfl (by kernel_rfl) (by kernel_rfl) (by kernel_rfl) (fun _ _ _ h => h) (Or.inl ⟨by rfl, ?hy16⟩) (by assumption) ?rest16
                case hy16 => intro w hSw; (try dsimp only at hSw); go_simp; all_goals (with_reducible rfl)
                try simp only [Act.put, List.setIfInBounds_toArray, List.set_cons_zero, List.set_cons_succ]
                refine wpAnyH_take (i := 17) (oi := ({ dst := some 63, op := Op.call { callee := Callee.builtin Builtin.len, args := #[Operand.tmp 62], argTypes := #[22] }, type := 3, pos := "law.go:108", after := #[{ on := 16, ground := Ground.data }, { on := 14, ground := Ground.guard }], guard := some (14, false) } : Oper)) (v := ?v17) rfl (by kernel_rfl) (by kernel_rfl) (by kernel_rfl) (fun _ _ _ h => h) (Or.inl ⟨by rfl, ?hy17⟩) (by assumption) ?rest17
                case hy17 => intro w hSw; (try dsimp only at hSw); go_simp; all_goals (with_reducible rfl)
                try simp only [Act.put, List.setIfInBounds_toArray, List.set_cons_zero, List.set_cons_succ]
                refine wpAnyH_take (i := 18) (oi := ({ dst := some 64, op := Op.binOp BinOp.lss 3 (Operand.tmp 61) (Operand.tmp 63) 3, type := 4, pos := "law.go:108", after := #[{ on := 15, ground := Ground.data }, { on := 17, ground := Ground.data }, { on := 14, ground := Ground.guard }], guard := some (14, false) } : Oper)) (v := ?v18) rfl (by kernel_rfl) (by kernel_rfl) (by kernel_rfl) (fun _ _ _ h => h) (Or.inl ⟨by rfl, ?hy18⟩) (by assumption) ?rest18
                case hy18 => intro w hSw; (try dsimp only at hSw); go_simp; all_goals (with_reducible rfl)
                try simp only [Act.put, List.setIfInBounds_toArray, List.set_cons_zero, List.set_cons_succ]
                refine wpAnyH_take (i := 19) (oi := ({ dst := some 65, op := Op.move (Operand.tmp 64), type := 4, pos := "law.go:108", after := #[{ on := 18, ground := Ground.data }, { on := 14, ground := Ground.chain }, { on := 14, ground := Ground.guard }], guard := some (14, false) } : Oper)) (v := ?v19) rfl (by kernel_rfl) (by kernel_rfl) (by kernel_rfl) (fun _ _ _ h => h) (Or.inl ⟨by rfl, ?hy19⟩) (by assumption) ?rest19
                case hy19 => intro w hSw; (try dsimp only at hSw); go_simp; all_goals (with_reducible rfl)
                try simp only [Act.put, List.setIfInBounds_toArray, List.set_cons_zero, List.set_cons_succ]
                refine wpAnyH_take (i := 20) (oi := ({ dst := some 66, op := Op.move (Operand.tmp 7), type := 25, pos := "law.go:108", after := #[{ on := 19, ground := Ground.guard }], guard := some (19, true) } : Oper)) (v := undef) rfl (by kernel_rfl) (by kernel_rfl) (by kernel_rfl) (fun _ _ _ h => h) (Or.inr ⟨by rfl, rfl⟩) (by assumption) ?_
                try simp only [Act.put, List.setIfInBounds_toArray, List.set_cons_zero, List.set_cons_succ]
                refine wpAnyH_take (i := 21) (oi := ({ dst := some 67, op := Op.move (Operand.tmp 10), type := 22, pos := "law.go:108", after := #[{ on := 19, ground := Ground.guard }], guard := some (19, true) } : Oper)) (v := undef) rfl (by kernel_rfl) (by kernel_rfl) (by kernel_rfl) (fun _ _ _ h => h) (Or.inr ⟨by rfl, rfl⟩) (by assumption) ?_
                try simp only [Act.put, List.setIfInBounds_toArray, List.set_cons_zero, List.set_cons_succ]
                refine wpAnyH_take (i := 22) (oi := ({ dst := some 68, op := Op.move (Operand.tmp 12), type := 3, pos := "law.go:108", after := #[{ on := 19, ground := Ground.guard }], guard := some (19, true) } : Oper)) (v := undef) rfl (by kernel_rfl) (by kernel_rfl) (by kernel_rfl) (fun _ _ _ h => h) (Or.inr ⟨by rfl, rfl⟩) (by assumption) ?_
                try simp only [Act.put, List.setIfInBounds_toArray, List.set_cons_zero, List.set_cons_succ]
                refine wpAnyH_take (i := 23) (oi := ({ dst := some 69, op := Op.slice 22 (Operand.tmp 67) none (some (Operand.tmp 68)) none, type := 22, pos := "law.go:108", after := #[{ on := 21, ground := Ground.data }, { on := 22, ground := Ground.data }, { on := 19, ground := Ground.guard }], guard := some (19, true) } : Oper)) (v := undef) rfl (by kernel_rfl) (by kernel_rfl) (by kernel_rfl) (fun _ _ _ h => h) (Or.inr ⟨by rfl, rfl⟩) (by assumption) ?_
                try simp only [Act.put, List.setIfInBounds_toArray, List.set_cons_zero, List.set_cons_succ]
                refine wpAnyH_take (i := 24) (oi := ({ dst := some 70, op := Op.move (Operand.tmp 10), type := 22, pos := "law.go:108", after := #[{ on := 19, ground := Ground.guard }], guard := some (19, true) } : Oper)) (v := undef) rfl (by kernel_rfl) (by kernel_rfl) (by kernel_rfl) (fun _ _ _ h => h) (Or.inr ⟨by rfl, rfl⟩) (by assumption) ?_
                try simp only [Act.put, List.setIfInBounds_toArray, List.set_cons_zero, List.set_cons_succ]
                refine wpAnyH_take (i := 25) (oi := ({ dst := some 71, op := Op.move (Operand.tmp 12), type := 3, pos := "law.go:108", after := #[{ on := 19, ground := Ground.guard }], guard := some (19, true) } : Oper)) (v := undef) rfl (by kernel_rfl) (by kernel_rfl) (by kernel_rfl) (fun _ _ _ h => h) (Or.inr ⟨by rfl, rfl⟩) (by assumption) ?_
                try simp only [Act.put, List.setIfInBounds_toArray, List.set_cons_zero, List.set_cons_succ]
                refine wpAnyH_take (i := 26) (oi := ({ dst := some 72, op := Op.indexAddr 22 (Operand.tmp 70) (Operand.tmp 71), type := 0, pos := "law.go:108", after := #[{ on := 24, ground := Ground.data }, { on := 25, ground := Ground.data }, { on := 19, ground := Ground.guard }], guard := some (19, true) } : Oper)) (v := undef) rfl (by kernel_rfl) (by kernel_rfl) (by kernel_rfl) (fun _ _ _ h => h) (Or.inr ⟨by rfl, rfl⟩) (by assumption) ?_
                try simp only [Act.put, List.setIfInBounds_toArray, List.set_cons_zero, List.set_cons_succ]
                refine wpAnyH_take (i := 27) (oi := ({ dst := some 73, op := Op.load 3 (Operand.tmp 72), type := 3, pos := "law.go:108", after := #[{ on := 26, ground := Ground.data }, { on := 19, ground := Ground.guard }], guard := some (19, true) } : Oper)) (v := undef) rfl (by kernel_rfl) (by kernel_rfl) (by kernel_rfl) (fun _ _ _ h => h) (Or.inr ⟨by rfl, rfl⟩) (by assumption) ?_
                try simp only [Act.put, List.setIfInBounds_toArray, List.set_cons_zero, List.set_cons_succ]
                refine wpAnyH_take (i := 28) (oi := ({ dst := some 74, op := Op.call { callee := Callee.value (Operand.func 17), args := #[Operand.tmp 66, Operand.tmp 69, Operand.tmp 73], argTypes := #[25, 22, 3] }, type := 4, pos := "law.go:108", after := #[{ on := 20, ground := Ground.data }, { on := 23, ground := Ground.data }, { on := 27, ground := Ground.data }, { on := 19, ground := Ground.chain }, { on := 19, ground := Ground.guard }], guard := some (19, true) } : Oper)) (v := undef) rfl (by kernel_rfl) (by kernel_rfl) (by kernel_rfl) (fun _ _ _ h => h) (Or.inr ⟨by rfl, rfl⟩) (by assumption) ?_
                try simp only [Act.put, List.setIfInBounds_toArray, List.set_cons_zero, List.set_cons_succ]
                refine wpAnyH_take (i := 29) (oi := ({ dst := some 75, op := Op.unOp UnOp.not 4 (Operand.tmp 74), type := 4, pos := "law.go:108", after := #[{ on := 28, ground := Ground.data }, { on := 19, ground := Ground.guard }], guard := some (19, true) } : Oper)) (v := undef) rfl (by kernel_rfl) (by kernel_rfl) (by kernel_rfl) (fun _ _ _ h => h) (Or.inr ⟨by rfl, rfl⟩) (by assumption) ?_
                try simp only [Act.put, List.setIfInBounds_toArray, List.set_cons_zero, List.set_cons_succ]
                refine wpAnyH_take (i := 30) (oi := ({ dst := some 76, op := Op.pick (Operand.tmp 65) (Operand.tmp 75) (Operand.const (Value.bool false)), type := 4, pos := "law.go:108", after := #[{ on := 19, ground := Ground.data }, { on := 29, ground := Ground.data }, { on := 14, ground := Ground.guard }], guard := some (14, false) } : Oper)) (v := ?v30) rfl (by kernel_rfl) (by kernel_rfl) (by kernel_rfl) (fun _ _ _ h => h) (Or.inl ⟨by rfl, ?hy30⟩) (by assumption) ?rest30
                case hy30 => intro w hSw; (try dsimp only at hSw); go_simp; all_goals (with_reducible rfl)
                try simp only [Act.put, List.setIfInBounds_toArray, List.set_cons_zero, List.set_cons_succ]
                refine wpAnyH_take (i := 31) (oi := ({ dst := some 77, op := Op.pick (Operand.tmp 60) (Operand.const (Value.bool true)) (Operand.tmp 76), type := 4, pos := "law.go:108", after := #[{ on := 14, ground := Ground.data }, { on := 30, ground := Ground.data }], guard := none } : Oper)) (v := ?v31) rfl (by kernel_rfl) (by kernel_rfl) (by kernel_rfl) (fun _ _ _ h => h) (Or.inl ⟨by rfl, ?hy31⟩) (by assumption) ?rest31
                case hy31 => intro w hSw; (try dsimp only at hSw); go_simp; all_goals (with_reducible rfl)
                try simp only [Act.put, List.setIfInBounds_toArray, List.set_cons_zero, List.set_cons_succ]
                refine wpAnyH_done (by kernel_rfl) ?_ _
                go_wp2_with fail
                go_meet
                exact ⟨rfl, by assumption⟩
              case rest =>
                obtain ⟨rfl, hbx⟩ := hcut
                have HBX := Lib.hid (HBi.out.trans (hbx.mono HBi.out.size))
                clear hbx
                go_wp2_with fail
                go_roundg (k + 1 - (i + 1))
                case rel => exact ⟨i + 1, by have := HIT.out; omega, rfl, by go_num, HBX.out⟩
                case measure => have := HIT.out; omega
          · obtain rfl : i = k + 1 := by omega
            have t5 : decide (k + 1 ≤ k) = false := by simp
            have t5' : decide (((k + 1 : Nat) : Int) ≤ k) = false := decide_eq_false (by omega)
            have hbw := HB4.out.trans (hB.mono HB4.out.size)
            have RO := Lib.hid (refOf_any X _ wr (HSX.out.below hbw (Nat.le_refl _)) (by rw [HPP.out]; omega))
            have HBW := Lib.hid hbw; have HBi := Lib.hid hB
            clear hB hit hbw
            go_wp2_with fail
            refine RO.out.mono ?_; rintro e w5 ⟨v5, rfl, hs5, hb5⟩
            have hB5 := HBi.out.trans (hb5.mono HBi.out.size)
            have hox : ofR x = ofR X := HSAME.out.2.2.1
            have hxl : x.length = (ofR X).length := HSAME.out.2.2.2.2.1
            have hTk : (ofR X).length = k := by rw [← hxl]; exact HK.out
            have hl5 := HSX4.out.below hB5 (Nat.le_refl _)
            have hfl := HFL.out
            have hO6 := fun (W : World) (hb : Below w5.heap.size w5 W) => refOf_any x _ W (hl5.1.below hb (Nat.le_refl _)) (by rw [HK.out]; omega)
            rw [hox] at hO6
            obtain ⟨T, hT⟩ : ∃ T, ofR X = T := ⟨_, rfl⟩
            rw [hT] at hs5 hTk hO6 hfl
            have hO7 := fun (W : World) (hb : Below w5.heap.size w5 W) => (hO6 W hb).mono (fun e w' hh => (show Told w5 W T k e w' by obtain ⟨v', h1, h2, h3⟩ := hh; exact told_seq hTk h1 h2.1 h3 hb))
            obtain ⟨_, A5, c5, rfl, hc5⟩ := id hs5
            rw [hTk] at hs5 hc5 ⊢
            have HO6 := Lib.hid hO7; have HS5 := Lib.hid (fun (W : World) (hb : Below w5.heap.size w5 W) => hs5.below hb (Nat.le_refl _)); have HTL := Lib.hid (show T.length ≤ 1000000000 by omega)
            have HB5 := Lib.hid (HB4.out.trans (hB5.mono HB4.out.size))
            have tk := (show ((k : Int) != k) = false by simp)
            rcases Nat.eq_zero_or_pos k with h0 | h0
            · have t7 : decide ((0 : Int) < k) = false := decide_eq_false (by omega)
              have t7' : decide (0 < k) = false := decide_eq_false (by omega)
              clear hb5 hB5 hox hxl hTk hl5 hfl hO6 hT hO7 hs5 hc5 h0
              go_upto_region 14 with fail
              go_cut [105] (fun x wx => x = .bool false ∧ Below w5.heap.size w5 wx)
              case first =>
                  refine wp_region_held_drew (S := fun w' => Below w5.heap.size w5 w') (by kernel_rfl) ?_ (fun hHeld => ?_)
                  · (try dsimp only); first | assumption | exact below_drewN' (Below.refl _ _) _
                  refine wpAnyH_take (i := 0) (oi := ({ dst := some 80, op := Op.move (Operand.tmp 10), type := 22, pos := "law.go:113", after := #[], guard := none } : Oper)) (v := ?vb0) rfl (by kernel_rfl) (by kernel_rfl) (by kernel_rfl) (fun _ _ _ h => h) (Or.inl ⟨by rfl, ?hyb0⟩) (by assumption) ?restb0
                  case hyb0 => intro w hSw; (try dsimp only at hSw); go_simp; all_goals (with_reducible rfl)
                  try simp only [Act.put, List.setIfInBounds_toArray, List.set_cons_zero, List.set_cons_succ]
                  refine wpAnyH_take (i := 1) (oi := ({ dst := some 81, op := Op.call { callee := Callee.builtin Builtin.len, args := #[Operand.tmp 80], argTypes := #[22] }, type := 3, pos := "law.go:113", after := #[{ on := 0, ground := Ground.data }], guard := none } : Oper)) (v := ?vb1) rfl (by kernel_rfl) (by kernel_rfl) (by kernel_rfl) (fun _ _ _ h => h) (Or.inl ⟨by rfl, ?hyb1⟩) (by assumption) ?restb1
                  case hyb1 => intro w hSw; (try dsimp only at hSw); go_simp; all_goals (with_reducible rfl)
                  try simp only [Act.put, List.setIfInBounds_toArray, List.set_cons_zero, List.set_cons_succ]
                  refine wpAnyH_take (i := 2) (oi := ({ dst := some 82, op := Op.move (Operand.tmp 13), type := 22, pos := "law.go:113", after := #[], guard := none } : Oper)) (v := ?vb2) rfl (by kernel_rfl) (by kernel_rfl) (by kernel_rfl) (fun _ _ _ h => h) (Or.inl ⟨by rfl, ?hyb2⟩) (by assumption) ?restb2
                  case hyb2 => intro w hSw; (try dsimp only at hSw); go_simp; all_goals (with_reducible rfl)
                  try simp only [Act.put, List.setIfInBounds_toArray, List.set_cons_zero, List.set_cons_succ]
                  refine wpAnyH_take (i := 3) (oi := ({ dst := some 83, op := Op.call { callee := Callee.builtin Builtin.len, args := #[Operand.tmp 82], argTypes := #[22] }, type := 3, pos := "law.go:113", after := #[{ on := 2, ground := Ground.data }], guard := none } : Oper)) (v := ?vb3) rfl (by kernel_rfl) (by kernel_rfl) (by kernel_rfl) (fun _ _ _ h => h) (Or.inl ⟨by rfl, ?hyb3⟩) (by assumption) ?restb3
                  case hyb3 => intro w hSw; (try dsimp only at hSw); go_simp; all_goals (with_reducible rfl)
                  try simp only [Act.put, List.setIfInBounds_toArray, List.set_cons_zero, List.set_cons_succ]
                  refine wpAnyH_take (i := 4) (oi := ({ dst := some 84, op := Op.binOp BinOp.neq 3 (Operand.tmp 81) (Operand.tmp 83) 3, type := 4, pos := "law.go:113", after := #[{ on := 1, ground := Ground.data }, { on := 3, ground := Ground.data }], guard := none } : Oper)) (v := ?vb4) rfl (by kernel_rfl) (by kernel_rfl) (by kernel_rfl) (fun _ _ _ h => h) (Or.inl ⟨by rfl, ?hyb4⟩) (by assumption) ?restb4
                  case hyb4 => intro w hSw; (try dsimp only at hSw); go_simp; all_goals (with_reducible rfl)
                  try simp only [Act.put, List.setIfInBounds_toArray, List.set_cons_zero, List.set_cons_succ]
                  refine wpAnyH_take (i := 5) (oi := ({ dst := some 85, op := Op.move (Operand.tmp 84), type := 4, pos := "law.go:113", after := #[{ on := 4, ground := Ground.data }], guard := none } : Oper)) (v := ?vb5) rfl (by kernel_rfl) (by kernel_rfl) (by kernel_rfl) (fun _ _ _ h => h) (Or.inl ⟨by rfl, ?hyb5⟩) (by assumption) ?restb5
                  case hyb5 => intro w hSw; (try dsimp only at hSw); go_simp; all_goals (with_reducible rfl)
                  try simp only [Act.put, List.setIfInBounds_toArray, List.set_cons_zero, List.set_cons_succ]
                  refine wpAnyH_take (i := 6) (oi := ({ dst := some 86, op := Op.move (Operand.tmp 10), type := 22, pos := "law.go:113", after := #[{ on := 5, ground := Ground.guard }], guard := some (5, false) } : Oper)) (v := ?vb6) rfl (by kernel_rfl) (by kernel_rfl) (by kernel_rfl) (fun _ _ _ h => h) (Or.inl ⟨by rfl, ?hyb6⟩) (by assumption) ?restb6
                  case hyb6 => intro w hSw; (try dsimp only at hSw); go_simp; all_goals (with_reducible rfl)
                  try simp only [Act.put, List.setIfInBounds_toArray, List.set_cons_zero, List.set_cons_succ]
                  refine wpAnyH_take (i := 7) (oi := ({ dst := some 87, op := Op.call { callee := Callee.builtin Builtin.len, args := #[Operand.tmp 86], argTypes := #[22] }, type := 3, pos := "law.go:113", after := #[{ on := 6, ground := Ground.data }, { on := 5, ground := Ground.guard }], guard := some (5, false) } : Oper)) (v := ?vb7) rfl (by kernel_rfl) (by kernel_rfl) (by kernel_rfl) (fun _ _ _ h => h) (Or.inl ⟨by rfl, ?hyb7⟩) (by assumption) ?restb7
                  case hyb7 => intro w hSw; (try dsimp only at hSw); go_simp; all_goals (with_reducible rfl)
                  try simp only [Act.put, List.setIfInBounds_toArray, List.set_cons_zero, List.set_cons_succ]
                  refine wpAnyH_take (i := 8) (oi := ({ dst := some 88, op := Op.binOp BinOp.gtr 3 (Operand.tmp 87) (Operand.const (Value.int IntKind.i64 0)) 3, type := 4, pos := "law.go:113", after := #[{ on := 7, ground := Ground.data }, { on := 5, ground := Ground.guard }], guard := some (5, false) } : Oper)) (v := ?vb8) rfl (by kernel_rfl) (by kernel_rfl) (by kernel_rfl) (fun _ _ _ h => h) (Or.inl ⟨by rfl, ?hyb8⟩) (by assumption) ?restb8
                  case hyb8 => intro w hSw; (try dsimp only at hSw); go_simp; all_goals (with_reducible rfl)
                  try simp only [Act.put, List.setIfInBounds_toArray, List.set_cons_zero, List.set_cons_succ]
                  refine wpAnyH_take (i := 9) (oi := ({ dst := some 89, op := Op.move (Operand.tmp 88), type := 4, pos := "law.go:113", after := #[{ on := 8, ground := Ground.data }, { on := 5, ground := Ground.chain }, { on := 5, ground := Ground.guard }], guard := some (5, false) } : Oper)) (v := ?vb9) rfl (by kernel_rfl) (by kernel_rfl) (by kernel_rfl) (fun _ _ _ h => h) (Or.inl ⟨by rfl, ?hyb9⟩) (by assumption) ?restb9
                  case hyb9 => intro w hSw; (try dsimp only at hSw); go_simp; all_goals (with_reducible rfl)
                  try simp only [Act.put, List.setIfInBounds_toArray, List.set_cons_zero, List.set_cons_succ]
                  refine wpAnyH_take (i := 10) (oi := ({ dst := some 90, op := Op.move (Operand.tmp 10), type := 22, pos := "law.go:113", after := #[{ on := 9, ground := Ground.guard }], guard := some (9, true) } : Oper)) (v := undef) rfl (by kernel_rfl) (by kernel_rfl) (by kernel_rfl) (fun _ _ _ h => h) (Or.inr ⟨by rfl, rfl⟩) (by assumption) ?_
                  try simp only [Act.put, List.setIfInBounds_toArray, List.set_cons_zero, List.set_cons_succ]
                  refine wpAnyH_take (i := 11) (oi := ({ dst := some 91, op := Op.indexAddr 22 (Operand.tmp 90) (Operand.const (Value.int IntKind.i64 0)), type := 0, pos := "law.go:113", after := #[{ on := 10, ground := Ground.data }, { on := 9, ground := Ground.guard }], guard := some (9, true) } : Oper)) (v := undef) rfl (by kernel_rfl) (by kernel_rfl) (by kernel_rfl) (fun _ _ _ h => h) (Or.inr ⟨by rfl, rfl⟩) (by assumption) ?_
                  try simp only [Act.put, List.setIfInBounds_toArray, List.set_cons_zero, List.set_cons_succ]
                  refine wpAnyH_take (i := 12) (oi := ({ dst := some 92, op := Op.load 3 (Operand.tmp 91), type := 3, pos := "law.go:113", after := #[{ on := 11, ground := Ground.data }, { on := 9, ground := Ground.guard }], guard := some (9, true) } : Oper)) (v := undef) rfl (by kernel_rfl) (by kernel_rfl) (by kernel_rfl) (fun _ _ _ h => h) (Or.inr ⟨by rfl, rfl⟩) (by assumption) ?_
                  try simp only [Act.put, List.setIfInBounds_toArray, List.set_cons_zero, List.set_cons_succ]
                  refine wpAnyH_take (i := 13) (oi := ({ dst := some 93, op := Op.move (Operand.tmp 13), type := 22, pos := "law.go:113", after := #[{ on := 9, ground := Ground.guard }], guard := some (9, true) } : Oper)) (v := undef) rfl (by kernel_rfl) (by kernel_rfl) (by kernel_rfl) (fun _ _ _ h => h) (Or.inr ⟨by rfl, rfl⟩) (by assumption) ?_
                  try simp only [Act.put, List.setIfInBounds_toArray, List.set_cons_zero, List.set_cons_succ]
                  refine wpAnyH_take (i := 14) (oi := ({ dst := some 94, op := Op.indexAddr 22 (Operand.tmp 93) (Operand.const (Value.int IntKind.i64 0)), type := 0, pos := "law.go:113", after := #[{ on := 13, ground := Ground.data }, { on := 9, ground := Ground.guard }], guard := some (9, true) } : Oper)) (v := undef) rfl (by kernel_rfl) (by kernel_rfl) (by kernel_rfl) (fun _ _ _ h => h) (Or.inr ⟨by rfl, rfl⟩) (by assumption) ?_
                  try simp only [Act.put, List.setIfInBounds_toArray, List.set_cons_zero, List.set_cons_succ]
                  refine wpAnyH_take (i := 15) (oi := ({ dst := some 95, op := Op.load 3 (Operand.tmp 94), type := 3, pos := "law.go:113", after := #[{ on := 14, ground := Ground.data }, { on := 9, ground := Ground.guard }], guard := some (9, true) } : Oper)) (v := undef) rfl (by kernel_rfl) (by kernel_rfl) (by kernel_rfl) (fun _ _ _ h => h) (Or.inr ⟨by rfl, rfl⟩) (by assumption) ?_
                  try simp only [Act.put, List.setIfInBounds_toArray, List.set_cons_zero, List.set_cons_succ]
                  refine wpAnyH_take (i := 16) (oi := ({ dst := some 96, op := Op.binOp BinOp.neq 3 (Operand.tmp 92) (Operand.tmp 95) 3, type := 4, pos := "law.go:113", after := #[{ on := 12, ground := Ground.data }, { on := 15, ground := Ground.data }, { on := 9, ground := Ground.guard }], guard := some (9, true) } : Oper)) (v := undef) rfl (by kernel_rfl) (by kernel_rfl) (by kernel_rfl) (fun _ _ _ h => h) (Or.inr ⟨by rfl, rfl⟩) (by assumption) ?_
                  try simp only [Act.put, List.setIfInBounds_toArray, List.set_cons_zero, List.set_cons_succ]
                  refine wpAnyH_take (i := 17) (oi := ({ dst := some 97, op := Op.pick (Operand.tmp 89) (Operand.tmp 96) (Operand.const (Value.bool false)), type := 4, pos := "law.go:113", after := #[{ on := 9, ground := Ground.data }, { on := 16, ground := Ground.data }, { on := 5, ground := Ground.guard }], guard := some (5, false) } : Oper)) (v := ?vb17) rfl (by kernel_rfl) (by kernel_rfl) (by kernel_rfl) (fun _ _ _ h => h) (Or.inl ⟨by rfl, ?hyb17⟩) (by assumption) ?restb17
                  case hyb17 => intro w hSw; (try dsimp only at hSw); go_simp; all_goals (with_reducible rfl)
                  try simp only [Act.put, List.setIfInBounds_toArray, List.set_cons_zero, List.set_cons_succ]
                  refine wpAnyH_take (i := 18) (oi := ({ dst := some 98, op := Op.pick (Operand.tmp 85) (Operand.const (Value.bool true)) (Operand.tmp 97), type := 4, pos := "law.go:113", after := #[{ on := 5, ground := Ground.data }, { on := 17, ground := Ground.data }], guard := none } : Oper)) (v := ?vb18) rfl (by kernel_rfl) (by kernel_rfl) (by kernel_rfl) (fun _ _ _ h => h) (Or.inl ⟨by rfl, ?hyb18⟩) (by assumption) ?restb18
                  case hyb18 => intro w hSw; (try dsimp only at hSw); go_simp; all_goals (with_reducible rfl)
                  try simp only [Act.put, List.setIfInBounds_toArray, List.set_cons_zero, List.set_cons_succ]
                  refine wpAnyH_take (i := 19) (oi := ({ dst := some 99, op := Op.move (Operand.tmp 98), type := 4, pos := "law.go:113", after := #[{ on := 18, ground := Ground.data }, { on := 9, ground := Ground.chain }], guard := none } : Oper)) (v := ?vb19) rfl (by kernel_rfl) (by kernel_rfl) (by kernel_rfl) (fun _ _ _ h => h) (Or.inl ⟨by rfl, ?hyb19⟩) (by assumption) ?restb19
                  case hyb19 => intro w hSw; (try dsimp only at hSw); go_simp; all_goals (with_reducible rfl)
                  try simp only [Act.put, List.setIfInBounds_toArray, List.set_cons_zero, List.set_cons_succ]
                  refine wpAnyH_take (i := 20) (oi := ({ dst := some 100, op := Op.move (Operand.tmp 10), type := 22, pos := "law.go:113", after := #[{ on := 19, ground := Ground.guard }], guard := some (19, false) } : Oper)) (v := ?vb20) rfl (by kernel_rfl) (by kernel_rfl) (by kernel_rfl) (fun _ _ _ h => h) (Or.inl ⟨by rfl, ?hyb20⟩) (by assumption) ?restb20
                  case hyb20 => intro w hSw; (try dsimp only at hSw); go_simp; all_goals (with_reducible rfl)
                  try simp only [Act.put, List.setIfInBounds_toArray, List.set_cons_zero, List.set_cons_succ]
                  refine wpAnyH_take (i := 22) (oi := ({ dst := some 102, op := Op.move (Operand.tmp 13), type := 22, pos := "law.go:113", after := #[{ on := 19, ground := Ground.guard }], guard := some (19, false) } : Oper)) (v := ?vb22) rfl (by kernel_rfl) (by kernel_rfl) (by kernel_rfl) (fun _ _ _ h => h) (Or.inl ⟨by rfl, ?hyb22⟩) (by assumption) ?restb22
                  case hyb22 => intro w hSw; (try dsimp only at hSw); go_simp; all_goals (with_reducible rfl)
                  try simp only [Act.put, List.setIfInBounds_toArray, List.set_cons_zero, List.set_cons_succ]
                  refine wpAnyH_ready (rs := [21]) (by kernel_rfl) (by simp) ?_
                  refine AllReadyH.cons (o := ({ dst := some 101, op := Op.call { callee := Callee.value (Operand.func 23), args := #[Operand.tmp 100], argTypes := #[22] }, type := 22, pos := "law.go:113", after := #[{ on := 20, ground := Ground.data }, { on := 19, ground := Ground.chain }, { on := 19, ground := Ground.guard }], guard := some (19, false) } : Oper)) rfl (fun K hK => ?_) AllReadyH.nil
                  go_simp
                  refine (HO6.out _ (by first | assumption | exact below_drewN' (Below.refl _ _) _)).mono ?_; rintro e' wN ⟨A7, c7, rfl, hL7, hbN, hBN⟩
                  refine hK.out _ _ ?_ (fun hHeld => ?_)
                  · (try dsimp only); first | assumption | exact below_drewN' (Below.refl _ _) _
                  clear hK K
                  try simp only [Act.put, List.setIfInBounds_toArray, List.set_cons_zero, List.set_cons_succ]
                  refine wpAnyH_ready (rs := [23]) (by kernel_rfl) (by simp) ?_
                  refine AllReadyH.cons (o := ({ dst := some 103, op := Op.call { callee := Callee.value (Operand.func 12), args := #[Operand.tmp 101, Operand.tmp 102], argTypes := #[22, 22] }, type := 4, pos := "law.go:113", after := #[{ on := 21, ground := Ground.data }, { on := 22, ground := Ground.data }, { on := 21, ground := Ground.chain }, { on := 19, ground := Ground.guard }], guard := some (19, false) } : Oper)) rfl (fun K hK => ?_) AllReadyH.nil
                  go_simp
                  refine (same_told (wr := w5) (hL7 _ (Below.refl _ _)) (HS5.out _ hBN).1 HTL.out (by assumption)).mono ?_; rintro e' wT ⟨rfl, hbT, hBT⟩
                  refine hK.out _ _ ?_ (fun hHeld => ?_)
                  · (try dsimp only); first | assumption | exact below_drewN' (Below.refl _ _) _
                  clear hK K
                  try simp only [Act.put, List.setIfInBounds_toArray, List.set_cons_zero, List.set_cons_succ]
                  refine wpAnyH_take (i := 24) (oi := ({ dst := some 104, op := Op.unOp UnOp.not 4 (Operand.tmp 103), type := 4, pos := "law.go:113", after := #[{ on := 23, ground := Ground.data }, { on := 19, ground := Ground.guard }], guard := some (19, false) } : Oper)) (v := ?vb24) rfl (by kernel_rfl) (by kernel_rfl) (by kernel_rfl) (fun _ _ _ h => h) (Or.inl ⟨by rfl, ?hyb24⟩) (by assumption) ?restb24
                  case hyb24 => intro w hSw; (try dsimp only at hSw); go_simp; all_goals (with_reducible rfl)
                  try simp only [Act.put, List.setIfInBounds_toArray, List.set_cons_zero, List.set_cons_succ]
                  refine wpAnyH_take (i := 25) (oi := ({ dst := some 105, op := Op.pick (Operand.tmp 99) (Operand.const (Value.bool true)) (Operand.tmp 104), type := 4, pos := "law.go:113", after := #[{ on := 19, ground := Ground.data }, { on := 24, ground := Ground.data }], guard := none } : Oper)) (v := ?vb25) rfl (by kernel_rfl) (by kernel_rfl) (by kernel_rfl) (fun _ _ _ h => h) (Or.inl ⟨by rfl, ?hyb25⟩) (by assumption) ?restb25
                  case hyb25 => intro w hSw; (try dsimp only at hSw); go_simp; all_goals (with_reducible rfl)
                  try simp only [Act.put, List.setIfInBounds_toArray, List.set_cons_zero, List.set_cons_succ]
                  refine wpAnyH_done (by kernel_rfl) ?_ _
                  go_wp2_with fail
                  go_meet
                  exact ⟨rfl, by assumption⟩
              case rest =>
                obtain ⟨rfl, hbx⟩ := hcut
                have HBX := Lib.hid (HB5.out.trans (hbx.mono HB5.out.size))
                clear hbx
                go_wp2_with fail
                go_meet
                exact HBX.out
            · have t7 : decide ((0 : Int) < k) = true := decide_eq_true (by omega)
              have t7' : decide (0 < k) = true := decide_eq_true h0
              have i0 : (0 : Int) < k := by omega
              obtain ⟨bl, ol, hAl, hx0⟩ := seqPos hl5.1 (i := 0) (by rw [HK.out]; exact h0)
              obtain ⟨bs, os, hAs, hy0⟩ := seqPos hs5.1 (i := 0) (by rw [hTk]; exact h0)
              rw [Nat.add_zero] at hx0 hy0
              rw [hfl h0] at hx0
              obtain ⟨u, hu⟩ : ∃ u, T.getD 0 0 = u := ⟨_, rfl⟩
              rw [hu] at hx0 hy0
              have hlx := cellLt hx0
              have hly := cellLt hy0
              have HKS5 := Lib.hid (fun (W : World) (hb : Below w5.heap.size w5 W) => (show Below w5.heap.size w5 W ∧ W.cell? ⟨bl, ol, none⟩ = some (.int .i64 u) ∧ W.cell? ⟨bs, os, none⟩ = some (.int .i64 u) from ⟨hb, (hb.cell (p := ⟨bl, ol, none⟩) hlx).trans hx0, (hb.cell (p := ⟨bs, os, none⟩) hly).trans hy0⟩))
              have tu := (show (u != u) = false by simp)
              subst hAl hAs
              clear hb5 hB5 hox hxl hTk hl5 hfl hO6 hT hO7 hs5 hc5 hlx hly hu
              go_upto_region 14 with fail
              go_cut [105] (fun x wx => x = .bool false ∧ Below w5.heap.size w5 wx)
              case first =>
                  refine wp_region_held_drew (S := fun w' => Below w5.heap.size w5 w' ∧ w'.cell? ⟨bl, ol, none⟩ = some (.int .i64 u) ∧ w'.cell? ⟨bs, os, none⟩ = some (.int .i64 u)) (by kernel_rfl) ?_ (fun hHeld => ?_)
                  · (try dsimp only); exact HKS5.out _ (by first | assumption | exact below_drewN' (Below.refl _ _) _)
                  refine wpAnyH_take (i := 0) (oi := ({ dst := some 80, op := Op.move (Operand.tmp 10), type := 22, pos := "law.go:113", after := #[], guard := none } : Oper)) (v := ?vc0) rfl (by kernel_rfl) (by kernel_rfl) (by kernel_rfl) (fun _ _ _ h => h) (Or.inl ⟨by rfl, ?hyc0⟩) (by assumption) ?restc0
                  case hyc0 => intro w hSw; (try dsimp only at hSw); go_simp; all_goals (with_reducible rfl)
                  try simp only [Act.put, List.setIfInBounds_toArray, List.set_cons_zero, List.set_cons_succ]
                  refine wpAnyH_take (i := 1) (oi := ({ dst := some 81, op := Op.call { callee := Callee.builtin Builtin.len, args := #[Operand.tmp 80], argTypes := #[22] }, type := 3, pos := "law.go:113", after := #[{ on := 0, ground := Ground.data }], guard := none } : Oper)) (v := ?vc1) rfl (by kernel_rfl) (by kernel_rfl) (by kernel_rfl) (fun _ _ _ h => h) (Or.inl ⟨by rfl, ?hyc1⟩) (by assumption) ?restc1
                  case hyc1 => intro w hSw; (try dsimp only at hSw); go_simp; all_goals (with_reducible rfl)
                  try simp only [Act.put, List.setIfInBounds_toArray, List.set_cons_zero, List.set_cons_succ]
                  refine wpAnyH_take (i := 2) (oi := ({ dst := some 82, op := Op.move (Operand.tmp 13), type := 22, pos := "law.go:113", after := #[], guard := none } : Oper)) (v := ?vc2) rfl (by kernel_rfl) (by kernel_rfl) (by kernel_rfl) (fun _ _ _ h => h) (Or.inl ⟨by rfl, ?hyc2⟩) (by assumption) ?restc2
                  case hyc2 => intro w hSw; (try dsimp only at hSw); go_simp; all_goals (with_reducible rfl)
                  try simp only [Act.put, List.setIfInBounds_toArray, List.set_cons_zero, List.set_cons_succ]
                  refine wpAnyH_take (i := 3) (oi := ({ dst := some 83, op := Op.call { callee := Callee.builtin Builtin.len, args := #[Operand.tmp 82], argTypes := #[22] }, type := 3, pos := "law.go:113", after := #[{ on := 2, ground := Ground.data }], guard := none } : Oper)) (v := ?vc3) rfl (by kernel_rfl) (by kernel_rfl) (by kernel_rfl) (fun _ _ _ h => h) (Or.inl ⟨by rfl, ?hyc3⟩) (by assumption) ?restc3
                  case hyc3 => intro w hSw; (try dsimp only at hSw); go_simp; all_goals (with_reducible rfl)
                  try simp only [Act.put, List.setIfInBounds_toArray, List.set_cons_zero, List.set_cons_succ]
                  refine wpAnyH_take (i := 4) (oi := ({ dst := some 84, op := Op.binOp BinOp.neq 3 (Operand.tmp 81) (Operand.tmp 83) 3, type := 4, pos := "law.go:113", after := #[{ on := 1, ground := Ground.data }, { on := 3, ground := Ground.data }], guard := none } : Oper)) (v := ?vc4) rfl (by kernel_rfl) (by kernel_rfl) (by kernel_rfl) (fun _ _ _ h => h) (Or.inl ⟨by rfl, ?hyc4⟩) (by assumption) ?restc4
                  case hyc4 => intro w hSw; (try dsimp only at hSw); go_simp; all_goals (with_reducible rfl)
                  try simp only [Act.put, List.setIfInBounds_toArray, List.set_cons_zero, List.set_cons_succ]
                  refine wpAnyH_take (i := 5) (oi := ({ dst := some 85, op := Op.move (Operand.tmp 84), type := 4, pos := "law.go:113", after := #[{ on := 4, ground := Ground.data }], guard := none } : Oper)) (v := ?vc5) rfl (by kernel_rfl) (by kernel_rfl) (by kernel_rfl) (fun _ _ _ h => h) (Or.inl ⟨by rfl, ?hyc5⟩) (by assumption) ?restc5
                  case hyc5 => intro w hSw; (try dsimp only at hSw); go_simp; all_goals (with_reducible rfl)
                  try simp only [Act.put, List.setIfInBounds_toArray, List.set_cons_zero, List.set_cons_succ]
                  refine wpAnyH_take (i := 6) (oi := ({ dst := some 86, op := Op.move (Operand.tmp 10), type := 22, pos := "law.go:113", after := #[{ on := 5, ground := Ground.guard }], guard := some (5, false) } : Oper)) (v := ?vc6) rfl (by kernel_rfl) (by kernel_rfl) (by kernel_rfl) (fun _ _ _ h => h) (Or.inl ⟨by rfl, ?hyc6⟩) (by assumption) ?restc6
                  case hyc6 => intro w hSw; (try dsimp only at hSw); go_simp; all_goals (with_reducible rfl)
                  try simp only [Act.put, List.setIfInBounds_toArray, List.set_cons_zero, List.set_cons_succ]
                  refine wpAnyH_take (i := 7) (oi := ({ dst := some 87, op := Op.call { callee := Callee.builtin Builtin.len, args := #[Operand.tmp 86], argTypes := #[22] }, type := 3, pos := "law.go:113", after := #[{ on := 6, ground := Ground.data }, { on := 5, ground := Ground.guard }], guard := some (5, false) } : Oper)) (v := ?vc7) rfl (by kernel_rfl) (by kernel_rfl) (by kernel_rfl) (fun _ _ _ h => h) (Or.inl ⟨by rfl, ?hyc7⟩) (by assumption) ?restc7
                  case hyc7 => intro w hSw; (try dsimp only at hSw); go_simp; all_goals (with_reducible rfl)
                  try simp only [Act.put, List.setIfInBounds_toArray, List.set_cons_zero, List.set_cons_succ]
                  refine wpAnyH_take (i := 8) (oi := ({ dst := some 88, op := Op.binOp BinOp.gtr 3 (Operand.tmp 87) (Operand.const (Value.int IntKind.i64 0)) 3, type := 4, pos := "law.go:113", after := #[{ on := 7, ground := Ground.data }, { on := 5, ground := Ground.guard }], guard := some (5, false) } : Oper)) (v := ?vc8) rfl (by kernel_rfl) (by kernel_rfl) (by kernel_rfl) (fun _ _ _ h => h) (Or.inl ⟨by rfl, ?hyc8⟩) (by assumption) ?restc8
                  case hyc8 => intro w hSw; (try dsimp only at hSw); go_simp; all_goals (with_reducible rfl)
                  try simp only [Act.put, List.setIfInBounds_toArray, List.set_cons_zero, List.set_cons_succ]
                  refine wpAnyH_take (i := 9) (oi := ({ dst := some 89, op := Op.move (Operand.tmp 88), type := 4, pos := "law.go:113", after := #[{ on := 8, ground := Ground.data }, { on := 5, ground := Ground.chain }, { on := 5, ground := Ground.guard }], guard := some (5, false) } : Oper)) (v := ?vc9) rfl (by kernel_rfl) (by kernel_rfl) (by kernel_rfl) (fun _ _ _ h => h) (Or.inl ⟨by rfl, ?hyc9⟩) (by assumption) ?restc9
                  case hyc9 => intro w hSw; (try dsimp only at hSw); go_simp; all_goals (with_reducible rfl)
                  try simp only [Act.put, List.setIfInBounds_toArray, List.set_cons_zero, List.set_cons_succ]
                  refine wpAnyH_take (i := 10) (oi := ({ dst := some 90, op := Op.move (Operand.tmp 10), type := 22, pos := "law.go:113", after := #[{ on := 9, ground := Ground.guard }], guard := some (9, true) } : Oper)) (v := ?vc10) rfl (by kernel_rfl) (by kernel_rfl) (by kernel_rfl) (fun _ _ _ h => h) (Or.inl ⟨by rfl, ?hyc10⟩) (by assumption) ?restc10
                  case hyc10 => intro w hSw; (try dsimp only at hSw); go_simp; all_goals (with_reducible rfl)
                  try simp only [Act.put, List.setIfInBounds_toArray, List.set_cons_zero, List.set_cons_succ]
                  refine wpAnyH_take (i := 11) (oi := ({ dst := some 91, op := Op.indexAddr 22 (Operand.tmp 90) (Operand.const (Value.int IntKind.i64 0)), type := 0, pos := "law.go:113", after := #[{ on := 10, ground := Ground.data }, { on := 9, ground := Ground.guard }], guard := some (9, true) } : Oper)) (v := ?vc11) rfl (by kernel_rfl) (by kernel_rfl) (by kernel_rfl) (fun _ _ _ h => h) (Or.inl ⟨by rfl, ?hyc11⟩) (by assumption) ?restc11
                  case hyc11 => intro w hSw; (try dsimp only at hSw); go_simp; all_goals (with_reducible rfl)
                  try simp only [Act.put, List.setIfInBounds_toArray, List.set_cons_zero, List.set_cons_succ]
                  refine wpAnyH_take (i := 12) (oi := ({ dst := some 92, op := Op.load 3 (Operand.tmp 91), type := 3, pos := "law.go:113", after := #[{ on := 11, ground := Ground.data }, { on := 9, ground := Ground.guard }], guard := some (9, true) } : Oper)) (v := ?vc12) rfl (by kernel_rfl) (by kernel_rfl) (by kernel_rfl) (fun _ _ _ h => h) (Or.inl ⟨by rfl, ?hyc12⟩) (by assumption) ?restc12
                  case hyc12 => intro w hSw; (try dsimp only at hSw); go_simp; all_goals (with_reducible rfl)
                  try simp only [Act.put, List.setIfInBounds_toArray, List.set_cons_zero, List.set_cons_succ]
                  refine wpAnyH_take (i := 13) (oi := ({ dst := some 93, op := Op.move (Operand.tmp 13), type := 22, pos := "law.go:113", after := #[{ on := 9, ground := Ground.guard }], guard := some (9, true) } : Oper)) (v := ?vc13) rfl (by kernel_rfl) (by kernel_rfl) (by kernel_rfl) (fun _ _ _ h => h) (Or.inl ⟨by rfl, ?hyc13⟩) (by assumption) ?restc13
                  case hyc13 => intro w hSw; (try dsimp only at hSw); go_simp; all_goals (with_reducible rfl)
                  try simp only [Act.put, List.setIfInBounds_toArray, List.set_cons_zero, List.set_cons_succ]
                  refine wpAnyH_take (i := 14) (oi := ({ dst := some 94, op := Op.indexAddr 22 (Operand.tmp 93) (Operand.const (Value.int IntKind.i64 0)), type := 0, pos := "law.go:113", after := #[{ on := 13, ground := Ground.data }, { on := 9, ground := Ground.guard }], guard := some (9, true) } : Oper)) (v := ?vc14) rfl (by kernel_rfl) (by kernel_rfl) (by kernel_rfl) (fun _ _ _ h => h) (Or.inl ⟨by rfl, ?hyc14⟩) (by assumption) ?restc14
                  case hyc14 => intro w hSw; (try dsimp only at hSw); go_simp; all_goals (with_reducible rfl)
                  try simp only [Act.put, List.setIfInBounds_toArray, List.set_cons_zero, List.set_cons_succ]
                  refine wpAnyH_take (i := 15) (oi := ({ dst := some 95, op := Op.load 3 (Operand.tmp 94), type := 3, pos := "law.go:113", after := #[{ on := 14, ground := Ground.data }, { on := 9, ground := Ground.guard }], guard := some (9, true) } : Oper)) (v := ?vc15) rfl (by kernel_rfl) (by kernel_rfl) (by kernel_rfl) (fun _ _ _ h => h) (Or.inl ⟨by rfl, ?hyc15⟩) (by assumption) ?restc15
                  case hyc15 => intro w hSw; (try dsimp only at hSw); go_simp; all_goals (with_reducible rfl)
                  try simp only [Act.put, List.setIfInBounds_toArray, List.set_cons_zero, List.set_cons_succ]
                  refine wpAnyH_take (i := 16) (oi := ({ dst := some 96, op := Op.binOp BinOp.neq 3 (Operand.tmp 92) (Operand.tmp 95) 3, type := 4, pos := "law.go:113", after := #[{ on := 12, ground := Ground.data }, { on := 15, ground := Ground.data }, { on := 9, ground := Ground.guard }], guard := some (9, true) } : Oper)) (v := ?vc16) rfl (by kernel_rfl) (by kernel_rfl) (by kernel_rfl) (fun _ _ _ h => h) (Or.inl ⟨by rfl, ?hyc16⟩) (by assumption) ?restc16
                  case hyc16 => intro w hSw; (try dsimp only at hSw); go_simp; all_goals (with_reducible rfl)
                  try simp only [Act.put, List.setIfInBounds_toArray, List.set_cons_zero, List.set_cons_succ]
                  refine wpAnyH_take (i := 17) (oi := ({ dst := some 97, op := Op.pick (Operand.tmp 89) (Operand.tmp 96) (Operand.const (Value.bool false)), type := 4, pos := "law.go:113", after := #[{ on := 9, ground := Ground.data }, { on := 16, ground := Ground.data }, { on := 5, ground := Ground.guard }], guard := some (5, false) } : Oper)) (v := ?vc17) rfl (by kernel_rfl) (by kernel_rfl) (by kernel_rfl) (fun _ _ _ h => h) (Or.inl ⟨by rfl, ?hyc17⟩) (by assumption) ?restc17
                  case hyc17 => intro w hSw; (try dsimp only at hSw); go_simp; all_goals (with_reducible rfl)
                  try simp only [Act.put, List.setIfInBounds_toArray, List.set_cons_zero, List.set_cons_succ]
                  refine wpAnyH_take (i := 18) (oi := ({ dst := some 98, op := Op.pick (Operand.tmp 85) (Operand.const (Value.bool true)) (Operand.tmp 97), type := 4, pos := "law.go:113", after := #[{ on := 5, ground := Ground.data }, { on := 17, ground := Ground.data }], guard := none } : Oper)) (v := ?vc18) rfl (by kernel_rfl) (by kernel_rfl) (by kernel_rfl) (fun _ _ _ h => h) (Or.inl ⟨by rfl, ?hyc18⟩) (by assumption) ?restc18
                  case hyc18 => intro w hSw; (try dsimp only at hSw); go_simp; all_goals (with_reducible rfl)
                  try simp only [Act.put, List.setIfInBounds_toArray, List.set_cons_zero, List.set_cons_succ]
                  refine wpAnyH_take (i := 19) (oi := ({ dst := some 99, op := Op.move (Operand.tmp 98), type := 4, pos := "law.go:113", after := #[{ on := 18, ground := Ground.data }, { on := 9, ground := Ground.chain }], guard := none } : Oper)) (v := ?vc19) rfl (by kernel_rfl) (by kernel_rfl) (by kernel_rfl) (fun _ _ _ h => h) (Or.inl ⟨by rfl, ?hyc19⟩) (by assumption) ?restc19
                  case hyc19 => intro w hSw; (try dsimp only at hSw); go_simp; all_goals (with_reducible rfl)
                  try simp only [Act.put, List.setIfInBounds_toArray, List.set_cons_zero, List.set_cons_succ]
                  refine wpAnyH_take (i := 20) (oi := ({ dst := some 100, op := Op.move (Operand.tmp 10), type := 22, pos := "law.go:113", after := #[{ on := 19, ground := Ground.guard }], guard := some (19, false) } : Oper)) (v := ?vc20) rfl (by kernel_rfl) (by kernel_rfl) (by kernel_rfl) (fun _ _ _ h => h) (Or.inl ⟨by rfl, ?hyc20⟩) (by assumption) ?restc20
                  case hyc20 => intro w hSw; (try dsimp only at hSw); go_simp; all_goals (with_reducible rfl)
                  try simp only [Act.put, List.setIfInBounds_toArray, List.set_cons_zero, List.set_cons_succ]
                  refine wpAnyH_take (i := 22) (oi := ({ dst := some 102, op := Op.move (Operand.tmp 13), type := 22, pos := "law.go:113", after := #[{ on := 19, ground := Ground.guard }], guard := some (19, false) } : Oper)) (v := ?vc22) rfl (by kernel_rfl) (by kernel_rfl) (by kernel_rfl) (fun _ _ _ h => h) (Or.inl ⟨by rfl, ?hyc22⟩) (by assumption) ?restc22
                  case hyc22 => intro w hSw; (try dsimp only at hSw); go_simp; all_goals (with_reducible rfl)
                  try simp only [Act.put, List.setIfInBounds_toArray, List.set_cons_zero, List.set_cons_succ]
                  refine wpAnyH_ready (rs := [21]) (by kernel_rfl) (by simp) ?_
                  refine AllReadyH.cons (o := ({ dst := some 101, op := Op.call { callee := Callee.value (Operand.func 23), args := #[Operand.tmp 100], argTypes := #[22] }, type := 22, pos := "law.go:113", after := #[{ on := 20, ground := Ground.data }, { on := 19, ground := Ground.chain }, { on := 19, ground := Ground.guard }], guard := some (19, false) } : Oper)) rfl (fun K hK => ?_) AllReadyH.nil
                  go_simp
                  refine (HO6.out _ (by first | assumption | exact below_drewN' (Below.refl _ _) _)).mono ?_; rintro e' wN ⟨A7, c7, rfl, hL7, hbN, hBN⟩
                  refine hK.out _ _ ?_ (fun hHeld => ?_)
                  · (try dsimp only); exact HKS5.out _ (by first | assumption | exact below_drewN' (Below.refl _ _) _)
                  clear hK K
                  try simp only [Act.put, List.setIfInBounds_toArray, List.set_cons_zero, List.set_cons_succ]
                  refine wpAnyH_ready (rs := [23]) (by kernel_rfl) (by simp) ?_
                  refine AllReadyH.cons (o := ({ dst := some 103, op := Op.call { callee := Callee.value (Operand.func 12), args := #[Operand.tmp 101, Operand.tmp 102], argTypes := #[22, 22] }, type := 4, pos := "law.go:113", after := #[{ on := 21, ground := Ground.data }, { on := 22, ground := Ground.data }, { on := 21, ground := Ground.chain }, { on := 19, ground := Ground.guard }], guard := some (19, false) } : Oper)) rfl (fun K hK => ?_) AllReadyH.nil
                  go_simp
                  refine (same_told (wr := w5) (hL7 _ (Below.refl _ _)) (HS5.out _ hBN).1 HTL.out (by assumption)).mono ?_; rintro e' wT ⟨rfl, hbT, hBT⟩
                  refine hK.out _ _ ?_ (fun hHeld => ?_)
                  · (try dsimp only); exact HKS5.out _ (by first | assumption | exact below_drewN' (Below.refl _ _) _)
                  clear hK K
                  try simp only [Act.put, List.setIfInBounds_toArray, List.set_cons_zero, List.set_cons_succ]
                  refine wpAnyH_take (i := 24) (oi := ({ dst := some 104, op := Op.unOp UnOp.not 4 (Operand.tmp 103), type := 4, pos := "law.go:113", after := #[{ on := 23, ground := Ground.data }, { on := 19, ground := Ground.guard }], guard := some (19, false) } : Oper)) (v := ?vc24) rfl (by kernel_rfl) (by kernel_rfl) (by kernel_rfl) (fun _ _ _ h => h) (Or.inl ⟨by rfl, ?hyc24⟩) (by assumption) ?restc24
                  case hyc24 => intro w hSw; (try dsimp only at hSw); go_simp; all_goals (with_reducible rfl)
                  try simp only [Act.put, List.setIfInBounds_toArray, List.set_cons_zero, List.set_cons_succ]
                  refine wpAnyH_take (i := 25) (oi := ({ dst := some 105, op := Op.pick (Operand.tmp 99) (Operand.const (Value.bool true)) (Operand.tmp 104), type := 4, pos := "law.go:113", after := #[{ on := 19, ground := Ground.data }, { on := 24, ground := Ground.data }], guard := none } : Oper)) (v := ?vc25) rfl (by kernel_rfl) (by kernel_rfl) (by kernel_rfl) (fun _ _ _ h => h) (Or.inl ⟨by rfl, ?hyc25⟩) (by assumption) ?restc25
                  case hyc25 => intro w hSw; (try dsimp only at hSw); go_simp; all_goals (with_reducible rfl)
                  try simp only [Act.put, List.setIfInBounds_toArray, List.set_cons_zero, List.set_cons_succ]
                  refine wpAnyH_done (by kernel_rfl) ?_ _
                  go_wp2_with fail
                  go_meet
                  exact ⟨rfl, by assumption⟩
              case rest =>
                obtain ⟨rfl, hbx⟩ := hcut
                have HBX := Lib.hid (HB5.out.trans (hbx.mono HB5.out.size))
                clear hbx
                go_wp2_with fail
                go_meet
                exact HBX.out
    case rest =>
      have HBC := Lib.hid hcut
      have h1 := hcut.alloc hcut.size (.cells #[.int .i64 0] 3)
      have LN := Lib.hid (fun (W : World) => list_none (GF.noG (W.alloc (.cells #[.int .i64 0] 3))) [0] _ (seq_one W 0 3).1 (by simp) (by decide))
      clear h1
      go_wp2_with fail
      refine (LN.out _).mono ?_; rintro e w6 ⟨v6, rfl, hs6, hb6⟩
      obtain ⟨_, A6, c6, rfl, _⟩ := id hs6
      have hB6 := (HBC.out.alloc HBC.out.size (.cells #[.int .i64 0] 3)).trans (hb6.mono (HBC.out.alloc HBC.out.size (.cells #[.int .i64 0] 3)).size)
      have HB6 := Lib.hid hB6
      have LK := linked_any (GF.noG (w6.alloc (.cells #[.int .i64 0] 3))) [0] _ (seq_one w6 0 3) (by simp)
      rw [show lkTo 0 (adj []) [0] [(0 : Int)].length = false by decide] at LK
      have HLK := Lib.hid LK
      clear hs6 hb6 hB6 LK
      go_wp2_with fail
      refine HLK.out.mono ?_; rintro e w7 ⟨rfl, hb7⟩
      have HB7 := Lib.hid ((HB6.out.alloc HB6.out.size (.cells #[.int .i64 0] 3)).trans (hb7.mono (HB6.out.alloc HB6.out.size (.cells #[.int .i64 0] 3)).size))
      have LK2 := linked_any (GF.noG w7) [] _ (nilC w7) (by simp)
      rw [show lkTo 0 (adj []) [] ([] : List Int).length = true by decide] at LK2
      have HLK2 := Lib.hid LK2
      clear hb7 LK2
      go_wp2_with fail
      refine HLK2.out.mono ?_; rintro e w8 ⟨rfl, hb8⟩
      have HB8 := Lib.hid (HB7.out.trans (hb8.mono HB7.out.size))
      have CN := canonical_any (GF.noG w8) [] _ (nilC w8) (by simp)
      rw [show canL 0 (adj []) [] = true by decide] at CN
      have HCN := Lib.hid CN
      clear hb8 CN
      go_wp2_with fail
      refine HCN.out.mono ?_; rintro e w9 ⟨rfl, d9, hw9⟩
      have HB9 := Lib.hid (show Below w.heap.size w w9 by rw [hw9]; exact below_drewN' HB8.out d9)
      have MN := may_any (GF.noG w9) [] 0 _ (nilC w9) (by simp)
      rw [show canL 0 (adj []) ([] ++ [0]) = false by decide] at MN
      have HMN := Lib.hid MN
      clear hw9 MN
      go_wp2_with fail
      refine HMN.out.mono ?_; rintro e w10 ⟨rfl, d10, hw10⟩
      have HB10 := Lib.hid (show Below w.heap.size w w10 by rw [hw10]; exact below_drewN' HB9.out d10)
      have NN := next_any (GF.noG w10) [] _ (nilC w10).1 (by simp)
      rw [show nxtL 0 (adj []) [] = [] by decide] at NN
      have HNN := Lib.hid NN
      clear hw10 NN
      go_wp2_with fail
      refine HNN.out.mono ?_; rintro e w11 ⟨v11, rfl, ho11, hb11⟩
      obtain ⟨A11, c11, rfl⟩ := own_form ho11
      have HB11 := Lib.hid (HB10.out.trans (hb11.mono HB10.out.size))
      have GN := grow_any (GF.noG w11) [] _ (nilC w11) (by simp)
      rw [show growL 0 (adj []) [] = [] by decide] at GN
      have HGN := Lib.hid GN
      clear ho11 hb11 GN
      go_wp2_with fail
      refine HGN.out.mono ?_; rintro e w12 ⟨v12, rfl, hs12, hb12⟩
      obtain ⟨_, A12, c12, rfl, _⟩ := id hs12
      have HB12 := Lib.hid (HB11.out.trans (hb12.mono HB11.out.size))
      have BN := Lib.hid (bare_n (GF.noG w12))
      clear hs12 hb12
      go_wp2_with fail
      refine BN.out.mono ?_; rintro e w13 ⟨A13, c13, rfl, hb13⟩
      have HB13 := Lib.hid (HB12.out.trans (hb13.mono HB12.out.size))
      clear hb13
      go_wp2_with fail
      go_ret
      exact ⟨rfl, HB13.out⟩
end Go.Proofs.Ytploaffmhemjkaa
