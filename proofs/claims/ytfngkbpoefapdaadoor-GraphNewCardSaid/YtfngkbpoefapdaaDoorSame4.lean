/- graph.Same. -/
import Derived.Test.YtfngkbpoefapdaaDoorGraphRd
import Derived.Test.YtfngkbpoefapdaaDoorEqE
import Derived.BigQuiet
namespace Go.Proofs.YtfngkbpoefapdaaDoor
open Go.RowKit

theorem drew_more (w : World) (a b : Nat) : ∃ q, (w.drewN a).drewN b = w.drewN q := ⟨a + b, by simp [World.drewN, Nat.add_assoc]⟩
theorem equal_ints (X Y : List Int) (vx vy : Value) (w : World) (hx : SeqV w vx X) (hy : SeqV w vy Y) (h1 : X.length ≤ 9223372036854775807) (h2 : Y.length ≤ 9223372036854775807) :
    Calls Tryd.prog 38 #[vx, vy] w fun e w' => e = .returned (.bool (decide (X = Y))) ∧ ∃ q, w' = w.drewN q := by
  obtain ⟨A, c, rfl⟩ := IntsV.form hx
  obtain ⟨B, d, rfl⟩ := IntsV.form hy
  by_cases hl : X.length = Y.length
  · rcases hx with ⟨h0, _⟩ | ⟨h0, b, off, c', e, hc⟩
    · have hX : X = [] := List.eq_nil_of_length_eq_zero h0
      have hY : Y = [] := List.eq_nil_of_length_eq_zero (by omega)
      subst hX hY
      refine (Tryd.slices_Equal_int_empty A B c 0 d w (by omega)).mono ?_
      rintro e w' ⟨rfl, rfl⟩
      exact ⟨rfl, 0, rfl⟩
    · rcases hy with ⟨k0, _⟩ | ⟨k0, b2, off2, d', e2, kc⟩
      · omega
      · injection e with e1 _ _
        injection e2 with e3 _ _
        subst e1 e3
        have H := Tryd.slices_Equal_int b off X.length c b2 off2 Y.length d X Y w (Nat.le_refl _) (Nat.le_refl _) h1 h2 hc kc
        refine H.mono ?_
        rintro e w' ⟨rfl, hw⟩
        refine ⟨?_, hw⟩
        rw [List.take_length, List.take_length]
        congr 2
        by_cases h : X = Y <;> simp [h]
  · refine (Tryd.slices_Equal_int_lens A B _ c _ d w hl).mono ?_
    rintro e w' ⟨rfl, rfl⟩
    have hne : X ≠ Y := fun h => hl (by rw [h])
    exact ⟨by simp [hne], 0, rfl⟩

set_option maxRecDepth 100000 in
set_option maxHeartbeats 4000000 in
theorem equal_edges (X Y : List (Int × Int)) (vx vy : Value) (w : World) (hx : EdgesV w vx X) (hy : EdgesV w vy Y) (h1 : X.length ≤ 1000000) (h2 : Y.length ≤ 1000000) :
    Calls Tryd.prog 39 #[vx, vy] w fun e w' => e = .returned (.bool (decide (X = Y))) ∧ ∃ q, w' = w.drewN q := by
  obtain ⟨A, c, rfl⟩ := hx.form
  obtain ⟨B, d, rfl⟩ := hy.form
  obtain ⟨n, hn⟩ : ∃ n, X.length = n := ⟨_, rfl⟩
  obtain ⟨m, hm⟩ : ∃ m, Y.length = m := ⟨_, rfl⟩
  obtain ⟨z, hz⟩ : ∃ z, decide (X = Y) = z := ⟨_, rfl⟩
  rw [hz]
  have HX := Lib.hid hx; have HY := Lib.hid hy
  rw [hn] at HX h1 ⊢
  rw [hm] at HY h2 ⊢
  have HN := Lib.hid hn; have HM := Lib.hid hm; have HZ := Lib.hid hz
  by_cases hl : n = m
  · subst hl
    have t1 : (n != n) = false := by simp
    clear hx hy hn hm hz
    go_enter Tryd.func39, Tryd.ntmps39
    go_wp2_with fail
    go_loopg [13] n (fun gh y wr => ∃ k, k ≤ n ∧ gh = n - k ∧ y = .int .i64 (k : Nat) ∧ (∀ i (hi : i < X.length) (hj : i < Y.length), i < k → X[i] = Y[i]) ∧ ∃ q, wr = w.drewN q)
    case atStart => exact ⟨0, Nat.zero_le _, rfl, rfl, fun i _ _ h => by omega, 0, rfl⟩
    case round =>
      obtain ⟨k, hk, rfl, rfl, hsame, q, rfl⟩ := hrel
      have HS := Lib.hid hsame
      clear hsame
      by_cases hlt : k < n
      · have hkX : k < X.length := by rw [HN.out]; exact hlt
        have hkY : k < Y.length := by rw [HM.out]; exact hlt
        obtain ⟨b1, o1, rfl, d0, d1⟩ := HX.out.pos hkX
        obtain ⟨b2, o2, rfl, e0, e1⟩ := HY.out.pos hkY
        obtain ⟨x, hxk⟩ : ∃ x, X.getD k (0, 0) = x := ⟨_, rfl⟩
        obtain ⟨y, hyk⟩ : ∃ y, Y.getD k (0, 0) = y := ⟨_, rfl⟩
        rw [hxk] at d0 d1
        rw [hyk] at e0 e1
        obtain ⟨x0, x1⟩ := x
        obtain ⟨y0, y1⟩ := y
        have t3 : decide (k < n) = true := decide_eq_true hlt
        have i1 : (k : Int) < n := by omega
        have i2 : (0 : Int) ≤ k := by omega
        have Q2 := guard_edge .neq (.tmp 19) (.tmp 23) #[.int .i64 x0, .int .i64 x1] #[.int .i64 y0, .int .i64 y1]
        have Q1 := fun V => neq_edge x0 x1 y0 y1 V
        have HXK : Hid (X[k] = (x0, x1)) := Lib.hid (by rw [← hxk]; simp [List.getD, hkX])
        have HYK : Hid (Y[k] = (y0, y1)) := Lib.hid (by rw [← hyk]; simp [List.getD, hkY])
        have HLT := Lib.hid hlt
        clear hxk hyk hlt
        by_cases he : (x0, x1) = (y0, y1)
        · have ht : (!decide ((x0, x1) = (y0, y1))) = false := by simp [he]
          rw [ht] at Q1
          have HS2 : Hid (∀ i (hi : i < X.length) (hj : i < Y.length), i < k + 1 → X[i] = Y[i]) := Lib.hid (fun i hi hj hik => by
            rcases (by omega : i < k ∨ i = k) with h | rfl
            · exact HS.out i hi hj h
            · exact HXK.out.trans (he.trans HYK.out.symm))
          clear he ht
          go_wp2_with fail
          go_quiet (fail)
          go_wp2_with fail
          go_roundg (n - (k + 1))
          case rel => exact ⟨k + 1, HLT.out, rfl, by go_num, HS2.out, _, rfl⟩
          case measure => have := HLT.out; omega
        · have ht : (!decide ((x0, x1) = (y0, y1))) = true := by simp only [decide_eq_false he, Bool.not_false]
          rw [ht] at Q1
          have HF : Hid (z = false) := Lib.hid (by
            rw [← HZ.out]
            refine decide_eq_false (fun h => ?_)
            subst h
            exact he (HXK.out.symm.trans HYK.out))
          clear he ht
          go_wp2_with fail
          go_quiet (fail)
          go_wp2_with fail
          go_ret
          exact ⟨by rw [HF.out]; rfl, drew_more w _ _⟩
      · obtain rfl : k = n := by omega
        have t3 : decide (k < k) = false := by simp
        have HF : Hid (z = true) := Lib.hid (by
          rw [← HZ.out]
          refine decide_eq_true (List.ext_getElem (by rw [HN.out, HM.out]) (fun i hi hj => HS.out i hi hj (by rw [← HN.out]; exact hi)))
          )
        clear hlt
        go_wp2_with fail
        go_ret
        exact ⟨by rw [HF.out]; rfl, _, rfl⟩
  · have t1 : (n != m) = true := by simpa using hl
    have t1' : ((n : Int) != m) = true := by simp; omega
    have HF : Hid (z = false) := Lib.hid (by
      rw [← hz]
      refine decide_eq_false (fun h => hl ?_)
      rw [← hn, ← hm, h])
    clear hx hy hn hm hz
    go_enter Tryd.func39, Tryd.ntmps39
    go_wp2_with fail
    go_ret
    exact ⟨by rw [HF.out]; rfl, 0, rfl⟩
theorem whole_edges {w : World} {g : Nat} {t : TypeId} {S : List (Int × Int)} (h : Whole w g t (ecells S)) (n c : Nat) (hn : n = S.length) : EdgesV w (.slice (some ⟨g, 0, none⟩) n c) S := by
  subst hn
  rcases Nat.eq_zero_or_pos S.length with h0 | h0
  · exact Or.inl ⟨List.eq_nil_of_length_eq_zero h0, _, _, by rw [h0]⟩
  · refine Or.inr ⟨h0, g, 0, c, rfl, fun i hi => ?_⟩
    rw [Nat.zero_add, h.cell, h.cell]
    exact ecells_at hi

set_option maxRecDepth 100000 in
set_option maxHeartbeats 4000000 in
theorem same_any {w : World} {b1 b2 g h : Nat} {L L' : List Int} {S S' : List (Int × Int)} (hg : GraphOwn w b1 g L S) (hh : GraphOwn w b2 h L' S') (l1 : L.length ≤ 1000000) (l2 : L'.length ≤ 1000000) (s1 : S.length ≤ 1000000) (s2 : S'.length ≤ 1000000) :
    Calls Tryd.prog 27 #[.pointer (some ⟨g, 0, none⟩), .pointer (some ⟨h, 0, none⟩)] w fun e w' => e = .returned (.bool (decide (L = L' ∧ S = S'))) ∧ ∃ q, w' = w.drewN q := by
  obtain ⟨A, c, eb, nb, ab, us, p1, p2, p3, _⟩ := hg
  obtain ⟨B, d, fb, mb, cb, vs, q1, q2, q3, _⟩ := hh
  have EI := Lib.hid (fun (k : Nat) => equal_ints L L' (.slice A L.length c) (.slice B L'.length d) (w.drewN k) (own_seq (own_drewN p2 k)) (own_seq (own_drewN q2 k)) (by omega) (by omega))
  have EE := Lib.hid (fun (k : Nat) => equal_edges S S' (.slice (some ⟨eb, 0, none⟩) S.length S.length) (.slice (some ⟨fb, 0, none⟩) S'.length S'.length) (w.drewN k) (whole_edges (p3.drewN k) _ _ rfl) (whole_edges (q3.drewN k) _ _ rfl) s1 s2)
  have c0 : w.cell? ⟨g, 0, none⟩ = some (.slice A L.length c) := p1.cell 0
  have c1 : w.cell? ⟨g, 1, none⟩ = some (.slice (some ⟨eb, 0, none⟩) S.length S.length) := p1.cell 1
  have d0 : w.cell? ⟨h, 0, none⟩ = some (.slice B L'.length d) := q1.cell 0
  have d1 : w.cell? ⟨h, 1, none⟩ = some (.slice (some ⟨fb, 0, none⟩) S'.length S'.length) := q1.cell 1
  clear p1 p2 p3 q1 q2 q3 l1 l2 s1 s2
  obtain ⟨z1, hz1⟩ : ∃ z, decide (L = L') = z := ⟨_, rfl⟩
  obtain ⟨z2, hz2⟩ : ∃ z, decide (S = S') = z := ⟨_, rfl⟩
  have hz : decide (L = L' ∧ S = S') = (z1 && z2) := by rw [← hz1, ← hz2]; exact Bool.decide_and _ _
  rw [hz]
  rw [hz1] at EI
  rw [hz2] at EE
  clear hz hz1 hz2
  obtain ⟨n1, hn1⟩ : ∃ n, L.length = n := ⟨_, rfl⟩
  obtain ⟨n2, hn2⟩ : ∃ n, L'.length = n := ⟨_, rfl⟩
  obtain ⟨n3, hn3⟩ : ∃ n, S.length = n := ⟨_, rfl⟩
  obtain ⟨n4, hn4⟩ : ∃ n, S'.length = n := ⟨_, rfl⟩
  rw [hn1] at EI c0
  rw [hn2] at EI d0
  rw [hn3] at EE c1
  rw [hn4] at EE d1
  clear hn1 hn2 hn3 hn4
  cases z1 with
  | true =>
    go_enter Tryd.func27, Tryd.ntmps27
    go_wp2_with fail
    go_quiet ((first | (go_at_call 38; with_reducible exact Calls.quiet_of (EI.out _)) | (go_at_call 39; with_reducible exact Calls.quiet_of (EE.out _))))
    go_wp2_with fail
    go_ret
    exact ⟨rfl, _, rfl⟩
  | false =>
    go_enter Tryd.func27, Tryd.ntmps27
    go_wp2_with fail
    go_quiet ((first | (go_at_call 38; with_reducible exact Calls.quiet_of (EI.out _)) | (go_at_call 39; with_reducible exact Calls.quiet_of (EE.out _))))
    go_wp2_with fail
    go_ret
    exact ⟨rfl, _, rfl⟩
set_option maxRecDepth 100000 in
theorem same_nil1 (v : Nat) (w : World) : Calls Tryd.prog 27 #[.pointer (some ⟨v, 0, none⟩), .pointer none] w fun e w' => e = .returned (.bool false) ∧ w' = w := by
  go_enter Tryd.func27, Tryd.ntmps27
  go_wp2_with fail
  go_ret
  exact ⟨rfl, rfl⟩
set_option maxRecDepth 100000 in
theorem same_nil2 (w : World) : Calls Tryd.prog 27 #[.pointer none, .pointer none] w fun e w' => e = .returned (.bool true) ∧ w' = w := by
  go_enter Tryd.func27, Tryd.ntmps27
  go_wp2_with fail
  go_ret
  exact ⟨rfl, rfl⟩
end Go.Proofs.YtfngkbpoefapdaaDoor
