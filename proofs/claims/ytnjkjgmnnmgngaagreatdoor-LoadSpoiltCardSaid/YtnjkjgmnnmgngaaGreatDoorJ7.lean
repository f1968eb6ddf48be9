/- graph.New, whole. graph.Same. graph.Id, Has, Edge: contracts. graph.Has, graph.Edge: contracts. Edges handed in the other way round and turned: pure. -/
import Derived.Test.YtnjkjgmnnmgngaaGreatDoorBuild4
import Derived.Test.YtnjkjgmnnmgngaaGreatDoorJ6
import Derived.Test.YtnjkjgmnnmgngaaGreatDoorJ5
import Derived.BigQuiet
import Derived.Test.YtnjkjgmnnmgngaaGreatDoorJ1
namespace Go.Proofs.YtnjkjgmnnmgngaaGreatDoor
section
open Go.RowKit

theorem graph_new (L : List Int) (E : List (Int × Int)) (vl ve : Value) (w : World) (hl : SeqV w vl L) (he : EdgesV w ve E) (hE : ∀ e, e ∈ E → In64 e.1 ∧ In64 e.2) (hm : L.length ≤ 9223372036854775807) (hm2 : E.length ≤ 9223372036854775807) :
    Calls Tryz.prog 39 #[vl, ve] w (NewTo L E w) := by
  by_cases h : 4096 < L.length ∨ 16384 < E.length
  · exact new_large L E vl ve w hl he h hm hm2
  · exact graphNew_any L E vl ve w hl he hE (by omega) (by omega) (fun W base A c hb ho hv hg => build_any L E L.length E.length ve W base A c rfl rfl (by omega) (by omega) hb ho hv hg)
end

section
open Go.RowKit

theorem equal_ints (X Y : List Int) (vx vy : Value) (w : World) (hx : SeqV w vx X) (hy : SeqV w vy Y) (h1 : X.length ≤ 9223372036854775807) (h2 : Y.length ≤ 9223372036854775807) :
    Calls Tryz.prog 36 #[vx, vy] w fun e w' => e = .returned (.bool (decide (X = Y))) ∧ ∃ q, w' = w.drewN q := by
  obtain ⟨A, c, rfl⟩ := IntsV.form hx
  obtain ⟨B, d, rfl⟩ := IntsV.form hy
  by_cases hl : X.length = Y.length
  · rcases hx with ⟨h0, _⟩ | ⟨h0, b, off, c', e, hc⟩
    · have hX : X = [] := List.eq_nil_of_length_eq_zero h0
      have hY : Y = [] := List.eq_nil_of_length_eq_zero (by omega)
      subst hX hY
      refine (Tryz.slices_Equal_int_empty A B c 0 d w (by omega)).mono ?_
      rintro e w' ⟨rfl, rfl⟩
      exact ⟨rfl, 0, rfl⟩
    · rcases hy with ⟨k0, _⟩ | ⟨k0, b2, off2, d', e2, kc⟩
      · omega
      · injection e with e1 _ _
        injection e2 with e3 _ _
        subst e1 e3
        have H := Tryz.slices_Equal_int b off X.length c b2 off2 Y.length d X Y w (Nat.le_refl _) (Nat.le_refl _) h1 h2 hc kc
        refine H.mono ?_
        rintro e w' ⟨rfl, hw⟩
        refine ⟨?_, hw⟩
        rw [List.take_length, List.take_length]
        congr 2
        by_cases h : X = Y <;> simp [h]
  · refine (Tryz.slices_Equal_int_lens A B _ c _ d w hl).mono ?_
    rintro e w' ⟨rfl, rfl⟩
    have hne : X ≠ Y := fun h => hl (by rw [h])
    exact ⟨by simp [hne], 0, rfl⟩

set_option maxRecDepth 100000 in
set_option maxHeartbeats 4000000 in
theorem equal_edges (X Y : List (Int × Int)) (vx vy : Value) (w : World) (hx : EdgesV w vx X) (hy : EdgesV w vy Y) (h1 : X.length ≤ 1000000) (h2 : Y.length ≤ 1000000) :
    Calls Tryz.prog 37 #[vx, vy] w fun e w' => e = .returned (.bool (decide (X = Y))) ∧ ∃ q, w' = w.drewN q := by
  obtain ⟨A, c, rfl⟩ := hx.form
  obtain ⟨B, d, rfl⟩ := hy.form
  obtain ⟨n, hn⟩ : ∃ n, X.length = n := ⟨_, rfl⟩
  obtain ⟨m, hm⟩ : ∃ m, Y.length = m := ⟨_, rfl⟩
  obtain ⟨z, hz⟩ : ∃ z, decide (X = Y) = z := ⟨_, rfl⟩
  rw [hz]
  have HX := Lib.hid hx; have HY := Lib.hid hy
  rw [hn] at HX h1 ⊢
  rw [hm] at HY h2 ⊢
  have HN := Lib.hid hn; have HM := Lib.hid hm; have HZ := Lib.hid hz
  by_cases hl : n = m
  · subst hl
    have t1 : (n != n) = false := by simp
    clear hx hy hn hm hz
    go_enter Tryz.func37, Tryz.ntmps37
    go_wp2_with fail
    go_loopg [13] n (fun gh y wr => ∃ k, k ≤ n ∧ gh = n - k ∧ y = .int .i64 (k : Nat) ∧ (∀ i (hi : i < X.length) (hj : i < Y.length), i < k → X[i] = Y[i]) ∧ ∃ q, wr = w.drewN q)
    case atStart => exact ⟨0, Nat.zero_le _, rfl, rfl, fun i _ _ h => by omega, 0, rfl⟩
    case round =>
      obtain ⟨k, hk, rfl, rfl, hsame, q, rfl⟩ := hrel
      have HS := Lib.hid hsame
      clear hsame
      by_cases hlt : k < n
      · have hkX : k < X.length := by rw [HN.out]; exact hlt
        have hkY : k < Y.length := by rw [HM.out]; exact hlt
        obtain ⟨b1, o1, rfl, d0, d1⟩ := HX.out.pos hkX
        obtain ⟨b2, o2, rfl, e0, e1⟩ := HY.out.pos hkY
        obtain ⟨x, hxk⟩ : ∃ x, X.getD k (0, 0) = x := ⟨_, rfl⟩
        obtain ⟨y, hyk⟩ : ∃ y, Y.getD k (0, 0) = y := ⟨_, rfl⟩
        rw [hxk] at d0 d1
        rw [hyk] at e0 e1
        obtain ⟨x0, x1⟩ := x
        obtain ⟨y0, y1⟩ := y
        have t3 : decide (k < n) = true := decide_eq_true hlt
        have i1 : (k : Int) < n := by omega
        have i2 : (0 : Int) ≤ k := by omega
        have Q2 := guard_edge .neq (.tmp 19) (.tmp 23) #[.int .i64 x0, .int .i64 x1] #[.int .i64 y0, .int .i64 y1]
        have Q1 := fun V => neq_edge x0 x1 y0 y1 V
        have HXK : Hid (X[k] = (x0, x1)) := Lib.hid (by rw [← hxk]; simp [List.getD, hkX])
        have HYK : Hid (Y[k] = (y0, y1)) := Lib.hid (by rw [← hyk]; simp [List.getD, hkY])
        have HLT := Lib.hid hlt
        clear hxk hyk hlt
        by_cases he : (x0, x1) = (y0, y1)
        · have ht : (!decide ((x0, x1) = (y0, y1))) = false := by simp [he]
          rw [ht] at Q1
          have HS2 : Hid (∀ i (hi : i < X.length) (hj : i < Y.length), i < k + 1 → X[i] = Y[i]) := Lib.hid (fun i hi hj hik => by
            rcases (by omega : i < k ∨ i = k) with h | rfl
            · exact HS.out i hi hj h
            · exact HXK.out.trans (he.trans HYK.out.symm))
          clear he ht
          go_wp2_with fail
          go_quiet (fail)
          go_wp2_with fail
          go_roundg (n - (k + 1))
          case rel => exact ⟨k + 1, HLT.out, rfl, by go_num, HS2.out, _, rfl⟩
          case measure => have := HLT.out; omega
        · have ht : (!decide ((x0, x1) = (y0, y1))) = true := by simp only [decide_eq_false he, Bool.not_false]
          rw [ht] at Q1
          have HF : Hid (z = false) := Lib.hid (by
            rw [← HZ.out]
            refine decide_eq_false (fun h => ?_)
            subst h
            exact he (HXK.out.symm.trans HYK.out))
          clear he ht
          go_wp2_with fail
          go_quiet (fail)
          go_wp2_with fail
          go_ret
          exact ⟨by rw [HF.out]; rfl, drew_more w _ _⟩
      · obtain rfl : k = n := by omega
        have t3 : decide (k < k) = false := by simp
        have HF : Hid (z = true) := Lib.hid (by
          rw [← HZ.out]
          refine decide_eq_true (List.ext_getElem (by rw [HN.out, HM.out]) (fun i hi hj => HS.out i hi hj (by rw [← HN.out]; exact hi)))
          )
        clear hlt
        go_wp2_with fail
        go_ret
        exact ⟨by rw [HF.out]; rfl, _, rfl⟩
  · have t1 : (n != m) = true := by simpa using hl
    have t1' : ((n : Int) != m) = true := by simp; omega
    have HF : Hid (z = false) := Lib.hid (by
      rw [← hz]
      refine decide_eq_false (fun h => hl ?_)
      rw [← hn, ← hm, h])
    clear hx hy hn hm hz
    go_enter Tryz.func37, Tryz.ntmps37
    go_wp2_with fail
    go_ret
    exact ⟨by rw [HF.out]; rfl, 0, rfl⟩
theorem whole_edges {w : World} {g : Nat} {t : TypeId} {S : List (Int × Int)} (h : Whole w g t (ecells S)) (n c : Nat) (hn : n = S.length) : EdgesV w (.slice (some ⟨g, 0, none⟩) n c) S := by
  subst hn
  rcases Nat.eq_zero_or_pos S.length with h0 | h0
  · exact Or.inl ⟨List.eq_nil_of_length_eq_zero h0, _, _, by rw [h0]⟩
  · refine Or.inr ⟨h0, g, 0, c, rfl, fun i hi => ?_⟩
    rw [Nat.zero_add, h.cell, h.cell]
    exact ecells_at hi

set_option maxRecDepth 100000 in
set_option maxHeartbeats 4000000 in
theorem same_any {w : World} {b1 b2 g h : Nat} {L L' : List Int} {S S' : List (Int × Int)} (hg : GraphOwn w b1 g L S) (hh : GraphOwn w b2 h L' S') (l1 : L.length ≤ 1000000) (l2 : L'.length ≤ 1000000) (s1 : S.length ≤ 1000000) (s2 : S'.length ≤ 1000000) :
    Calls Tryz.prog 13 #[.pointer (some ⟨g, 0, none⟩), .pointer (some ⟨h, 0, none⟩)] w fun e w' => e = .returned (.bool (decide (L = L' ∧ S = S'))) ∧ ∃ q, w' = w.drewN q := by
  obtain ⟨A, c, eb, nb, ab, us, p1, p2, p3, _⟩ := hg
  obtain ⟨B, d, fb, mb, cb, vs, q1, q2, q3, _⟩ := hh
  have EI := Lib.hid (fun (k : Nat) => equal_ints L L' (.slice A L.length c) (.slice B L'.length d) (w.drewN k) (own_seq (own_drewN p2 k)) (own_seq (own_drewN q2 k)) (by omega) (by omega))
  have EE := Lib.hid (fun (k : Nat) => equal_edges S S' (.slice (some ⟨eb, 0, none⟩) S.length S.length) (.slice (some ⟨fb, 0, none⟩) S'.length S'.length) (w.drewN k) (whole_edges (p3.drewN k) _ _ rfl) (whole_edges (q3.drewN k) _ _ rfl) s1 s2)
  have c0 : w.cell? ⟨g, 0, none⟩ = some (.slice A L.length c) := p1.cell 0
  have c1 : w.cell? ⟨g, 1, none⟩ = some (.slice (some ⟨eb, 0, none⟩) S.length S.length) := p1.cell 1
  have d0 : w.cell? ⟨h, 0, none⟩ = some (.slice B L'.length d) := q1.cell 0
  have d1 : w.cell? ⟨h, 1, none⟩ = some (.slice (some ⟨fb, 0, none⟩) S'.length S'.length) := q1.cell 1
  clear p1 p2 p3 q1 q2 q3 l1 l2 s1 s2
  obtain ⟨z1, hz1⟩ : ∃ z, decide (L = L') = z := ⟨_, rfl⟩
  obtain ⟨z2, hz2⟩ : ∃ z, decide (S = S') = z := ⟨_, rfl⟩
  have hz : decide (L = L' ∧ S = S') = (z1 && z2) := by rw [← hz1, ← hz2]; exact Bool.decide_and _ _
  rw [hz]
  rw [hz1] at EI
  rw [hz2] at EE
  clear hz hz1 hz2
  obtain ⟨n1, hn1⟩ : ∃ n, L.length = n := ⟨_, rfl⟩
  obtain ⟨n2, hn2⟩ : ∃ n, L'.length = n := ⟨_, rfl⟩
  obtain ⟨n3, hn3⟩ : ∃ n, S.length = n := ⟨_, rfl⟩
  obtain ⟨n4, hn4⟩ : ∃ n, S'.length = n := ⟨_, rfl⟩
  rw [hn1] at EI c0
  rw [hn2] at EI d0
  rw [hn3] at EE c1
  rw [hn4] at EE d1
  clear hn1 hn2 hn3 hn4
  cases z1 with
  | true =>
    go_enter Tryz.func13, Tryz.ntmps13
    go_wp2_with fail
    go_quiet ((first | (go_at_call 36; with_reducible exact Calls.quiet_of (EI.out _)) | (go_at_call 37; with_reducible exact Calls.quiet_of (EE.out _))))
    go_wp2_with fail
    go_ret
    exact ⟨rfl, _, rfl⟩
  | false =>
    go_enter Tryz.func13, Tryz.ntmps13
    go_wp2_with fail
    go_quiet ((first | (go_at_call 36; with_reducible exact Calls.quiet_of (EI.out _)) | (go_at_call 37; with_reducible exact Calls.quiet_of (EE.out _))))
    go_wp2_with fail
    go_ret
    exact ⟨rfl, _, rfl⟩
set_option maxRecDepth 100000 in
theorem same_nil1 (v : Nat) (w : World) : Calls Tryz.prog 13 #[.pointer (some ⟨v, 0, none⟩), .pointer none] w fun e w' => e = .returned (.bool false) ∧ w' = w := by
  go_enter Tryz.func13, Tryz.ntmps13
  go_wp2_with fail
  go_ret
  exact ⟨rfl, rfl⟩
set_option maxRecDepth 100000 in
theorem same_nil2 (w : World) : Calls Tryz.prog 13 #[.pointer none, .pointer none] w fun e w' => e = .returned (.bool true) ∧ w' = w := by
  go_enter Tryz.func13, Tryz.ntmps13
  go_wp2_with fail
  go_ret
  exact ⟨rfl, rfl⟩
end

section
open Go.RowKit
section
variable {w : World} {base g : Nat} {L : List Int} {S : List (Int × Int)}

end
end

section
open Go.RowKit
/-- Two results: an edge that lies in a box, and a value. -/
theorem results_edge2 {fn : Func} {p q : Tmp} (h : fn.results = #[.cell p 64, .tmp q]) (tmps : Array Value) (w : World) (g : Nat) (x y v : Value) (hp : tmps.getD p undef = .pointer (some ⟨g, 0, none⟩)) (hq : tmps.getD q undef = v) (hc : Whole w g 64 #[x, y]) :
    (results fn tmps).run Tryz.prog w = .ok (.tuple #[.agg #[x, y], v]) w := by
  have hp' : tmps[p]?.getD undef = .pointer (some ⟨g, 0, none⟩) := by simpa using hp
  have hq' : tmps[q]?.getD undef = v := by simpa using hq
  have c0 : w.cell? ⟨g, 0, none⟩ = some x := hc.cell 0
  have c1 : w.cell? ⟨g, 1, none⟩ = some y := hc.cell 1
  simp [results, h, hp', hq', asAddr, loadVar, go_sem, c0, c1]

section
variable {w : World} {base g : Nat} {L : List Int} {S : List (Int × Int)}

set_option maxRecDepth 100000 in
set_option maxHeartbeats 1000000 in
theorem edge_no (m : Nat) (v : Int) (p : Value) (w : World) (hl : ∀ W, Below w.heap.size w W → Calls Tryz.prog 23 #[p] W fun e w' => e = .returned (.int .i64 m) ∧ w' = W) (hv : hasV m v = false) :
    Calls Tryz.prog 32 #[p, .int .i64 v] w fun e w' => e = .returned (.tuple #[.agg #[.int .i64 0, .int .i64 0], .bool false]) ∧ Below w.heap.size w w' := by
  have hb : Below w.heap.size w (w.alloc (.cells #[.int .i64 0, .int .i64 0] 64)) := (Below.refl _ _).alloc (Nat.le_refl _) _
  have HL := Lib.hid (hl _ hb)
  have HW := Lib.hid (Whole.new w 64 #[.int .i64 0, .int .i64 0])
  have HB := Lib.hid hb
  have hc : decide (v < 0) = true ∨ (decide (v < 0) = false ∧ decide ((m : Int) ≤ v) = true) := by
    simp [hasV] at hv
    simp; omega
  clear hl hv hb
  rcases hc with t1 | ⟨t1, t2⟩
  · go_enter Tryz.func32, Tryz.ntmps32
    go_wp2_with fail
    exact bodyPost_ret (results_edge2 rfl _ _ _ _ _ _ rfl rfl HW.out) rfl ⟨rfl, HB.out⟩
  · go_enter Tryz.func32, Tryz.ntmps32
    go_wp2_with fail
    refine HL.out.mono ?_; rintro e w1 ⟨rfl, hw⟩; obtain rfl := hw.symm
    go_wp2_with fail
    exact bodyPost_ret (results_edge2 rfl _ _ _ _ _ _ rfl rfl HW.out) rfl ⟨rfl, HB.out⟩
set_option maxRecDepth 100000 in
set_option maxHeartbeats 1000000 in
theorem edge_ok (h : GraphOwn w base g L S) {v : Nat} (hv : v < S.length) :
    Calls Tryz.prog 32 #[.pointer (some ⟨g, 0, none⟩), .int .i64 v] w fun e w' => e = .returned (.tuple #[edgeV (S.getD v (0, 0)), .bool true]) ∧ Below w.heap.size w w' := by
  have hb : ∀ cs, Below w.heap.size w (w.alloc (.cells cs 64)) := fun cs => (Below.refl _ _).alloc (Nat.le_refl _) _
  have HL := Lib.hid (size_any (h.below (hb #[.int .i64 0, .int .i64 0]) (Nat.le_refl _)))
  obtain ⟨A, c, eb, nb, ab, us, h1, h2, h3, _⟩ := h
  have hgl : g < w.heap.size := h1.lt
  have hel : eb < w.heap.size := h3.lt
  have c0 : w.cell? ⟨g, 1, none⟩ = some (.slice (some ⟨eb, 0, none⟩) S.length S.length) := h1.cell 1
  have d0 : w.cell? ⟨eb, v * 2, none⟩ = some (.int .i64 (S.getD v (0, 0)).1) := by rw [h3.cell]; exact (ecells_at hv).1
  have d1 : w.cell? ⟨eb, v * 2 + 1, none⟩ = some (.int .i64 (S.getD v (0, 0)).2) := by rw [h3.cell]; exact (ecells_at hv).2
  unfold edgeV
  obtain ⟨x, hx⟩ : ∃ x, (S.getD v (0, 0)).1 = x := ⟨_, rfl⟩
  obtain ⟨y, hy⟩ : ∃ y, (S.getD v (0, 0)).2 = y := ⟨_, rfl⟩
  rw [hx] at d0 ⊢
  rw [hy] at d1 ⊢
  have HW := Lib.hid (Whole.new w 64 #[.int .i64 x, .int .i64 y])
  have HB := Lib.hid (hb #[.int .i64 x, .int .i64 y])
  obtain ⟨m, hm⟩ : ∃ m, S.length = m := ⟨_, rfl⟩
  rw [hm] at c0 hv HL
  have i1 : (v : Int) < m := by omega
  have i2 : (0 : Int) ≤ v := by omega
  have t1 : decide ((v : Int) < 0) = false := decide_eq_false (by omega)
  have t2 : decide ((m : Int) ≤ v) = false := decide_eq_false (by omega)
  have t2' : decide (m ≤ v) = false := decide_eq_false (by omega)
  clear h1 h2 h3 hx hy hm hb
  go_enter Tryz.func32, Tryz.ntmps32
  go_wp2_with fail
  refine HL.out.mono ?_; rintro e w1 ⟨rfl, hw⟩; obtain rfl := hw.symm
  go_wp2_with fail
  exact bodyPost_ret (results_edge2 rfl _ _ _ _ _ _ rfl rfl HW.out) rfl ⟨rfl, HB.out⟩
end
end

section
/-- The first i of a list's edges, begun later and turned. -/
def rot (E : List (Int × Int)) (b i : Nat) : List (Int × Int) := (List.range i).map fun (t : Nat) => ((E.getD ((t + b) % E.length) (0, 0)).2, (E.getD ((t + b) % E.length) (0, 0)).1)
theorem rot_len (E : List (Int × Int)) (b i : Nat) : (rot E b i).length = i := by simp [rot]
theorem rot_succ (E : List (Int × Int)) (b i : Nat) : rot E b (i + 1) = rot E b i ++ [((E.getD ((i + b) % E.length) (0, 0)).2, (E.getD ((i + b) % E.length) (0, 0)).1)] := by
  unfold rot
  rw [List.range_succ, List.map_append]
  rfl
theorem rot_list {E : List (Int × Int)} (b : Nat) (h0 : 0 < E.length) : (rot E b E.length).map ris = (E.map ris).drop (b % E.length) ++ (E.map ris).take (b % E.length) := by
  obtain ⟨m, hm⟩ : ∃ m, E.length = m := ⟨_, rfl⟩
  rw [hm] at h0 ⊢
  have hr : b % m < m := Nat.mod_lt _ h0
  obtain ⟨r, hrr⟩ : ∃ r, b % m = r := ⟨_, rfl⟩
  rw [hrr] at hr ⊢
  apply List.ext_getElem
  · simp [rot_len, hm]; omega
  · intro t h1 h2
    have ht : t < m := by simpa [rot_len] using h1
    have hmod : (t + b) % m = if t + r < m then t + r else t + r - m := by
      rw [Nat.add_mod, Nat.mod_eq_of_lt ht, hrr]
      split
      · exact Nat.mod_eq_of_lt (by omega)
      · rw [Nat.mod_eq_sub_mod (by omega), Nat.mod_eq_of_lt (by omega)]
    have e1 : ((rot E b m).map ris)[t]'h1 = ris (E.getD ((t + b) % m) (0, 0)) := by
      rw [List.getElem_map]
      unfold rot
      rw [List.getElem_map, List.getElem_range, ris_comm, hm]
    rw [e1, hmod]
    by_cases h : t + r < m
    · rw [if_pos h, List.getElem_append_left (by simp [hm]; omega), List.getElem_drop, List.getElem_map]
      congr 1
      simp [List.getD, show t + r < E.length by omega, Nat.add_comm r t]
    · rw [if_neg h, List.getElem_append_right (by simp [hm]; omega), List.getElem_take, List.getElem_map]
      congr 1
      have e2 : t - ((E.map ris).drop r).length = t + r - m := by simp [hm]; omega
      simp only [e2]
      simp [List.getD, show t + r - m < E.length by omega]
theorem rot_perm (E : List (Int × Int)) (b : Nat) : ((rot E b E.length).map ris).Perm (E.map ris) := by
  rcases Nat.eq_zero_or_pos E.length with h | h
  · have : E = [] := List.eq_nil_of_length_eq_zero h
    subst this
    exact List.Perm.refl _
  · rw [rot_list b h]
    have := List.perm_append_comm (l₁ := (E.map ris).drop (b % E.length)) (l₂ := (E.map ris).take (b % E.length))
    rwa [List.take_append_drop] at this
theorem good_perm {n : Int} {E F : List (Int × Int)} (h : Good n E) (hp : (F.map ris).Perm (E.map ris)) : Good n F := by
  refine ⟨hp.nodup_iff.2 h.1, fun e he => ?_⟩
  have hm := hp.mem_iff.1 (List.mem_map_of_mem (f := ris) he)
  obtain ⟨d, hd, hde⟩ := List.mem_map.1 hm
  have := h.2 d hd
  unfold ris at hde
  have h1 := congrArg Prod.fst hde
  have h2 := congrArg Prod.snd hde
  simp only at h1 h2
  omega
theorem sort_perm {E F : List (Int × Int)} {n : Int} (h : Good n E) (hp : (F.map ris).Perm (E.map ris)) : sortE F = sortE E :=
  risingE_eq (sortE_rising _ F rfl (hp.nodup_iff.2 h.1)) (sortE_rising _ E rfl h.1) ((sortE_perm _ F rfl).trans (hp.trans (sortE_perm _ E rfl).symm))
theorem good_more {n : Int} {E : List (Int × Int)} (h : Good n E) : Good (n + 1) E := ⟨h.1, fun e he => by have := h.2 e he; omega⟩
theorem fault_rot {L : List Int} {E : List (Int × Int)} (h : newFault L E = none) (b : Nat) : newFault L (rot E b E.length) = none ∧ sortE (rot E b E.length) = sortE E := by
  have hg := newFault_none.1 h
  exact ⟨newFault_none.2 ⟨hg.1, by rw [rot_len]; exact hg.2.1, hg.2.2.1, good_perm hg.2.2.2 (rot_perm E b)⟩, sort_perm hg.2.2.2 (rot_perm E b)⟩
theorem fault_more {L : List Int} {E : List (Int × Int)} (h : newFault L E = none) (hl : L.length ≤ 4000) : newFault (L ++ [7]) E = none := by
  have hg := newFault_none.1 h
  refine newFault_none.2 ⟨by simp; omega, hg.2.1, fun x hx => ?_, by rw [List.length_append]; exact good_more hg.2.2.2⟩
  rcases List.mem_append.1 hx with hx | hx
  · exact hg.2.2.1 x hx
  · have : x = 7 := by simpa using hx
    omega
theorem rot_in64 {E : List (Int × Int)} (b i : Nat) (h : ∀ e, e ∈ E → In64 e.1 ∧ In64 e.2) : ∀ e, e ∈ rot E b i → In64 e.1 ∧ In64 e.2 := by
  intro e he
  obtain ⟨t, _, rfl⟩ := List.mem_map.1 he
  have hz : In64 0 := by unfold In64; omega
  have key : ∀ j, In64 (E.getD j (0, 0)).1 ∧ In64 (E.getD j (0, 0)).2 := fun j => by
    rcases Nat.lt_or_ge j E.length with hj | hj
    · rw [show E.getD j (0, 0) = E[j] by simp [List.getD, hj]]
      exact h _ (List.getElem_mem hj)
    · rw [show E.getD j (0, 0) = (0, 0) by simp [List.getD, List.getElem?_eq_none hj]]
      exact ⟨hz, hz⟩
  exact ⟨(key _).2, (key _).1⟩
end
end Go.Proofs.YtnjkjgmnnmgngaaGreatDoor
