/- slices.AppendSeq, Collect, SortedFunc over the keys of a set of links. -/
import Derived.Test.YtcmocigckcjdjaaGreatDoorKeysL13
import Derived.Test.YtcmocigckcjdjaaGreatDoorCmpL13
import Derived.RangeFuncLeaves
namespace Go.Proofs.YtcmocigckcjdjaaGreatDoor
open Go.RowKit
attribute [local go_sem] Oper.semAt_some

theorem infoL13 : (Tryz.prog.info? 94).map (fun i => (i.zero, i.size, i.bytes)) = some (some (.agg #[.int .i64 0, .int .i64 0]), 2, 16) := by kernel_rfl
/-- The cells of edges, one behind the other. -/
def eL : List (Int × Int) → List Value
  | [] => []
  | e :: t => .int .i64 e.1 :: .int .i64 e.2 :: eL t
theorem eL_len : ∀ E : List (Int × Int), (eL E).length = E.length * 2
  | [] => rfl
  | e :: t => by simp [eL, eL_len t]; omega
theorem eL_app : ∀ E F : List (Int × Int), eL (E ++ F) = eL E ++ eL F
  | [], F => rfl
  | e :: t, F => by simp [eL, eL_app t F]
theorem eL_at : ∀ (E : List (Int × Int)) (i : Nat), i < E.length → (eL E)[i * 2]? = some (.int .i64 (E.getD i (0, 0)).1) ∧ (eL E)[i * 2 + 1]? = some (.int .i64 (E.getD i (0, 0)).2)
  | [], i, h => by simp at h
  | e :: t, 0, _ => by simp [eL]
  | e :: t, i + 1, h => by
    have := eL_at t i (by simpa using h)
    rw [show (i + 1) * 2 = i * 2 + 1 + 1 by omega]
    simp only [eL, List.getElem?_cons_succ, List.getD_cons_succ]
    exact this
theorem eL_one : ∀ (E : List (Int × Int)) (y : Value), y ∈ eL E → y.oneCell' = true
  | [], y, h => by simp [eL] at h
  | e :: t, y, h => by
    simp only [eL, List.mem_cons] at h
    rcases h with rfl | rfl | h
    · rfl
    · rfl
    · exact eL_one t y h

theorem own_notcells {w : World} {base e size n r : Nat} {v : Value} {xs : List Value} (h : w.ownsRow base e size v n xs) (hn : NotCells w r) : v.ownBlock = none ∨ v.ownBlock ≠ some r := by
  rcases h.2 with ⟨rfl, _⟩ | ⟨g, cap, cur, rfl, _, hh, _⟩
  · exact Or.inl rfl
  · refine Or.inr (fun he => ?_)
    have e1 : g = r := by simpa [Value.ownBlock] using he
    subst e1
    exact hn _ _ _ hh
/-- What has come, in a box's slice. -/
def BoxL (w0 : World) (pre : List (Int × Int)) (A : World) : Prop :=
  ∃ v, Whole A w0.heap.size 95 #[v] ∧ A.ownsRow w0.heap.size 94 2 v pre.length (eL pre) ∧ Below w0.heap.size w0 A
theorem BoxL.kept {w0 A A' : World} {pre : List (Int × Int)} {row : Option Nat} (h : BoxL w0 pre A) (hg : A.grownBy A' row) (hr : ∀ r, row = some r → w0.heap.size ≤ r ∧ NotCells A r) : BoxL w0 pre A' := by
  obtain ⟨v, hw, ho, hb⟩ := h
  have hbox : some w0.heap.size ≠ row := fun e => (hr _ e.symm).2 _ _ _ hw
  refine ⟨v, hw.grown hg hbox, ?_, hb.grown hg hb.size (fun k e => (hr k e).1)⟩
  cases row with
  | none =>
    exact ho.kept hg (by
      cases hv : v.ownBlock with
      | none => exact Or.inl rfl
      | some g => exact Or.inr (by simp))
  | some r => exact ho.kept hg (own_notcells ho (hr r rfl).2)
theorem kw_below {W W' : World} (h : Below W.heap.size W W') : KeepsWalks W W' := ⟨h.size, fun k _ hk _ => (h.block k (Array.getElem?_eq_some_iff.1 hk).1).trans hk⟩
theorem kw_grown {W W' : World} {v : Value} {base e size n : Nat} {xs : List Value} (ho : W.ownsRow base e size v n xs) (hg : W.grownBy W' v.ownBlock) : KeepsWalks W W' :=
  KeepsWalks.of_grownBy hg (fun j o hj ho' => by
    rcases ho.2 with ⟨rfl, _⟩ | ⟨g, cap, cur, rfl, _, hh, _⟩
    · cases hj
    · have e1 : g = j := by simpa [Value.ownBlock] using hj
      subst e1
      rw [hh] at ho'
      injection ho' with ho'
      subst ho'
      rfl)

set_option maxRecDepth 100000 in
set_option maxHeartbeats 1000000 in
theorem appSeqL {gf : Nat} {lb : Array Value} {S : List (Int × Int) → Prop} {N : Nat} {w : World} (eg : ∀ args w, (callFunc gf args).run Tryz.prog w = .ok (.enter gf args) w) (hN : N ≤ 1000000) (hseq : SeqGives Fence.wide 3 Tryz.prog gf lb edgeV S N w) :
    Calls Tryz.prog 99 #[.slice none 0 0, .func (.func gf) #[] lb] w fun e w' => ∃ (v : Value) (ss : List (Int × Int)), e = .returned v ∧ S ss ∧ ss.length ≤ N ∧ w'.ownsRow w.heap.size 94 2 v ss.length (eL ss) ∧ Below w.heap.size w w' := by
  obtain ⟨i0, hi, hz0, hz1, hz2⟩ := info_parts infoL13
  have hb0 : Below w.heap.size w (w.alloc (.cells #[.slice none 0 0] 95)) := (Below.refl _ _).alloc (Nat.le_refl _) _
  have HSEQ := Lib.hid (hseq.later hb0)
  have HI0 : Hid (BoxL w [] (w.alloc (.cells #[.slice none 0 0] 95))) := Lib.hid ⟨_, Whole.new _ _ _, World.ownsRow_nil _ _ _ _, hb0⟩
  clear hseq hb0
  refine (callsIn_wide (n := 6)).1 ?_
  refine callsIn_of_wp_marks Tryz.func99 rfl trivial ?_ rfl
  simp only [Tryz.ntmps99, List.size_toArray, List.length_cons, List.length_nil, Nat.reduceAdd, Nat.reduceSub, Array.replicate_succ, Array.replicate_zero, List.push_toArray, List.append_toArray, List.nil_append, List.cons_append]
  refine wpIn_wide.2 ?_
  obtain ⟨w1, hw1⟩ : ∃ W, w.alloc (.cells #[.slice none 0 0] 95) = W := ⟨_, rfl⟩
  have hs1 : w1.heap.size = w.heap.size + 1 := by rw [← hw1]; simp
  rw [hw1] at HSEQ HI0
  have HW1 := Lib.hid hw1; have HS1 := Lib.hid hs1
  clear hw1 hs1
  go_wp2_with fail
  rw [HW1.out]
  refine range_seq (gf := gf) (lb := lb) (enc := edgeV) rfl eg HSEQ.out rfl (fun pre A => BoxL w pre A ∧ pre.length ≤ N)
    (fun pre A A' row h hg hr => ⟨h.1.kept hg (fun r e => ⟨by have := (hr r e).1; have := HS1.out; omega, (hr r e).2⟩), h.2⟩) ⟨HI0.out, Nat.zero_le _⟩ ?a1 (fun x W => W.alloc (.cells #[.int .i64 x.1, .int .i64 x.2] 94)) (fun x W => World.grownBy_alloc W _ none) ?assign ?body ?done
  case assign =>
    intro l x W K hK
    unfold edgeV
    gi_wp2
    exact hK
  case body =>
    rintro l pre x W W2 ⟨⟨v, hbox, hown, hbel⟩, _⟩ hlen hsz hgr hnc
    have HNC := Lib.hid hnc
    clear hnc
    have hxl : Whole W2 W.heap.size 94 #[.int .i64 x.1, .int .i64 x.2] := (Whole.new W 94 #[.int .i64 x.1, .int .i64 x.2]).grown hgr (fun e => by injection e with e; omega)
    have c0 : W2.cell? ⟨w.heap.size, 0, none⟩ = some v := hbox.cell 0
    have c1 : W2.cell? ⟨W.heap.size, 0, none⟩ = some (.int .i64 x.1) := hxl.cell 0
    have c2 : W2.cell? ⟨W.heap.size, 1, none⟩ = some (.int .i64 x.2) := hxl.cell 1
    have hbs := hbel.size
    obtain ⟨p, hp⟩ : ∃ p, pre.length = p := ⟨_, rfl⟩
    rw [hp] at hown hlen
    have HBOX := Lib.hid hbox; have HOWN := Lib.hid hown; have HBEL := Lib.hid hbel; have HP := Lib.hid hp; have HLEN := Lib.hid hlen
    have hbl := hbox.lt
    have hWl := hxl.lt
    clear hgr hbox hxl hbel hp
    obtain ⟨A, c, rfl⟩ := own_form hown
    clear hown
    gi_wp2_with (gi_at_builtin; refine wpListIn_append_own _ rfl _ _ 95 rfl w.heap.size 94 i0 (.agg #[.int .i64 0, .int .i64 0]) 2 16 Tryz.underlying95 hi hz0 hz1 hz2 rfl (by decide) _ p _ rfl (HOWN.out.alloc _) ⟨W2.heap.size, 0, none⟩ 1 1 [.int .i64 x.1, .int .i64 x.2] rfl rfl ?_ (by simp [Value.oneCell']) (by unfold maxLen; omega) (by omega) (by simp; omega) ?_)
    · intro j u hj
      match j, hj with
      | 0, hj => simp at hj; subst hj; simp [Addr.add]
      | 1, hj => simp at hj; subst hj; simp [Addr.add]
    · intro v' w3 hown' hg3 _
      obtain ⟨A', c', rfl⟩ := own_form hown'
      have hg3' : W2.grownBy w3 (Value.slice A p c).ownBlock := grown_of_alloc hg3
      have hbox3 := HBOX.out.grown hg3' (fun e => own_ne HOWN.out HBOX.out (by decide) e.symm)
      have f3 := hbox3.free 0
      have c3 : w3.cell? ⟨w.heap.size, 0, none⟩ = some (.slice A p c) := hbox3.cell 0
      have hne := own_ne hown' hbox3 (by decide)
      have e1 : eL (pre ++ [x]) = eL pre ++ [.int .i64 x.1, .int .i64 x.2] := by rw [eL_app]; rfl
      have e2 : (pre ++ [x]).length = p + 1 := by rw [List.length_append, HP.out]; rfl
      have HF : Hid (BoxL w (pre ++ [x]) (w3.setCell ⟨w.heap.size, 0, none⟩ (.slice A' (p + 1) c'))) := Lib.hid ⟨_, hbox3.put 0 _, by rw [e1, e2]; exact own_put hown' hne _, (HBEL.out.grown hg3' hbs (fun k hk => (HOWN.out.lt k hk).1)).setCell (by simp) _⟩
      have HK : Hid (KeepsWalks W2 (w3.setCell ⟨w.heap.size, 0, none⟩ (.slice A' (p + 1) c'))) := Lib.hid ((kw_grown HOWN.out hg3').trans (KeepsWalks.setCell _ _ _))
      have HD : Hid (∀ b, (b = w1.heap.size ∨ b = w1.heap.size + 1) → (w3.setCell ⟨w.heap.size, 0, none⟩ (.slice A' (p + 1) c')).heap[b]? = W2.heap[b]?) := Lib.hid (fun b hb => by
        have hn := HNC.out b hb
        have h1 : b ≠ w.heap.size := fun e => by
          subst e
          exact hn _ _ _ HBOX.out
        rw [Below.heap_setCell _ _ _ _ h1]
        rcases Nat.lt_or_ge b W2.heap.size with h2 | h2
        · refine hg3'.block b h2 (fun e => ?_)
          rcases own_notcells HOWN.out hn with h3 | h3
          · rw [h3] at e; cases e
          · exact h3 e.symm
        · have := HS1.out
          rcases hb with rfl | rfl <;> omega)
      have HE2 := Lib.hid e2
      clear hown' hg3 hg3' hbox3 hne e1 e2
      gi_wp2_with fail
      exact ⟨⟨HK.out, HD.out⟩, HF.out, by rw [HE2.out]; omega⟩
  case done =>
    rintro xs W hS ⟨⟨v, hbox, hown, hbel⟩, hle⟩ hD
    have c0 : W.cell? ⟨w.heap.size, 0, none⟩ = some v := hbox.cell 0
    obtain ⟨A, c, rfl⟩ := own_form hown
    obtain ⟨p, hp⟩ : ∃ p, xs.length = p := ⟨_, rfl⟩
    rw [hp] at hown c0 hle
    have HOWN := Lib.hid hown; have HBEL := Lib.hid hbel; have HS := Lib.hid hS; have HP := Lib.hid hp; have HD := Lib.hid hD; have HLE := Lib.hid hle
    have hbl := hbox.lt
    clear hown hbel hS hp hD hbox hle
    go_wp2_with fail
    refine ⟨by simp, .inl ⟨_, _, rfl, run_takeDeferred HD.out, ?_⟩⟩
    have hn := NotCells.of HD.out (fun cs t f e => by cases e)
    have hg := grownBy_putObj' W w1.heap.size (.deferred none)
    refine ⟨_, results_tmp rfl _ _ _, ?_⟩
    refine ⟨.slice A p c, xs, rfl, HS.out, by rw [HP.out]; exact HLE.out, by rw [HP.out]; exact HOWN.out.kept hg (own_notcells HOWN.out hn), HBEL.out.grown hg HBEL.out.size (fun k hk => by cases hk; have := HS1.out; omega)⟩

theorem collectL {gf : Nat} {lb : Array Value} {S : List (Int × Int) → Prop} {N : Nat} {w : World} (eg : ∀ args w, (callFunc gf args).run Tryz.prog w = .ok (.enter gf args) w) (hN : N ≤ 1000000) (hseq : SeqGives Fence.wide 3 Tryz.prog gf lb edgeV S N w) :
    Calls Tryz.prog 85 #[.func (.func gf) #[] lb] w fun e w' => ∃ (v : Value) (ss : List (Int × Int)), e = .returned v ∧ S ss ∧ ss.length ≤ N ∧ w'.ownsRow w.heap.size 94 2 v ss.length (eL ss) ∧ Below w.heap.size w w' := by
  have H := Lib.hid (appSeqL eg hN hseq)
  clear hseq eg hN
  go_enter Tryz.func85, Tryz.ntmps85
  go_wp2_with fail
  refine H.out.mono ?_; rintro e w1 ⟨v, ss, rfl, h1, h2, h3, h4⟩
  obtain ⟨A, c, rfl⟩ := own_form h3
  obtain ⟨p, hp⟩ : ∃ p, ss.length = p := ⟨_, rfl⟩
  rw [hp] at h2 h3
  have H1 := Lib.hid h1; have H2 := Lib.hid h2; have H3 := Lib.hid h3; have H4 := Lib.hid h4; have HP := Lib.hid hp
  rw [hp]
  clear h1 h2 h3 h4 hp
  go_wp2_with fail
  go_ret
  exact ⟨_, ss, rfl, H1.out, by rw [HP.out]; exact H2.out, by rw [HP.out]; exact H3.out, H4.out⟩

theorem eL_ecells : ∀ S : List (Int × Int), ecells S = (eL S).toArray := by
  intro S
  apply Array.ext_getElem?
  intro k
  rcases Nat.lt_or_ge k (S.length * 2) with h | h
  · have h1 := ecells_at (S := S) (i := k / 2) (by omega)
    have h2 := eL_at S (k / 2) (by omega)
    rcases (by omega : k = k / 2 * 2 ∨ k = k / 2 * 2 + 1) with hk | hk
    · rw [hk, h1.1, List.getElem?_toArray, h2.1]
    · rw [hk, h1.2, List.getElem?_toArray, h2.2]
  · rw [Array.getElem?_eq_none (by rw [ecells_size]; omega), Array.getElem?_eq_none (by simp [eL_len]; omega)]
end Go.Proofs.YtcmocigckcjdjaaGreatDoor
