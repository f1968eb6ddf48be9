/- fretworklaw06.alive. -/
import Derived.Test.YtocpjmjlmccolaaPicks2
namespace Go.Proofs.Ytocpjmjlmccolaa
open Go.RowKit
attribute [local go_sem] Oper.semAt_some

/-- A result of one bool that lies in a cell. -/
theorem results_bool {fn : Func} {p : Tmp} (h : fn.results = #[.cell p 4]) (tmps : Array Value) (w : World) (g : Nat) (v : Value) (hp : tmps.getD p undef = .pointer (some ⟨g, 0, none⟩)) (hc : Whole w g 4 #[v]) :
    (results fn tmps).run Try.prog w = .ok v w := by
  have hp' : tmps[p]?.getD undef = .pointer (some ⟨g, 0, none⟩) := by simpa using hp
  have hcell := hc.cell 0
  have hcell' : w.cell? ⟨g, 0, none⟩ = some v := hcell
  simp [results, h, hp', asAddr, loadVar, go_sem, hcell']

/-- Between two rounds of alive's loop. -/
def Alive6 (w : World) (Bn : Nat) (_g k : Nat) (W : World) : Prop :=
  Whole W w.heap.size 4 #[.bool false] ∧ Whole W Bn 3 #[.int .i64 k] ∧ Below w.heap.size w W
theorem Alive6.kept {w : World} {Bn g k r : Nat} {A A' : World} (h : Alive6 w Bn g k A) (hg : A.grownBy A' (some r)) (h1 : w.heap.size < r) (h2 : Bn < r) : Alive6 w Bn g k A' :=
  ⟨h.1.grown hg (by simp; omega), h.2.1.grown hg (by simp; omega), h.2.2.grown hg h.2.2.size (fun j hj => by cases hj; omega)⟩

def l146 : List Int := [1, 4, 6]

set_option maxRecDepth 100000 in
set_option maxHeartbeats 4000000 in
theorem alive6_ok (w : World) : Calls Try.prog 8 #[] w fun e w' => e = .returned (.bool true) ∧ Below w.heap.size w w' := by
  refine (callsIn_wide (n := 6)).1 ?_
  refine callsIn_of_wp_marks Try.func8 rfl trivial ?_ rfl
  simp only [Try.ntmps8, List.size_toArray, List.length_nil, Nat.reduceSub, Array.replicate_succ, Array.replicate_zero, List.push_toArray, List.append_toArray, List.nil_append, List.cons_append]
  obtain ⟨w2, hw2⟩ : ∃ W, (w.alloc (.cells #[.bool false] 4)).alloc (.cells #[.int .i64 2, .int .i64 2] 3) = W := ⟨_, rfl⟩
  have hb2 : Below w.heap.size w w2 := by rw [← hw2]; exact ((Below.refl _ _).alloc (Nat.le_refl _) _).alloc (by simp) _
  have hr2 : Whole w2 w.heap.size 4 #[.bool false] := by rw [← hw2]; exact (Whole.new w _ _).alloc _
  have hl2 : Whole w2 (w.heap.size + 1) 3 #[.int .i64 2, .int .i64 2] := by
    rw [← hw2]
    have := Whole.new (w.alloc (.cells #[.bool false] 4)) 3 #[.int .i64 2, .int .i64 2]
    rwa [World.size_alloc] at this
  have O1 := of_any [2, 2] (.slice (some ⟨w.heap.size + 1, 0, none⟩) 2 2) w2 (Or.inr ⟨by decide, w.heap.size + 1, 0, 2, rfl, fun i hi => by
    have h1 := hl2.cell i
    rw [Nat.zero_add, h1]
    match i, hi with
    | 0, _ => rfl
    | 1, _ => rfl⟩) (by decide)
  have HO1 := Lib.hid O1; have HB2 := Lib.hid hb2; have HR2 := Lib.hid hr2
  clear O1 hl2 hb2 hr2
  gi_wp2_with fail
  try rw [hw2]
  clear hw2
  refine ⟨trivial, ?_⟩
  refine (callsIn_wide.2 HO1.out).mono ?_
  rintro e w3 ⟨v3, rfl, hs3, hb3⟩
  have h22 : ofR [2, 2] = [2] := by decide
  rw [h22] at hs3
  obtain ⟨_, A3, c3, rfl, _⟩ := hs3
  have hb3' : Below w.heap.size w w3 := HB2.out.trans (hb3.mono HB2.out.size)
  have hr3 : Whole w3 w.heap.size 4 #[.bool false] := HR2.out.below hb3 HR2.out.lt
  have hbx : Below w.heap.size w (w3.alloc (.cells #[.int .i64 0] 3)) := hb3'.alloc hb3'.size _
  obtain ⟨w5, hw5⟩ : ∃ W, (w3.alloc (.cells #[.int .i64 0] 3)).alloc (.cells #[.int .i64 1, .int .i64 4, .int .i64 6] 3) = W := ⟨_, rfl⟩
  have hb5 : Below w.heap.size w w5 := by rw [← hw5]; exact hbx.alloc hbx.size _
  have hr5 : Whole w5 w.heap.size 4 #[.bool false] := by rw [← hw5]; exact (hr3.alloc _).alloc _
  have hn5 : Whole w5 w3.heap.size 3 #[.int .i64 0] := by rw [← hw5]; exact (Whole.new w3 _ _).alloc _
  have hl5 : Whole w5 (w3.heap.size + 1) 3 #[.int .i64 1, .int .i64 4, .int .i64 6] := by
    rw [← hw5]
    have := Whole.new (w3.alloc (.cells #[.int .i64 0] 3)) 3 #[.int .i64 1, .int .i64 4, .int .i64 6]
    rwa [World.size_alloc] at this
  have hBw : w.heap.size < w3.heap.size := hr3.lt
  have P1 := picks_any l146 2 (.slice (some ⟨w3.heap.size + 1, 0, none⟩) 3 3) w5 (Or.inr ⟨by decide, w3.heap.size + 1, 0, 3, rfl, fun i hi => by
    have h1 := hl5.cell i
    rw [Nat.zero_add, h1]
    match i, hi with
    | 0, _ => rfl
    | 1, _ => rfl
    | 2, _ => rfl⟩) (by decide)
  have HP1 := Lib.hid P1; have HB5 := Lib.hid hb5; have HR5 := Lib.hid hr5; have HN5 := Lib.hid hn5; have HW5 := Lib.hid hw5
  clear P1 hb5 hr5 hn5 hl5 hb3' hr3 hb3 h22 hw5 hbx
  gi_wp2_with fail
  rw [HW5.out]
  clear HW5
  refine ⟨trivial, ?_⟩
  refine (callsIn_wide.2 HP1.out).mono ?_
  rintro e w6 ⟨Bk, Bo, v6, rfl, hk6, ho6, hs6, hBk, hBo, hfar, hb6⟩
  obtain ⟨Bn, hBn⟩ : ∃ n, w3.heap.size = n := ⟨_, rfl⟩
  have hB6 : Below w.heap.size w w6 := HB5.out.trans (hb6.mono HB5.out.size)
  have hI0 : ∀ g, w6.heap.size + 2 ≤ g → Alive6 w Bn g 0 w6 := fun g _ => ⟨HR5.out.below hb6 HR5.out.lt, by rw [← hBn]; exact HN5.out.below hb6 HN5.out.lt, hB6⟩
  have hit := picks_iter 3 2 (fun i => l146.getD i 0) v6 Bk Bo w6 (by decide) (by decide) hk6 ho6 hs6
  have hBnl : Bn < w5.heap.size := by rw [← hBn]; exact HN5.out.lt
  have h56 := hb6.size
  have hcp : ∀ b, CpOf Bk Bo 3 v6 b → w5.heap.size ≤ b ∧ b < w6.heap.size := by
    intro b hb
    rcases hb with rfl | rfl | ⟨_, h⟩
    · exact ⟨hBk, World.block_lt_of_cell? _ _ hk6⟩
    · exact ⟨hBo, World.block_lt_of_cell? _ _ ho6⟩
    · refine ⟨hfar b h, ?_⟩
      rcases hs6 with ⟨h0, _⟩ | ⟨_, b', off, c', rfl, hx⟩
      · exact absurd h0 (by decide)
      · have e : b' = b := by simpa [Value.ownBlock] using h
        subst e
        exact World.block_lt_of_cell? _ _ (hx 0 (by decide))
  have HIT := Lib.hid hit; have HI0 := Lib.hid hI0; have HCP := Lib.hid hcp
  rw [hBn] at hBw ⊢
  clear hit hI0 hcp hk6 ho6 hs6 hBk hBo hfar hb6 hB6 hBn HN5 HR5 HB5 HP1 HO1 HB2 HR2
  gi_wp2_with fail
  refine wpIn_wide.2 (range_ints (gf := 34) (lb := #[.pointer (some ⟨Bk, 0, none⟩), .pointer (some ⟨Bo, 0, none⟩)]) rfl (enters_of Try.func34 (by kernel_rfl) rfl) HIT.out (fun b hb => (HCP.out b hb).2) rfl
    (fun g k W => Alive6 w Bn g k W) (fun _ _ _ _ => False)
    (fun g k A A' r hg hr h hgr => h.kept hgr (by omega) (by omega)) (fun _ _ _ _ _ _ _ _ h _ => h) HI0.out ?a1 ?assign ?body ?done ?stop)
  case assign =>
    intro l v W K hK
    gi_wp2
    exact hK
  case body =>
    rintro l g k v W hg hk ⟨h1, h2, h3⟩ hsz _ hrow hne
    have hN : (picksOf (fun i => l146.getD i 0) 3 2).length = 3 := by decide
    rw [hN] at hk
    have hf := h2.free 0
    have hst : ∀ u, W.heap.size ≤ (W.setCell ⟨Bn, 0, none⟩ u).heap.size ∧ ∀ b, (b = w6.heap.size ∨ b = w6.heap.size + 1 ∨ b = g ∨ CpOf Bk Bo 3 v6 b) → (W.setCell ⟨Bn, 0, none⟩ u).heap[b]? = W.heap[b]? := fun u => ⟨by simp [World.setCell], fun b hb => Below.heap_setCell W _ u b (by
      rcases hb with rfl | rfl | rfl | h
      · simp; omega
      · simp; omega
      · simp; omega
      · have := (HCP.out b h).1; simp; omega)⟩
    have hI1 : ∀ j : Nat, Alive6 w Bn g j (W.setCell ⟨Bn, 0, none⟩ (.int .i64 j)) := fun j => ⟨h1.other (by simp; omega) _, h2.put 0 _, h3.setCell (by simp; omega) _⟩
    have HST := Lib.hid hst; have HI1 := Lib.hid hI1
    clear hst hI1
    rcases (by omega : k = 0 ∨ k = 1 ∨ k = 2) with rfl | rfl | rfl
    · have c1 : W.cell? ⟨Bn, 0, none⟩ = some (.int .i64 0) := h2.cell 0
      clear h1 h2 h3 hrow
      gi_wp2
      exact ⟨HST.out _, HI1.out 1⟩
    · have c1 : W.cell? ⟨Bn, 0, none⟩ = some (.int .i64 1) := h2.cell 0
      have hL : (picksOf (fun i => l146.getD i 0) 3 2).getD 1 [] = [1, 6] := by decide
      rw [hL] at hrow
      rcases hrow.2 with ⟨_, h0⟩ | ⟨b, cap, cur, rfl, _⟩
      · cases h0
      have c2 : W.cell? ⟨b, 0, none⟩ = some (.int .i64 1) := hrow.cellAt 0 (by decide)
      have c3 : W.cell? ⟨b, 1, none⟩ = some (.int .i64 6) := hrow.cellAt 1 (by decide)
      clear h1 h2 h3 hrow
      gi_wp2
      exact ⟨HST.out _, HI1.out 2⟩
    · have c1 : W.cell? ⟨Bn, 0, none⟩ = some (.int .i64 2) := h2.cell 0
      clear h1 h2 h3 hrow
      gi_wp2
      exact ⟨HST.out _, HI1.out 3⟩
  case done =>
    rintro g W hg ⟨h1, h2, h3⟩ hD
    have c1 : W.cell? ⟨Bn, 0, none⟩ = some (.int .i64 3) := h2.cell 0
    have c2 : W.cell? ⟨w.heap.size, 0, none⟩ = some (.bool false) := h1.cell 0
    have f2 := h1.free 0
    have HR : Hid (Whole (W.setCell ⟨w.heap.size, 0, none⟩ (.bool true)) w.heap.size 4 #[.bool true]) := Lib.hid (h1.put 0 _)
    have HD : Hid ((W.setCell ⟨w.heap.size, 0, none⟩ (.bool true)).heap[w6.heap.size]? = some (.deferred (some []))) := Lib.hid ((Below.heap_setCell W _ _ _ (by simp; omega)).trans hD)
    have HB : Hid (Below w.heap.size w (W.setCell ⟨w.heap.size, 0, none⟩ (.bool true))) := Lib.hid (h3.setCell (by simp) _)
    clear h1 h2 h3 hD
    gi_wp2
    refine ⟨by simp, .inl ⟨_, _, rfl, run_takeDeferred HD.out, ?_⟩⟩
    have hres := HR.out.grown (grownBy_putObj' _ w6.heap.size (.deferred none)) (by simp; omega)
    exact ⟨_, results_bool rfl _ _ _ _ rfl hres, rfl, HB.out.grown (grownBy_putObj' _ w6.heap.size (.deferred none)) HB.out.size (fun j hj => by cases hj; omega)⟩
  case stop =>
    rintro c g k W _ _ _ h _
    exact h.elim
end Go.Proofs.Ytocpjmjlmccolaa
