/- fault.In's loop around a new fault (made); the chapter's example (alive). -/
import Derived.Test.YtoekepfppagbdaaDoorText
namespace Go.Proofs.YtoekepfppagbdaaDoor
open Go.RowKit Go.Extern.Stop Go.Stop Go.Extern

/-- The values of a chain whose fault lies in block h and whose steps lie behind it, the innermost first. -/
def mkV (h n i : Nat) : Value := if i < n then .iface 75 (.pointer (some ⟨h + (n - i), 0, none⟩)) else .iface 32 (.pointer (some ⟨h, 0, none⟩))
theorem mkV_form (h n i : Nat) : ∃ T x, mkV h n i = .iface T x := by
  unfold mkV
  split
  · exact ⟨_, _, rfl⟩
  · exact ⟨_, _, rfl⟩
/-- m words are still to be laid around. -/
structure MadeTo (w : World) (n : Nat) (S : Nat → ByteArray) (c a : Int) (nm : ByteArray) (m : Nat) (wr : World) : Prop where
  size : wr.heap.size = w.heap.size + 1 + (n - m)
  below : Below w.heap.size w wr
  cells : wr.heap[w.heap.size]? = some (.cells #[.int .i64 c, .int .i64 a, .string nm] 36)
  steps : ∀ i, m ≤ i → i < n → wr.heap[w.heap.size + (n - i)]? = some (.cells #[.string (S i), mkV w.heap.size n (i + 1)] 77)
theorem MadeTo.err {w : World} {n : Nat} {S : Nat → ByteArray} {c a : Int} {nm : ByteArray} {wr : World} (h : MadeTo w n S c a nm 0 wr) : ErrAt wr n (mkV w.heap.size n) (fun i => w.heap.size + (n - i)) S w.heap.size c a nm := by
  refine ⟨⟨fun i hi => by simp [mkV, hi], fun i hi => ?_, fun i hi => ?_⟩, by simp [mkV], h.cells⟩
  · simp [World.cell?, h.steps i (Nat.zero_le _) hi]
  · simp [World.cell?, h.steps i (Nat.zero_le _) hi]
theorem MadeTo.next {w : World} {n : Nat} {S : Nat → ByteArray} {c a : Int} {nm : ByteArray} {m : Nat} {wr : World} (h : MadeTo w n S c a nm (m + 1) wr) (hm : m < n) : MadeTo w n S c a nm m (wr.alloc (.cells #[.string (S m), mkV w.heap.size n (m + 1)] 77)) := by
  have hs := h.size
  refine ⟨by simp; omega, h.below.alloc (by omega) _, ?_, fun i h1 h2 => ?_⟩
  · rw [Below.heap_alloc _ _ _ (by omega)]; exact h.cells
  · rcases Nat.lt_or_ge m i with h3 | h3
    · rw [Below.heap_alloc _ _ _ (by omega)]; exact h.steps i (by omega) h2
    · obtain rfl : i = m := by omega
      have e : w.heap.size + (n - i) = wr.heap.size := by omega
      rw [e, World.alloc_heap_new]

set_option maxRecDepth 100000 in
set_option maxHeartbeats 4000000 in
theorem made_any (n : Nat) (S : Nat → ByteArray) (c a : Int) (nm : ByteArray) (v : Value) (w : World) (hn : n ≤ 100000) (hs : StrsV w v n S) :
    Calls Tryd.prog 9 #[v, .int .i64 c, .int .i64 a, .string nm] w fun e w' => e = .returned (mkV w.heap.size n 0) ∧ ErrAt w' n (mkV w.heap.size n) (fun i => w.heap.size + (n - i)) S w.heap.size c a nm ∧ Below w.heap.size w w' := by
  have HS := Lib.hid hs
  have HNEW := Lib.hid (fun W => new_any c a nm W)
  obtain ⟨ao, cap, rfl⟩ := hs.form
  clear hs
  go_enter Tryd.func9, Tryd.ntmps9
  go_wp2_with (go_at_call 20; fail)
  refine (HNEW.out _).mono ?_; rintro e w1 ⟨rfl, hw1⟩
  have hst : MadeTo w n S c a nm n w1 := by
    rw [← hw1]
    exact ⟨by simp, (Below.refl _ _).alloc (Nat.le_refl _) _, World.alloc_heap_new _ _, fun i h1 h2 => by omega⟩
  have HST := Lib.hid hst
  clear hst hw1
  go_wp2_with fail
  go_loopg [9, 10] n (fun g u x wr => g ≤ n ∧ u = mkV w.heap.size n g ∧ x = .int .i64 ((g : Int) - 1) ∧ MadeTo w n S c a nm g wr)
  case atStart => exact ⟨Nat.le_refl _, by simp [mkV], by go_num, HST.out⟩
  case round =>
    obtain ⟨hgn, rfl, rfl, hM⟩ := hrel
    rcases Nat.eq_zero_or_pos gk with rfl | hp
    · have HM := Lib.hid hM
      have d1 : decide (0 ≤ ((0 : Nat) : Int) - 1) = false := by decide
      clear hM
      go_wp2_with fail
      go_ret
      exact ⟨rfl, HM.out.err, HM.out.below⟩
    · obtain ⟨m, rfl⟩ : ∃ m, gk = m + 1 := ⟨gk - 1, by omega⟩
      have em : ((m + 1 : Nat) : Int) - 1 = m := by omega
      rw [em]
      rcases HS.out with ⟨h0, _⟩ | ⟨_, b0, off, cap', e, hc⟩
      · omega
      · injection e with e1 e2 e3
        subst e1
        have hci := hc m (by omega)
        have hl0 := World.block_lt_of_cell? _ _ hci
        have hcr := (hM.below.cell (p := ⟨b0, off + m, none⟩) hl0).trans hci
        have d1 : decide (0 ≤ (m : Int)) = true := decide_eq_true (by omega)
        have HN := Lib.hid (hM.next (by omega))
        obtain ⟨T, x, hx⟩ := mkV_form w.heap.size n (m + 1)
        rw [hx] at HN ⊢
        obtain ⟨sw, hsw⟩ : ∃ sw, S m = sw := ⟨_, rfl⟩
        rw [hsw] at hcr HN
        have HIN := Lib.hid (in_any sw T x wr)
        have HV : Hid (mkV w.heap.size n m = .iface 75 (.pointer (some ⟨wr.heap.size, 0, none⟩))) := Lib.hid (by have hsz := hM.size; rw [mkV, if_pos (by omega), hsz, show w.heap.size + 1 + (n - (m + 1)) = w.heap.size + (n - m) by omega])
        clear hc hci hM e3 em hx hsw d1
        have d1 : decide (0 ≤ (m : Int)) = true := decide_eq_true (by omega)
        go_wp2_with (go_at_call 18; fail)
        refine HIN.out.mono ?_; rintro ev w2 ⟨rfl, hw2⟩
        rw [hw2] at HN
        clear hw2 hcr
        go_wp2_with fail
        go_roundg m
        case rel => exact ⟨by omega, HV.out.symm, by first | rfl | go_num, HN.out⟩
        case measure => omega

theorem xs_view (w : World) : StrsV (w.alloc (.cells #[.string ⟨#[97]⟩] 9)) (.slice (some ⟨w.heap.size, 0, none⟩) 1 1) 1 (fun _ => ⟨#[97]⟩) := by
  refine Or.inr ⟨by omega, w.heap.size, 0, 1, rfl, fun i hi => ?_⟩
  obtain rfl : i = 0 := by omega
  simp
theorem alive_ok (w : World) (hg : ErrT w) :
    Calls Tryd.prog 8 #[] w fun e w' => e = .returned (.bool true) ∧ Below w.heap.size w w' := by
  have hv := xs_view w
  have HM := Lib.hid (made_any 1 (fun _ => ⟨#[97]⟩) 2 5 ⟨#[120]⟩ _ _ (by omega) hv)
  have hb0 := (Below.refl w.heap.size w).alloc (Nat.le_refl _) (.cells #[.string ⟨#[97]⟩] 9)
  have hg0 := hg.alloc (.cells #[.string ⟨#[97]⟩] 9)
  have HN := Lib.hid (fun W => code_nil W)
  clear hv
  go_enter Tryd.func8, Tryd.ntmps8
  go_wp2_with (go_at_call 9; fail)
  refine HM.out.mono ?_; rintro ev w1 ⟨rfl, hE, hb1⟩
  have hg1 := hg0.below hb1 (Nat.le_refl _)
  have HT := Lib.hid (text_chain w1 hg1 (by omega) hE (by decide))
  have HC := Lib.hid (fun W (h1 : Below w1.heap.size w1 W) => code_chain W (hg1.below h1 (Nat.le_refl _)) (hE.below h1 (Nat.le_refl _)))
  have eT : (lead (fun _ => (⟨#[97]⟩ : ByteArray)) 1 ++ (⟨#[120]⟩ : ByteArray).data.toList).toArray = #[97, 58, 32, 120] := rfl
  rw [eT] at HT
  rw [show mkV (w.alloc (.cells #[.string ⟨#[97]⟩] 9)).heap.size 1 0 = .iface 75 (.pointer (some ⟨w.heap.size + 1 + 1, 0, none⟩)) by simp [mkV]] at HT HC ⊢
  clear hE eT
  go_wp2_with fail
  refine HT.out.mono ?_; rintro ev w2 ⟨rfl, hb2⟩
  go_wp2_with fail
  refine (HC.out w2 hb2).mono ?_; rintro ev w3 ⟨rfl, hb3⟩
  go_wp2_with fail
  refine (HN.out w3).mono ?_; rintro ev w4 ⟨rfl, rfl⟩
  go_wp2_with fail
  go_ret
  have B1 := hb0.trans (hb1.mono hb0.size)
  have B2 := B1.trans (hb2.mono B1.size)
  exact ⟨rfl, B2.trans (hb3.mono B2.size)⟩
end Go.Proofs.YtoekepfppagbdaaDoor
