/- graph.check: its contract. -/
import Derived.Test.YtfngkbpoefapdaaDoorEdgeKey
import Derived.Test.YtfngkbpoefapdaaDoorFaultAt
import Derived.Maps.OwnOps
namespace Go.Proofs.YtfngkbpoefapdaaDoor
open Go.RowKit

/-- What is wrong with an edge, beside those that were taken. -/
def edgeFault (n : Int) (E : List (Int × Int)) (e : Int × Int) : Int :=
  if min e.1 e.2 < 0 ∨ n ≤ max e.1 e.2 then 3 else if e.1 = e.2 then 1 else if ris e ∈ E then 4 else 0
/-- What check tells. -/
def CheckTo (c p : Int) (w : World) (e : Ending) (w' : World) : Prop :=
  Below w.heap.size w w' ∧ ((c = 0 ∧ e = .returned .nilIface) ∨ (c ≠ 0 ∧ ∃ u, e = .returned u ∧ FaultAt c p w' u))

theorem whole_next (w : World) (o : Obj) (t : TypeId) (cs : Array Value) : Whole ((w.alloc o).alloc (.cells cs t)) (w.heap.size + 1) t cs := by
  have := Whole.new (w.alloc o) t cs
  rwa [World.size_alloc] at this
theorem zero_unit (w : World) : (zeroValue 61).run Tryd.prog w = .ok (.agg #[]) w := by kernel_rfl

set_option maxRecDepth 100000 in
set_option maxHeartbeats 4000000 in
theorem check_ends (n p x y : Int) (b : Nat) (w : World) (h : min x y < 0 ∨ n ≤ max x y) :
    Calls Tryd.prog 29 #[.int .i64 n, .map (some b), .int .i64 p, .agg #[.int .i64 x, .int .i64 y]] w (CheckTo 3 p w) := by
  have HB : Hid (Below w.heap.size w (w.alloc (.cells #[.int .i64 x, .int .i64 y] 47))) := Lib.hid ((Below.refl _ _).alloc (Nat.le_refl _) _)
  rcases (by omega : y < x ∨ x < y ∨ y = x) with h1 | h1 | h1
  · have hc : decide (y < 0) = true ∨ (decide (y < 0) = false ∧ decide (n ≤ x) = true) := by simp; omega
    clear h
    rcases hc with t1 | ⟨t1, t2⟩
    all_goals
      go_enter Tryd.func29, Tryd.ntmps29
      go_wp2_with fail
      refine (new_any _ _ _ _).mono ?_; rintro e w2 ⟨rfl, rfl⟩
      go_wp2_with fail
      go_ret
      exact ⟨HB.out.alloc HB.out.size _, Or.inr ⟨by decide, _, rfl, _, _, rfl, whole_next _ _ _ _⟩⟩
  · have hc : decide (x < 0) = true ∨ (decide (x < 0) = false ∧ decide (n ≤ y) = true) := by simp; omega
    clear h
    rcases hc with t1 | ⟨t1, t2⟩
    all_goals
      go_enter Tryd.func29, Tryd.ntmps29
      go_wp2_with fail
      refine (new_any _ _ _ _).mono ?_; rintro e w2 ⟨rfl, rfl⟩
      go_wp2_with fail
      go_ret
      exact ⟨HB.out.alloc HB.out.size _, Or.inr ⟨by decide, _, rfl, _, _, rfl, whole_next _ _ _ _⟩⟩
  · subst h1
    have hc : decide (y < 0) = true ∨ (decide (y < 0) = false ∧ decide (n ≤ y) = true) := by simp; omega
    clear h
    rcases hc with t1 | ⟨t1, t2⟩
    all_goals
      go_enter Tryd.func29, Tryd.ntmps29
      go_wp2_with fail
      refine (new_any _ _ _ _).mono ?_; rintro e w2 ⟨rfl, rfl⟩
      go_wp2_with fail
      go_ret
      exact ⟨HB.out.alloc HB.out.size _, Or.inr ⟨by decide, _, rfl, _, _, rfl, whole_next _ _ _ _⟩⟩

set_option maxRecDepth 100000 in
set_option maxHeartbeats 4000000 in
theorem check_same (n p x : Int) (b : Nat) (w : World) (h0 : 0 ≤ x) (hn : x < n) :
    Calls Tryd.prog 29 #[.int .i64 n, .map (some b), .int .i64 p, .agg #[.int .i64 x, .int .i64 x]] w (CheckTo 1 p w) := by
  have HB : Hid (Below w.heap.size w (w.alloc (.cells #[.int .i64 x, .int .i64 x] 47))) := Lib.hid ((Below.refl _ _).alloc (Nat.le_refl _) _)
  have t1 : decide (x < 0) = false := decide_eq_false (by omega)
  have t2 : decide (n ≤ x) = false := decide_eq_false (by omega)
  have t3 : (x == x) = true := by simp
  clear h0 hn
  go_enter Tryd.func29, Tryd.ntmps29
  go_wp2_with fail
  refine (new_any _ _ _ _).mono ?_; rintro e w2 ⟨rfl, rfl⟩
  go_wp2_with fail
  go_ret
  exact ⟨HB.out.alloc HB.out.size _, Or.inr ⟨by decide, _, rfl, _, _, rfl, whole_next _ _ _ _⟩⟩

set_option maxRecDepth 100000 in
set_option maxHeartbeats 4000000 in
theorem check_once (n p x y : Int) (b : Nat) (E : List (Int × Int)) (w : World) (h : EdgeSet w b E) (h0 : 0 ≤ min x y) (hn : max x y < n) (hne : x ≠ y) (hr : n ≤ 9223372036854775807) :
    Calls Tryd.prog 29 #[.int .i64 n, .map (some b), .int .i64 p, .agg #[.int .i64 x, .int .i64 y]] w (CheckTo (if ris (x, y) ∈ E then 4 else 0) p w) := by
  have hb0 : Below w.heap.size w (w.alloc (.cells #[.int .i64 x, .int .i64 y] 47)) := (Below.refl _ _).alloc (Nat.le_refl _) _
  have HB := Lib.hid hb0
  obtain ⟨kl, hk⟩ := key_edge (e := ris (x, y)) (by unfold In64 ris; simp only; omega) (by unfold In64 ris; simp only; omega)
  have HK := Lib.hid hk
  have HE := Lib.hid (h.below hb0 (Nat.le_refl _))
  have RS := Lib.hid (fun W => rising_any x y W)
  have t3 : (x == y) = false := by simpa using hne
  have hm := Lib.hid (show edgeV (ris (x, y)) = .agg #[.int .i64 (min x y), .int .i64 (max x y)] from rfl)
  obtain ⟨z, hz⟩ : ∃ z, decide (ris (x, y) ∈ E) = z := ⟨_, rfl⟩
  have HZ := Lib.hid hz
  obtain ⟨c, hc⟩ : ∃ c : Int, (if ris (x, y) ∈ E then 4 else 0) = c := ⟨_, rfl⟩
  rw [hc]
  have HC := Lib.hid hc
  clear hk hb0 hz h hc
  rcases (by omega : y < x ∨ x < y) with h1 | h1
  · have t1 : decide (y < 0) = false := decide_eq_false (by omega)
    have t2 : decide (n ≤ x) = false := decide_eq_false (by omega)
    clear h0 hn
    cases z with
    | true =>
      have hc4 : c = 4 := by rw [← HC.out, if_pos (of_decide_eq_true HZ.out)]
      have HC4 := Lib.hid hc4
      clear hc4
      go_enter Tryd.func29, Tryd.ntmps29
      go_wp2_with fail
      refine (RS.out _).mono ?_; rintro e w2 ⟨rfl, hb2⟩
      rw [← hm.out]
      obtain ⟨nn, D, hown, _, hD⟩ := HE.out.below hb2 (Nat.le_refl _)
      have HD : Hid (Go.Maps.has D kl = true) := Lib.hid (by rw [hD _ _ HK.out, HZ.out])
      have HB2 := Lib.hid (HB.out.trans (hb2.mono HB.out.size))
      have HO := Lib.hid hown
      clear hD hb2 hown
      go_wp2_with (at_lookup; refine wpList_lookup_own_unit _ rfl _ _ 59 rfl 47 61 edge_keyed Tryd.underlying59 (zero_unit _) b nn D rfl HO.out _ kl rfl HK.out ?_; rw [HD.out])
      refine (new_any _ _ _ _).mono ?_; rintro e w3 ⟨rfl, rfl⟩
      go_wp2_with fail
      go_ret
      exact ⟨(HB2.out.alloc HB2.out.size _).alloc (by have := HB2.out.size; simp; omega) _, Or.inr ⟨by rw [HC4.out]; decide, _, rfl, by rw [HC4.out]; exact ⟨_, _, rfl, whole_next _ _ _ _⟩⟩⟩
    | false =>
      have hc4 : c = 0 := by rw [← HC.out, if_neg (of_decide_eq_false HZ.out)]
      have HC4 := Lib.hid hc4
      clear hc4
      go_enter Tryd.func29, Tryd.ntmps29
      go_wp2_with fail
      refine (RS.out _).mono ?_; rintro e w2 ⟨rfl, hb2⟩
      rw [← hm.out]
      obtain ⟨nn, D, hown, _, hD⟩ := HE.out.below hb2 (Nat.le_refl _)
      have HD : Hid (Go.Maps.has D kl = false) := Lib.hid (by rw [hD _ _ HK.out, HZ.out])
      have HB2 := Lib.hid (HB.out.trans (hb2.mono HB.out.size))
      have HO := Lib.hid hown
      clear hD hb2 hown
      go_wp2_with (at_lookup; refine wpList_lookup_own_unit _ rfl _ _ 59 rfl 47 61 edge_keyed Tryd.underlying59 (zero_unit _) b nn D rfl HO.out _ kl rfl HK.out ?_; rw [HD.out])
      go_ret
      exact ⟨HB2.out.alloc HB2.out.size _, Or.inl ⟨HC4.out, rfl⟩⟩
  · have t1 : decide (x < 0) = false := decide_eq_false (by omega)
    have t2 : decide (n ≤ y) = false := decide_eq_false (by omega)
    clear h0 hn
    cases z with
    | true =>
      have hc4 : c = 4 := by rw [← HC.out, if_pos (of_decide_eq_true HZ.out)]
      have HC4 := Lib.hid hc4
      clear hc4
      go_enter Tryd.func29, Tryd.ntmps29
      go_wp2_with fail
      refine (RS.out _).mono ?_; rintro e w2 ⟨rfl, hb2⟩
      rw [← hm.out]
      obtain ⟨nn, D, hown, _, hD⟩ := HE.out.below hb2 (Nat.le_refl _)
      have HD : Hid (Go.Maps.has D kl = true) := Lib.hid (by rw [hD _ _ HK.out, HZ.out])
      have HB2 := Lib.hid (HB.out.trans (hb2.mono HB.out.size))
      have HO := Lib.hid hown
      clear hD hb2 hown
      go_wp2_with (at_lookup; refine wpList_lookup_own_unit _ rfl _ _ 59 rfl 47 61 edge_keyed Tryd.underlying59 (zero_unit _) b nn D rfl HO.out _ kl rfl HK.out ?_; rw [HD.out])
      refine (new_any _ _ _ _).mono ?_; rintro e w3 ⟨rfl, rfl⟩
      go_wp2_with fail
      go_ret
      exact ⟨(HB2.out.alloc HB2.out.size _).alloc (by have := HB2.out.size; simp; omega) _, Or.inr ⟨by rw [HC4.out]; decide, _, rfl, by rw [HC4.out]; exact ⟨_, _, rfl, whole_next _ _ _ _⟩⟩⟩
    | false =>
      have hc4 : c = 0 := by rw [← HC.out, if_neg (of_decide_eq_false HZ.out)]
      have HC4 := Lib.hid hc4
      clear hc4
      go_enter Tryd.func29, Tryd.ntmps29
      go_wp2_with fail
      refine (RS.out _).mono ?_; rintro e w2 ⟨rfl, hb2⟩
      rw [← hm.out]
      obtain ⟨nn, D, hown, _, hD⟩ := HE.out.below hb2 (Nat.le_refl _)
      have HD : Hid (Go.Maps.has D kl = false) := Lib.hid (by rw [hD _ _ HK.out, HZ.out])
      have HB2 := Lib.hid (HB.out.trans (hb2.mono HB.out.size))
      have HO := Lib.hid hown
      clear hD hb2 hown
      go_wp2_with (at_lookup; refine wpList_lookup_own_unit _ rfl _ _ 59 rfl 47 61 edge_keyed Tryd.underlying59 (zero_unit _) b nn D rfl HO.out _ kl rfl HK.out ?_; rw [HD.out])
      go_ret
      exact ⟨HB2.out.alloc HB2.out.size _, Or.inl ⟨HC4.out, rfl⟩⟩

theorem check_any (n p : Int) (e : Int × Int) (b : Nat) (E : List (Int × Int)) (w : World) (h : EdgeSet w b E) (hr : n ≤ 9223372036854775807) :
    Calls Tryd.prog 29 #[.int .i64 n, .map (some b), .int .i64 p, edgeV e] w (CheckTo (edgeFault n E e) p w) := by
  obtain ⟨x, y⟩ := e
  unfold edgeFault
  by_cases h1 : min x y < 0 ∨ n ≤ max x y
  · rw [if_pos h1]
    exact check_ends n p x y b w h1
  · rw [if_neg h1]
    by_cases h2 : x = y
    · subst h2
      rw [if_pos rfl]
      exact check_same n p x b w (by omega) (by omega)
    · rw [if_neg h2]
      exact check_once n p x y b E w h (by omega) (by omega) h2 hr
end Go.Proofs.YtfngkbpoefapdaaDoor
