/- graph.rising, graph.check: contracts. Edges as keys of a map. graph.check: its contract. -/
import Derived.Test.YtploaffmhemjkaaFault
import Derived.Test.YtploaffmhemjkaaRows4
import Derived.Test.YtploaffmhemjkaaG0
import Derived.Maps.OwnSet
import Derived.Maps.Keyed
import Derived.Maps.OwnOps
namespace Go.Proofs.Ytploaffmhemjkaa
section
open Go.RowKit

/-- A result that is an edge and lies in a box. -/
theorem results_edge {fn : Func} {p : Tmp} (h : fn.results = #[.cell p 75]) (tmps : Array Value) (w : World) (g : Nat) (x y : Value) (hp : tmps.getD p undef = .pointer (some ⟨g, 0, none⟩)) (hc : Whole w g 75 #[x, y]) :
    (results fn tmps).run Try.prog w = .ok (.agg #[x, y]) w := by
  have hp' : tmps[p]?.getD undef = .pointer (some ⟨g, 0, none⟩) := by simpa using hp
  have c0 : w.cell? ⟨g, 0, none⟩ = some x := hc.cell 0
  have c1 : w.cell? ⟨g, 1, none⟩ = some y := hc.cell 1
  simp [results, h, hp', asAddr, loadVar, go_sem, c0, c1]

set_option maxRecDepth 100000 in
theorem rising_any (a b : Int) (w : World) :
    Calls Try.prog 51 #[.agg #[.int .i64 a, .int .i64 b]] w fun e w' => e = .returned (.agg #[.int .i64 (min a b), .int .i64 (max a b)]) ∧ Below w.heap.size w w' := by
  have hb : ∀ x y, Below w.heap.size w ((w.alloc (.cells #[.int .i64 a, .int .i64 b] 75)).alloc (.cells #[x, y] 75)) := fun x y => ((Below.refl _ _).alloc (Nat.le_refl _) _).alloc (by simp) _
  have hn : ∀ x y, Whole ((w.alloc (.cells #[.int .i64 a, .int .i64 b] 75)).alloc (.cells #[x, y] 75)) (w.heap.size + 1) 75 #[x, y] := fun x y => by
    have := Whole.new (w.alloc (.cells #[.int .i64 a, .int .i64 b] 75)) 75 #[x, y]
    rwa [World.size_alloc] at this
  have HB := Lib.hid hb; have HN := Lib.hid hn
  clear hb hn
  rcases (by omega : b < a ∨ a < b ∨ b = a) with h | h | h
  · have e1 : min a b = b := by omega
    have e2 : max a b = a := by omega
    have HE1 := Lib.hid e1; have HE2 := Lib.hid e2
    clear e1 e2
    go_enter Try.func51, Try.ntmps51
    go_wp2
    exact bodyPost_ret (results_edge rfl _ _ _ _ _ rfl (HN.out _ _)) rfl ⟨by rw [HE1.out, HE2.out], HB.out _ _⟩
  · have e1 : min a b = a := by omega
    have e2 : max a b = b := by omega
    have HE1 := Lib.hid e1; have HE2 := Lib.hid e2
    clear e1 e2
    go_enter Try.func51, Try.ntmps51
    go_wp2
    exact bodyPost_ret (results_edge rfl _ _ _ _ _ rfl (HN.out _ _)) rfl ⟨by rw [HE1.out, HE2.out], HB.out _ _⟩
  · subst h
    have e1 : min b b = b := by omega
    have e2 : max b b = b := by omega
    have HE1 := Lib.hid e1; have HE2 := Lib.hid e2
    clear e1 e2
    go_enter Try.func51, Try.ntmps51
    go_wp2
    exact bodyPost_ret (results_edge rfl _ _ _ _ _ rfl (HN.out _ _)) rfl ⟨by rw [HE1.out, HE2.out], HB.out _ _⟩

theorem Try.laidOut4 : laidOutB Try.prog = true := by kernel_rfl
theorem edge_keyed : Go.Maps.Keyed Try.prog 75 := Go.Maps.Keyed.of_law (deep_law_laid Try.laidOut4 (m := 10) (by omega) (of_decide_eq_true (by kernel_rfl)) (by kernel_rfl) (by kernel_rfl))
end

section
open Go.RowKit

def edgeV (e : Int × Int) : Value := .agg #[.int .i64 e.1, .int .i64 e.2]
/-- In the range of int. -/
def In64 (x : Int) : Prop := -9223372036854775808 ≤ x ∧ x ≤ 9223372036854775807
theorem wf_in64 {x : Int} (h : In64 x) : (Lit.int .i64 x).wf = true := Go.WalkArith.wf_i64 h
theorem Try.typesN : ∃ m, Try.prog.types.size = m + 1 := ⟨Try.prog.types.size - 1, by have : (0 : Nat) < Try.prog.types.size := of_decide_eq_true (by kernel_rfl); omega⟩
theorem Try.keyTypeE : Try.prog.keyType 75 = true := by kernel_rfl
theorem Try.cellsE : Try.prog.cellsOf 75 = 2 := by kernel_rfl
theorem Try.cellsI : Try.prog.cellsOf 3 = 1 := by kernel_rfl
theorem formed_edge (e : Int × Int) : (edgeV e).formed Try.prog 75 = true := by
  simp [edgeV, Value.formed, Try.underlying75, Try.cellsE]
theorem key_edge {e : Int × Int} (h1 : In64 e.1) (h2 : In64 e.2) : ∃ kl, keyOf Try.prog 75 (edgeV e) = some kl := by
  obtain ⟨m, hm⟩ := Try.typesN
  have w1 := wf_in64 h1
  have w2 := wf_in64 h2
  unfold keyOf
  rw [Try.underlying75, Try.keyTypeE, formed_edge, hm]
  simp [Program.keyLits, Try.underlying75, Try.underlying3, edgeV, Value.cells, Try.cellsE, Try.cellsI, w1, w2]

/-- A map that is a set of edges. -/
def EdgeSet (w : World) (b : Nat) (E : List (Int × Int)) : Prop :=
  ∃ (n : Nat) (D : DataW Unit), w.ownsMap Try.prog 75 (Go.unitElem (H := Unit)) b n D ∧ n ≤ E.length ∧ ∀ (e : Int × Int) (kl : Lit), keyOf Try.prog 75 (edgeV e) = some kl → Go.Maps.has D kl = decide (e ∈ E)
theorem EdgeSet.made (w : World) : EdgeSet (w.alloc (.map #[] 0)) w.heap.size [] :=
  ⟨0, .map [], World.ownsMap_made w _ _ _, Nat.le_refl _, fun e kl _ => by simp [Go.Maps.has]⟩
theorem EdgeSet.lt {w : World} {b : Nat} {E : List (Int × Int)} (h : EdgeSet w b E) : b < w.heap.size := by
  obtain ⟨n, D, h, _⟩ := h
  exact h.lt
theorem EdgeSet.kept {w w' : World} {b : Nat} {E : List (Int × Int)} {r : Option Nat} (h : EdgeSet w b E) (hg : w.grownBy w' r) (hne : some b ≠ r) : EdgeSet w' b E := by
  obtain ⟨n, D, h, h1, h2⟩ := h
  exact ⟨n, D, h.kept hg hne, h1, h2⟩
theorem EdgeSet.below {w w' : World} {b : Nat} {E : List (Int × Int)} {B : Nat} (h : EdgeSet w b E) (hb : Below B w w') (hB : w.heap.size ≤ B) : EdgeSet w' b E :=
  h.kept (r := none) ⟨hb.os, hb.tape, hb.output, hb.size, fun i hi _ => hb.block i (by omega)⟩ (by simp)
theorem edgeV_inj {a b : Int × Int} (h : edgeV a = edgeV b) : a = b := by
  simp [edgeV] at h
  exact Prod.ext h.1 h.2
/-- What a store makes of the set. -/
theorem EdgeSet.put {w' : World} {b n : Nat} {E : List (Int × Int)} {D : DataW Unit} {e : Int × Int} {kl : Lit} {d : DataW Unit} (hk : keyOf Try.prog 75 (edgeV e) = some kl) (hn : n ≤ E.length) (hi : Go.Maps.IsMap D)
    (hD : ∀ (e : Int × Int) (kl : Lit), keyOf Try.prog 75 (edgeV e) = some kl → Go.Maps.has D kl = decide (e ∈ E)) (h' : w'.ownsMap Try.prog 75 (Go.unitElem (H := Unit)) b (n + 1) (D.put kl d)) : EdgeSet w' b (E ++ [e]) := by
  refine ⟨n + 1, _, h', by simp; omega, fun x kx hx => ?_⟩
  by_cases hxe : x = e
  · subst hxe
    have hkk : kx = kl := by
      rw [hk] at hx
      exact (Option.some.inj hx).symm
    rw [hkk]
    rw [Go.Maps.has_put_same hi (edge_keyed.key hk)]
    simp
  · have hne : kx ≠ kl := by
      intro h
      rw [h] at hx
      exact hxe (edgeV_inj (edge_keyed.inj hx hk))
    rw [Go.Maps.has_put_other hne, hD x kx hx]
    simp [hxe]
end

section
open Go.RowKit

/-- What is wrong with an edge, beside those that were taken. -/
def edgeFault (n : Int) (E : List (Int × Int)) (e : Int × Int) : Int :=
  if min e.1 e.2 < 0 ∨ n ≤ max e.1 e.2 then 3 else if e.1 = e.2 then 1 else if ris e ∈ E then 4 else 0
/-- What check tells. -/
def CheckTo (c p : Int) (w : World) (e : Ending) (w' : World) : Prop :=
  Below w.heap.size w w' ∧ ((c = 0 ∧ e = .returned .nilIface) ∨ (c ≠ 0 ∧ ∃ u, e = .returned u ∧ FaultAt c p w' u))

theorem whole_next (w : World) (o : Obj) (t : TypeId) (cs : Array Value) : Whole ((w.alloc o).alloc (.cells cs t)) (w.heap.size + 1) t cs := by
  have := Whole.new (w.alloc o) t cs
  rwa [World.size_alloc] at this
theorem zero_unit (w : World) : (zeroValue 77).run Try.prog w = .ok (.agg #[]) w := by kernel_rfl

set_option maxRecDepth 100000 in
set_option maxHeartbeats 4000000 in
theorem check_ends (n p x y : Int) (b : Nat) (w : World) (h : min x y < 0 ∨ n ≤ max x y) :
    Calls Try.prog 50 #[.int .i64 n, .map (some b), .int .i64 p, .agg #[.int .i64 x, .int .i64 y]] w (CheckTo 3 p w) := by
  have HB : Hid (Below w.heap.size w (w.alloc (.cells #[.int .i64 x, .int .i64 y] 75))) := Lib.hid ((Below.refl _ _).alloc (Nat.le_refl _) _)
  rcases (by omega : y < x ∨ x < y ∨ y = x) with h1 | h1 | h1
  · have hc : decide (y < 0) = true ∨ (decide (y < 0) = false ∧ decide (n ≤ x) = true) := by simp; omega
    clear h
    rcases hc with t1 | ⟨t1, t2⟩
    all_goals
      go_enter Try.func50, Try.ntmps50
      go_wp2_with fail
      refine (new_any _ _ _ _).mono ?_; rintro e w2 ⟨rfl, rfl⟩
      go_wp2_with fail
      go_ret
      exact ⟨HB.out.alloc HB.out.size _, Or.inr ⟨by decide, _, rfl, _, _, rfl, whole_next _ _ _ _⟩⟩
  · have hc : decide (x < 0) = true ∨ (decide (x < 0) = false ∧ decide (n ≤ y) = true) := by simp; omega
    clear h
    rcases hc with t1 | ⟨t1, t2⟩
    all_goals
      go_enter Try.func50, Try.ntmps50
      go_wp2_with fail
      refine (new_any _ _ _ _).mono ?_; rintro e w2 ⟨rfl, rfl⟩
      go_wp2_with fail
      go_ret
      exact ⟨HB.out.alloc HB.out.size _, Or.inr ⟨by decide, _, rfl, _, _, rfl, whole_next _ _ _ _⟩⟩
  · subst h1
    have hc : decide (y < 0) = true ∨ (decide (y < 0) = false ∧ decide (n ≤ y) = true) := by simp; omega
    clear h
    rcases hc with t1 | ⟨t1, t2⟩
    all_goals
      go_enter Try.func50, Try.ntmps50
      go_wp2_with fail
      refine (new_any _ _ _ _).mono ?_; rintro e w2 ⟨rfl, rfl⟩
      go_wp2_with fail
      go_ret
      exact ⟨HB.out.alloc HB.out.size _, Or.inr ⟨by decide, _, rfl, _, _, rfl, whole_next _ _ _ _⟩⟩

set_option maxRecDepth 100000 in
set_option maxHeartbeats 4000000 in
theorem check_same (n p x : Int) (b : Nat) (w : World) (h0 : 0 ≤ x) (hn : x < n) :
    Calls Try.prog 50 #[.int .i64 n, .map (some b), .int .i64 p, .agg #[.int .i64 x, .int .i64 x]] w (CheckTo 1 p w) := by
  have HB : Hid (Below w.heap.size w (w.alloc (.cells #[.int .i64 x, .int .i64 x] 75))) := Lib.hid ((Below.refl _ _).alloc (Nat.le_refl _) _)
  have t1 : decide (x < 0) = false := decide_eq_false (by omega)
  have t2 : decide (n ≤ x) = false := decide_eq_false (by omega)
  have t3 : (x == x) = true := by simp
  clear h0 hn
  go_enter Try.func50, Try.ntmps50
  go_wp2_with fail
  refine (new_any _ _ _ _).mono ?_; rintro e w2 ⟨rfl, rfl⟩
  go_wp2_with fail
  go_ret
  exact ⟨HB.out.alloc HB.out.size _, Or.inr ⟨by decide, _, rfl, _, _, rfl, whole_next _ _ _ _⟩⟩

set_option maxRecDepth 100000 in
set_option maxHeartbeats 4000000 in
theorem check_once (n p x y : Int) (b : Nat) (E : List (Int × Int)) (w : World) (h : EdgeSet w b E) (h0 : 0 ≤ min x y) (hn : max x y < n) (hne : x ≠ y) (hr : n ≤ 9223372036854775807) :
    Calls Try.prog 50 #[.int .i64 n, .map (some b), .int .i64 p, .agg #[.int .i64 x, .int .i64 y]] w (CheckTo (if ris (x, y) ∈ E then 4 else 0) p w) := by
  have hb0 : Below w.heap.size w (w.alloc (.cells #[.int .i64 x, .int .i64 y] 75)) := (Below.refl _ _).alloc (Nat.le_refl _) _
  have HB := Lib.hid hb0
  obtain ⟨kl, hk⟩ := key_edge (e := ris (x, y)) (by unfold In64 ris; simp only; omega) (by unfold In64 ris; simp only; omega)
  have HK := Lib.hid hk
  have HE := Lib.hid (h.below hb0 (Nat.le_refl _))
  have RS := Lib.hid (fun W => rising_any x y W)
  have t3 : (x == y) = false := by simpa using hne
  have hm := Lib.hid (show edgeV (ris (x, y)) = .agg #[.int .i64 (min x y), .int .i64 (max x y)] from rfl)
  obtain ⟨z, hz⟩ : ∃ z, decide (ris (x, y) ∈ E) = z := ⟨_, rfl⟩
  have HZ := Lib.hid hz
  obtain ⟨c, hc⟩ : ∃ c : Int, (if ris (x, y) ∈ E then 4 else 0) = c := ⟨_, rfl⟩
  rw [hc]
  have HC := Lib.hid hc
  clear hk hb0 hz h hc
  rcases (by omega : y < x ∨ x < y) with h1 | h1
  · have t1 : decide (y < 0) = false := decide_eq_false (by omega)
    have t2 : decide (n ≤ x) = false := decide_eq_false (by omega)
    clear h0 hn
    cases z with
    | true =>
      have hc4 : c = 4 := by rw [← HC.out, if_pos (of_decide_eq_true HZ.out)]
      have HC4 := Lib.hid hc4
      clear hc4
      go_enter Try.func50, Try.ntmps50
      go_wp2_with fail
      refine (RS.out _).mono ?_; rintro e w2 ⟨rfl, hb2⟩
      rw [← hm.out]
      obtain ⟨nn, D, hown, _, hD⟩ := HE.out.below hb2 (Nat.le_refl _)
      have HD : Hid (Go.Maps.has D kl = true) := Lib.hid (by rw [hD _ _ HK.out, HZ.out])
      have HB2 := Lib.hid (HB.out.trans (hb2.mono HB.out.size))
      have HO := Lib.hid hown
      clear hD hb2 hown
      go_wp2_with (at_lookup; refine wpList_lookup_own_unit _ rfl _ _ 74 rfl 75 77 edge_keyed Try.underlying74 (zero_unit _) b nn D rfl HO.out _ kl rfl HK.out ?_; rw [HD.out])
      refine (new_any _ _ _ _).mono ?_; rintro e w3 ⟨rfl, rfl⟩
      go_wp2_with fail
      go_ret
      exact ⟨(HB2.out.alloc HB2.out.size _).alloc (by have := HB2.out.size; simp; omega) _, Or.inr ⟨by rw [HC4.out]; decide, _, rfl, by rw [HC4.out]; exact ⟨_, _, rfl, whole_next _ _ _ _⟩⟩⟩
    | false =>
      have hc4 : c = 0 := by rw [← HC.out, if_neg (of_decide_eq_false HZ.out)]
      have HC4 := Lib.hid hc4
      clear hc4
      go_enter Try.func50, Try.ntmps50
      go_wp2_with fail
      refine (RS.out _).mono ?_; rintro e w2 ⟨rfl, hb2⟩
      rw [← hm.out]
      obtain ⟨nn, D, hown, _, hD⟩ := HE.out.below hb2 (Nat.le_refl _)
      have HD : Hid (Go.Maps.has D kl = false) := Lib.hid (by rw [hD _ _ HK.out, HZ.out])
      have HB2 := Lib.hid (HB.out.trans (hb2.mono HB.out.size))
      have HO := Lib.hid hown
      clear hD hb2 hown
      go_wp2_with (at_lookup; refine wpList_lookup_own_unit _ rfl _ _ 74 rfl 75 77 edge_keyed Try.underlying74 (zero_unit _) b nn D rfl HO.out _ kl rfl HK.out ?_; rw [HD.out])
      go_ret
      exact ⟨HB2.out.alloc HB2.out.size _, Or.inl ⟨HC4.out, rfl⟩⟩
  · have t1 : decide (x < 0) = false := decide_eq_false (by omega)
    have t2 : decide (n ≤ y) = false := decide_eq_false (by omega)
    clear h0 hn
    cases z with
    | true =>
      have hc4 : c = 4 := by rw [← HC.out, if_pos (of_decide_eq_true HZ.out)]
      have HC4 := Lib.hid hc4
      clear hc4
      go_enter Try.func50, Try.ntmps50
      go_wp2_with fail
      refine (RS.out _).mono ?_; rintro e w2 ⟨rfl, hb2⟩
      rw [← hm.out]
      obtain ⟨nn, D, hown, _, hD⟩ := HE.out.below hb2 (Nat.le_refl _)
      have HD : Hid (Go.Maps.has D kl = true) := Lib.hid (by rw [hD _ _ HK.out, HZ.out])
      have HB2 := Lib.hid (HB.out.trans (hb2.mono HB.out.size))
      have HO := Lib.hid hown
      clear hD hb2 hown
      go_wp2_with (at_lookup; refine wpList_lookup_own_unit _ rfl _ _ 74 rfl 75 77 edge_keyed Try.underlying74 (zero_unit _) b nn D rfl HO.out _ kl rfl HK.out ?_; rw [HD.out])
      refine (new_any _ _ _ _).mono ?_; rintro e w3 ⟨rfl, rfl⟩
      go_wp2_with fail
      go_ret
      exact ⟨(HB2.out.alloc HB2.out.size _).alloc (by have := HB2.out.size; simp; omega) _, Or.inr ⟨by rw [HC4.out]; decide, _, rfl, by rw [HC4.out]; exact ⟨_, _, rfl, whole_next _ _ _ _⟩⟩⟩
    | false =>
      have hc4 : c = 0 := by rw [← HC.out, if_neg (of_decide_eq_false HZ.out)]
      have HC4 := Lib.hid hc4
      clear hc4
      go_enter Try.func50, Try.ntmps50
      go_wp2_with fail
      refine (RS.out _).mono ?_; rintro e w2 ⟨rfl, hb2⟩
      rw [← hm.out]
      obtain ⟨nn, D, hown, _, hD⟩ := HE.out.below hb2 (Nat.le_refl _)
      have HD : Hid (Go.Maps.has D kl = false) := Lib.hid (by rw [hD _ _ HK.out, HZ.out])
      have HB2 := Lib.hid (HB.out.trans (hb2.mono HB.out.size))
      have HO := Lib.hid hown
      clear hD hb2 hown
      go_wp2_with (at_lookup; refine wpList_lookup_own_unit _ rfl _ _ 74 rfl 75 77 edge_keyed Try.underlying74 (zero_unit _) b nn D rfl HO.out _ kl rfl HK.out ?_; rw [HD.out])
      go_ret
      exact ⟨HB2.out.alloc HB2.out.size _, Or.inl ⟨HC4.out, rfl⟩⟩

theorem check_any (n p : Int) (e : Int × Int) (b : Nat) (E : List (Int × Int)) (w : World) (h : EdgeSet w b E) (hr : n ≤ 9223372036854775807) :
    Calls Try.prog 50 #[.int .i64 n, .map (some b), .int .i64 p, edgeV e] w (CheckTo (edgeFault n E e) p w) := by
  obtain ⟨x, y⟩ := e
  unfold edgeFault
  by_cases h1 : min x y < 0 ∨ n ≤ max x y
  · rw [if_pos h1]
    exact check_ends n p x y b w h1
  · rw [if_neg h1]
    by_cases h2 : x = y
    · subst h2
      rw [if_pos rfl]
      exact check_same n p x b w (by omega) (by omega)
    · rw [if_neg h2]
      exact check_once n p x y b E w h (by omega) (by omega) h2 hr
end
end Go.Proofs.Ytploaffmhemjkaa
