/- graph.rising, graph.check: contracts. Edges as keys of a map. graph.check: its contract. Edges as they are handed in; what is wrong with them. The document's graph: pure. Edges compared. Edges in a row of the call's own; edges appended. -/
import Derived.Test.YtnjkjgmnnmgngaaGreatDoorJ2
import Derived.Test.YtnjkjgmnnmgngaaGreatDoorJ1
import Derived.Maps.OwnSet
import Derived.Maps.Keyed
import Derived.Maps.OwnOps
import Derived.Laws.StructEq
namespace Go.Proofs.YtnjkjgmnnmgngaaGreatDoor
section
open Go.RowKit

/-- A result that is an edge and lies in a box. -/
theorem results_edge {fn : Func} {p : Tmp} (h : fn.results = #[.cell p 64]) (tmps : Array Value) (w : World) (g : Nat) (x y : Value) (hp : tmps.getD p undef = .pointer (some ⟨g, 0, none⟩)) (hc : Whole w g 64 #[x, y]) :
    (results fn tmps).run Tryz.prog w = .ok (.agg #[x, y]) w := by
  have hp' : tmps[p]?.getD undef = .pointer (some ⟨g, 0, none⟩) := by simpa using hp
  have c0 : w.cell? ⟨g, 0, none⟩ = some x := hc.cell 0
  have c1 : w.cell? ⟨g, 1, none⟩ = some y := hc.cell 1
  simp [results, h, hp', asAddr, loadVar, go_sem, c0, c1]

set_option maxRecDepth 100000 in
theorem rising_any (a b : Int) (w : World) :
    Calls Tryz.prog 67 #[.agg #[.int .i64 a, .int .i64 b]] w fun e w' => e = .returned (.agg #[.int .i64 (min a b), .int .i64 (max a b)]) ∧ Below w.heap.size w w' := by
  have hb : ∀ x y, Below w.heap.size w ((w.alloc (.cells #[.int .i64 a, .int .i64 b] 64)).alloc (.cells #[x, y] 64)) := fun x y => ((Below.refl _ _).alloc (Nat.le_refl _) _).alloc (by simp) _
  have hn : ∀ x y, Whole ((w.alloc (.cells #[.int .i64 a, .int .i64 b] 64)).alloc (.cells #[x, y] 64)) (w.heap.size + 1) 64 #[x, y] := fun x y => by
    have := Whole.new (w.alloc (.cells #[.int .i64 a, .int .i64 b] 64)) 64 #[x, y]
    rwa [World.size_alloc] at this
  have HB := Lib.hid hb; have HN := Lib.hid hn
  clear hb hn
  rcases (by omega : b < a ∨ a < b ∨ b = a) with h | h | h
  · have e1 : min a b = b := by omega
    have e2 : max a b = a := by omega
    have HE1 := Lib.hid e1; have HE2 := Lib.hid e2
    clear e1 e2
    go_enter Tryz.func67, Tryz.ntmps67
    go_wp2
    exact bodyPost_ret (results_edge rfl _ _ _ _ _ rfl (HN.out _ _)) rfl ⟨by rw [HE1.out, HE2.out], HB.out _ _⟩
  · have e1 : min a b = a := by omega
    have e2 : max a b = b := by omega
    have HE1 := Lib.hid e1; have HE2 := Lib.hid e2
    clear e1 e2
    go_enter Tryz.func67, Tryz.ntmps67
    go_wp2
    exact bodyPost_ret (results_edge rfl _ _ _ _ _ rfl (HN.out _ _)) rfl ⟨by rw [HE1.out, HE2.out], HB.out _ _⟩
  · subst h
    have e1 : min b b = b := by omega
    have e2 : max b b = b := by omega
    have HE1 := Lib.hid e1; have HE2 := Lib.hid e2
    clear e1 e2
    go_enter Tryz.func67, Tryz.ntmps67
    go_wp2
    exact bodyPost_ret (results_edge rfl _ _ _ _ _ rfl (HN.out _ _)) rfl ⟨by rw [HE1.out, HE2.out], HB.out _ _⟩

theorem Tryz.laidOut4 : laidOutB Tryz.prog = true := by kernel_rfl
theorem edge_keyed : Go.Maps.Keyed Tryz.prog 64 := Go.Maps.Keyed.of_law (deep_law_laid Tryz.laidOut4 (m := 10) (by omega) (of_decide_eq_true (by kernel_rfl)) (by kernel_rfl) (by kernel_rfl))
end

section
open Go.RowKit

def edgeV (e : Int × Int) : Value := .agg #[.int .i64 e.1, .int .i64 e.2]
/-- In the range of int. -/
def In64 (x : Int) : Prop := -9223372036854775808 ≤ x ∧ x ≤ 9223372036854775807
theorem wf_in64 {x : Int} (h : In64 x) : (Lit.int .i64 x).wf = true := Go.WalkArith.wf_i64 h
theorem Tryz.typesN : ∃ m, Tryz.prog.types.size = m + 1 := ⟨Tryz.prog.types.size - 1, by have : (0 : Nat) < Tryz.prog.types.size := of_decide_eq_true (by kernel_rfl); omega⟩
theorem Tryz.keyTypeE : Tryz.prog.keyType 64 = true := by kernel_rfl
theorem Tryz.cellsE : Tryz.prog.cellsOf 64 = 2 := by kernel_rfl
theorem Tryz.cellsI : Tryz.prog.cellsOf 3 = 1 := by kernel_rfl
theorem formed_edge (e : Int × Int) : (edgeV e).formed Tryz.prog 64 = true := by
  simp [edgeV, Value.formed, Tryz.underlying64, Tryz.cellsE]
theorem key_edge {e : Int × Int} (h1 : In64 e.1) (h2 : In64 e.2) : ∃ kl, keyOf Tryz.prog 64 (edgeV e) = some kl := by
  obtain ⟨m, hm⟩ := Tryz.typesN
  have w1 := wf_in64 h1
  have w2 := wf_in64 h2
  unfold keyOf
  rw [Tryz.underlying64, Tryz.keyTypeE, formed_edge, hm]
  simp [Program.keyLits, Tryz.underlying64, Tryz.underlying3, edgeV, Value.cells, Tryz.cellsE, Tryz.cellsI, w1, w2]

/-- A map that is a set of edges. -/
def EdgeSet (w : World) (b : Nat) (E : List (Int × Int)) : Prop :=
  ∃ (n : Nat) (D : DataW Unit), w.ownsMap Tryz.prog 64 (Go.unitElem (H := Unit)) b n D ∧ n ≤ E.length ∧ ∀ (e : Int × Int) (kl : Lit), keyOf Tryz.prog 64 (edgeV e) = some kl → Go.Maps.has D kl = decide (e ∈ E)
theorem EdgeSet.made (w : World) : EdgeSet (w.alloc (.map #[] 0)) w.heap.size [] :=
  ⟨0, .map [], World.ownsMap_made w _ _ _, Nat.le_refl _, fun e kl _ => by simp [Go.Maps.has]⟩
theorem EdgeSet.lt {w : World} {b : Nat} {E : List (Int × Int)} (h : EdgeSet w b E) : b < w.heap.size := by
  obtain ⟨n, D, h, _⟩ := h
  exact h.lt
theorem EdgeSet.kept {w w' : World} {b : Nat} {E : List (Int × Int)} {r : Option Nat} (h : EdgeSet w b E) (hg : w.grownBy w' r) (hne : some b ≠ r) : EdgeSet w' b E := by
  obtain ⟨n, D, h, h1, h2⟩ := h
  exact ⟨n, D, h.kept hg hne, h1, h2⟩
theorem EdgeSet.below {w w' : World} {b : Nat} {E : List (Int × Int)} {B : Nat} (h : EdgeSet w b E) (hb : Below B w w') (hB : w.heap.size ≤ B) : EdgeSet w' b E :=
  h.kept (r := none) ⟨hb.os, hb.tape, hb.output, hb.size, fun i hi _ => hb.block i (by omega)⟩ (by simp)
theorem edgeV_inj {a b : Int × Int} (h : edgeV a = edgeV b) : a = b := by
  simp [edgeV] at h
  exact Prod.ext h.1 h.2
/-- What a store makes of the set. -/
theorem EdgeSet.put {w' : World} {b n : Nat} {E : List (Int × Int)} {D : DataW Unit} {e : Int × Int} {kl : Lit} {d : DataW Unit} (hk : keyOf Tryz.prog 64 (edgeV e) = some kl) (hn : n ≤ E.length) (hi : Go.Maps.IsMap D)
    (hD : ∀ (e : Int × Int) (kl : Lit), keyOf Tryz.prog 64 (edgeV e) = some kl → Go.Maps.has D kl = decide (e ∈ E)) (h' : w'.ownsMap Tryz.prog 64 (Go.unitElem (H := Unit)) b (n + 1) (D.put kl d)) : EdgeSet w' b (E ++ [e]) := by
  refine ⟨n + 1, _, h', by simp; omega, fun x kx hx => ?_⟩
  by_cases hxe : x = e
  · subst hxe
    have hkk : kx = kl := by
      rw [hk] at hx
      exact (Option.some.inj hx).symm
    rw [hkk]
    rw [Go.Maps.has_put_same hi (edge_keyed.key hk)]
    simp
  · have hne : kx ≠ kl := by
      intro h
      rw [h] at hx
      exact hxe (edgeV_inj (edge_keyed.inj hx hk))
    rw [Go.Maps.has_put_other hne, hD x kx hx]
    simp [hxe]
end

section
open Go.RowKit

/-- What is wrong with an edge, beside those that were taken. -/
def edgeFault (n : Int) (E : List (Int × Int)) (e : Int × Int) : Int :=
  if min e.1 e.2 < 0 ∨ n ≤ max e.1 e.2 then 3 else if e.1 = e.2 then 1 else if ris e ∈ E then 4 else 0
/-- What check tells. -/
def CheckTo (c p : Int) (w : World) (e : Ending) (w' : World) : Prop :=
  Below w.heap.size w w' ∧ ((c = 0 ∧ e = .returned .nilIface) ∨ (c ≠ 0 ∧ ∃ u, e = .returned u ∧ FaultAt c p w' u))

theorem whole_next (w : World) (o : Obj) (t : TypeId) (cs : Array Value) : Whole ((w.alloc o).alloc (.cells cs t)) (w.heap.size + 1) t cs := by
  have := Whole.new (w.alloc o) t cs
  rwa [World.size_alloc] at this
theorem zero_unit (w : World) : (zeroValue 119).run Tryz.prog w = .ok (.agg #[]) w := by kernel_rfl

set_option maxRecDepth 100000 in
set_option maxHeartbeats 4000000 in
theorem check_ends (n p x y : Int) (b : Nat) (w : World) (h : min x y < 0 ∨ n ≤ max x y) :
    Calls Tryz.prog 66 #[.int .i64 n, .map (some b), .int .i64 p, .agg #[.int .i64 x, .int .i64 y]] w (CheckTo 3 p w) := by
  have HB : Hid (Below w.heap.size w (w.alloc (.cells #[.int .i64 x, .int .i64 y] 64))) := Lib.hid ((Below.refl _ _).alloc (Nat.le_refl _) _)
  rcases (by omega : y < x ∨ x < y ∨ y = x) with h1 | h1 | h1
  · have hc : decide (y < 0) = true ∨ (decide (y < 0) = false ∧ decide (n ≤ x) = true) := by simp; omega
    clear h
    rcases hc with t1 | ⟨t1, t2⟩
    all_goals
      go_enter Tryz.func66, Tryz.ntmps66
      go_wp2_with fail
      refine (new_any _ _ _ _).mono ?_; rintro e w2 ⟨rfl, rfl⟩
      go_wp2_with fail
      go_ret
      exact ⟨HB.out.alloc HB.out.size _, Or.inr ⟨by decide, _, rfl, _, _, rfl, whole_next _ _ _ _, by decide⟩⟩
  · have hc : decide (x < 0) = true ∨ (decide (x < 0) = false ∧ decide (n ≤ y) = true) := by simp; omega
    clear h
    rcases hc with t1 | ⟨t1, t2⟩
    all_goals
      go_enter Tryz.func66, Tryz.ntmps66
      go_wp2_with fail
      refine (new_any _ _ _ _).mono ?_; rintro e w2 ⟨rfl, rfl⟩
      go_wp2_with fail
      go_ret
      exact ⟨HB.out.alloc HB.out.size _, Or.inr ⟨by decide, _, rfl, _, _, rfl, whole_next _ _ _ _, by decide⟩⟩
  · subst h1
    have hc : decide (y < 0) = true ∨ (decide (y < 0) = false ∧ decide (n ≤ y) = true) := by simp; omega
    clear h
    rcases hc with t1 | ⟨t1, t2⟩
    all_goals
      go_enter Tryz.func66, Tryz.ntmps66
      go_wp2_with fail
      refine (new_any _ _ _ _).mono ?_; rintro e w2 ⟨rfl, rfl⟩
      go_wp2_with fail
      go_ret
      exact ⟨HB.out.alloc HB.out.size _, Or.inr ⟨by decide, _, rfl, _, _, rfl, whole_next _ _ _ _, by decide⟩⟩

set_option maxRecDepth 100000 in
set_option maxHeartbeats 4000000 in
theorem check_same (n p x : Int) (b : Nat) (w : World) (h0 : 0 ≤ x) (hn : x < n) :
    Calls Tryz.prog 66 #[.int .i64 n, .map (some b), .int .i64 p, .agg #[.int .i64 x, .int .i64 x]] w (CheckTo 1 p w) := by
  have HB : Hid (Below w.heap.size w (w.alloc (.cells #[.int .i64 x, .int .i64 x] 64))) := Lib.hid ((Below.refl _ _).alloc (Nat.le_refl _) _)
  have t1 : decide (x < 0) = false := decide_eq_false (by omega)
  have t2 : decide (n ≤ x) = false := decide_eq_false (by omega)
  have t3 : (x == x) = true := by simp
  clear h0 hn
  go_enter Tryz.func66, Tryz.ntmps66
  go_wp2_with fail
  refine (new_any _ _ _ _).mono ?_; rintro e w2 ⟨rfl, rfl⟩
  go_wp2_with fail
  go_ret
  exact ⟨HB.out.alloc HB.out.size _, Or.inr ⟨by decide, _, rfl, _, _, rfl, whole_next _ _ _ _, by decide⟩⟩

set_option maxRecDepth 100000 in
set_option maxHeartbeats 4000000 in
theorem check_once (n p x y : Int) (b : Nat) (E : List (Int × Int)) (w : World) (h : EdgeSet w b E) (h0 : 0 ≤ min x y) (hn : max x y < n) (hne : x ≠ y) (hr : n ≤ 9223372036854775807) :
    Calls Tryz.prog 66 #[.int .i64 n, .map (some b), .int .i64 p, .agg #[.int .i64 x, .int .i64 y]] w (CheckTo (if ris (x, y) ∈ E then 4 else 0) p w) := by
  have hb0 : Below w.heap.size w (w.alloc (.cells #[.int .i64 x, .int .i64 y] 64)) := (Below.refl _ _).alloc (Nat.le_refl _) _
  have HB := Lib.hid hb0
  obtain ⟨kl, hk⟩ := key_edge (e := ris (x, y)) (by unfold In64 ris; simp only; omega) (by unfold In64 ris; simp only; omega)
  have HK := Lib.hid hk
  have HE := Lib.hid (h.below hb0 (Nat.le_refl _))
  have RS := Lib.hid (fun W => rising_any x y W)
  have t3 : (x == y) = false := by simpa using hne
  have hm := Lib.hid (show edgeV (ris (x, y)) = .agg #[.int .i64 (min x y), .int .i64 (max x y)] from rfl)
  obtain ⟨z, hz⟩ : ∃ z, decide (ris (x, y) ∈ E) = z := ⟨_, rfl⟩
  have HZ := Lib.hid hz
  obtain ⟨c, hc⟩ : ∃ c : Int, (if ris (x, y) ∈ E then 4 else 0) = c := ⟨_, rfl⟩
  rw [hc]
  have HC := Lib.hid hc
  clear hk hb0 hz h hc
  rcases (by omega : y < x ∨ x < y) with h1 | h1
  · have t1 : decide (y < 0) = false := decide_eq_false (by omega)
    have t2 : decide (n ≤ x) = false := decide_eq_false (by omega)
    clear h0 hn
    cases z with
    | true =>
      have hc4 : c = 4 := by rw [← HC.out, if_pos (of_decide_eq_true HZ.out)]
      have HC4 := Lib.hid hc4
      clear hc4
      go_enter Tryz.func66, Tryz.ntmps66
      go_wp2_with fail
      refine (RS.out _).mono ?_; rintro e w2 ⟨rfl, hb2⟩
      rw [← hm.out]
      obtain ⟨nn, D, hown, _, hD⟩ := HE.out.below hb2 (Nat.le_refl _)
      have HD : Hid (Go.Maps.has D kl = true) := Lib.hid (by rw [hD _ _ HK.out, HZ.out])
      have HB2 := Lib.hid (HB.out.trans (hb2.mono HB.out.size))
      have HO := Lib.hid hown
      clear hD hb2 hown
      go_wp2_with (at_lookup; refine wpList_lookup_own_unit _ rfl _ _ 117 rfl 64 119 edge_keyed Tryz.underlying117 (zero_unit _) b nn D rfl HO.out _ kl rfl HK.out ?_; rw [HD.out])
      refine (new_any _ _ _ _).mono ?_; rintro e w3 ⟨rfl, rfl⟩
      go_wp2_with fail
      go_ret
      exact ⟨(HB2.out.alloc HB2.out.size _).alloc (by have := HB2.out.size; simp; omega) _, Or.inr ⟨by rw [HC4.out]; decide, _, rfl, by rw [HC4.out]; exact ⟨_, _, rfl, whole_next _ _ _ _, by decide⟩⟩⟩
    | false =>
      have hc4 : c = 0 := by rw [← HC.out, if_neg (of_decide_eq_false HZ.out)]
      have HC4 := Lib.hid hc4
      clear hc4
      go_enter Tryz.func66, Tryz.ntmps66
      go_wp2_with fail
      refine (RS.out _).mono ?_; rintro e w2 ⟨rfl, hb2⟩
      rw [← hm.out]
      obtain ⟨nn, D, hown, _, hD⟩ := HE.out.below hb2 (Nat.le_refl _)
      have HD : Hid (Go.Maps.has D kl = false) := Lib.hid (by rw [hD _ _ HK.out, HZ.out])
      have HB2 := Lib.hid (HB.out.trans (hb2.mono HB.out.size))
      have HO := Lib.hid hown
      clear hD hb2 hown
      go_wp2_with (at_lookup; refine wpList_lookup_own_unit _ rfl _ _ 117 rfl 64 119 edge_keyed Tryz.underlying117 (zero_unit _) b nn D rfl HO.out _ kl rfl HK.out ?_; rw [HD.out])
      go_ret
      exact ⟨HB2.out.alloc HB2.out.size _, Or.inl ⟨HC4.out, rfl⟩⟩
  · have t1 : decide (x < 0) = false := decide_eq_false (by omega)
    have t2 : decide (n ≤ y) = false := decide_eq_false (by omega)
    clear h0 hn
    cases z with
    | true =>
      have hc4 : c = 4 := by rw [← HC.out, if_pos (of_decide_eq_true HZ.out)]
      have HC4 := Lib.hid hc4
      clear hc4
      go_enter Tryz.func66, Tryz.ntmps66
      go_wp2_with fail
      refine (RS.out _).mono ?_; rintro e w2 ⟨rfl, hb2⟩
      rw [← hm.out]
      obtain ⟨nn, D, hown, _, hD⟩ := HE.out.below hb2 (Nat.le_refl _)
      have HD : Hid (Go.Maps.has D kl = true) := Lib.hid (by rw [hD _ _ HK.out, HZ.out])
      have HB2 := Lib.hid (HB.out.trans (hb2.mono HB.out.size))
      have HO := Lib.hid hown
      clear hD hb2 hown
      go_wp2_with (at_lookup; refine wpList_lookup_own_unit _ rfl _ _ 117 rfl 64 119 edge_keyed Tryz.underlying117 (zero_unit _) b nn D rfl HO.out _ kl rfl HK.out ?_; rw [HD.out])
      refine (new_any _ _ _ _).mono ?_; rintro e w3 ⟨rfl, rfl⟩
      go_wp2_with fail
      go_ret
      exact ⟨(HB2.out.alloc HB2.out.size _).alloc (by have := HB2.out.size; simp; omega) _, Or.inr ⟨by rw [HC4.out]; decide, _, rfl, by rw [HC4.out]; exact ⟨_, _, rfl, whole_next _ _ _ _, by decide⟩⟩⟩
    | false =>
      have hc4 : c = 0 := by rw [← HC.out, if_neg (of_decide_eq_false HZ.out)]
      have HC4 := Lib.hid hc4
      clear hc4
      go_enter Tryz.func66, Tryz.ntmps66
      go_wp2_with fail
      refine (RS.out _).mono ?_; rintro e w2 ⟨rfl, hb2⟩
      rw [← hm.out]
      obtain ⟨nn, D, hown, _, hD⟩ := HE.out.below hb2 (Nat.le_refl _)
      have HD : Hid (Go.Maps.has D kl = false) := Lib.hid (by rw [hD _ _ HK.out, HZ.out])
      have HB2 := Lib.hid (HB.out.trans (hb2.mono HB.out.size))
      have HO := Lib.hid hown
      clear hD hb2 hown
      go_wp2_with (at_lookup; refine wpList_lookup_own_unit _ rfl _ _ 117 rfl 64 119 edge_keyed Tryz.underlying117 (zero_unit _) b nn D rfl HO.out _ kl rfl HK.out ?_; rw [HD.out])
      go_ret
      exact ⟨HB2.out.alloc HB2.out.size _, Or.inl ⟨HC4.out, rfl⟩⟩

theorem check_any (n p : Int) (e : Int × Int) (b : Nat) (E : List (Int × Int)) (w : World) (h : EdgeSet w b E) (hr : n ≤ 9223372036854775807) :
    Calls Tryz.prog 66 #[.int .i64 n, .map (some b), .int .i64 p, edgeV e] w (CheckTo (edgeFault n E e) p w) := by
  obtain ⟨x, y⟩ := e
  unfold edgeFault
  by_cases h1 : min x y < 0 ∨ n ≤ max x y
  · rw [if_pos h1]
    exact check_ends n p x y b w h1
  · rw [if_neg h1]
    by_cases h2 : x = y
    · subst h2
      rw [if_pos rfl]
      exact check_same n p x b w (by omega) (by omega)
    · rw [if_neg h2]
      exact check_once n p x y b E w h (by omega) (by omega) h2 hr
end

section
open Go.RowKit

/-- A slice that reads as edges. -/
def EdgesV (w : World) (v : Value) (E : List (Int × Int)) : Prop :=
  (E = [] ∧ ∃ (ao : Option Addr) (cap : Nat), v = .slice ao 0 cap) ∨ (0 < E.length ∧ ∃ b off cap : Nat, v = .slice (some ⟨b, off, none⟩) E.length cap ∧
    ∀ i, i < E.length → w.cell? ⟨b, off + i * 2, none⟩ = some (.int .i64 (E.getD i (0, 0)).1) ∧ w.cell? ⟨b, off + i * 2 + 1, none⟩ = some (.int .i64 (E.getD i (0, 0)).2))
theorem EdgesV.below {w w' : World} {v : Value} {E : List (Int × Int)} (h : EdgesV w v E) {B : Nat} (hb : Below B w w') (hB : w.heap.size ≤ B) : EdgesV w' v E := by
  rcases h with h | ⟨h0, b, off, cap, rfl, hc⟩
  · exact Or.inl h
  · refine Or.inr ⟨h0, b, off, cap, rfl, fun i hi => ?_⟩
    have hl : b < w.heap.size := World.block_lt_of_cell? _ _ (hc i hi).1
    exact ⟨(hb.cell (p := ⟨b, off + i * 2, none⟩) (Nat.lt_of_lt_of_le hl hB)).trans (hc i hi).1, (hb.cell (p := ⟨b, off + i * 2 + 1, none⟩) (Nat.lt_of_lt_of_le hl hB)).trans (hc i hi).2⟩
theorem EdgesV.form {w : World} {v : Value} {E : List (Int × Int)} (h : EdgesV w v E) : ∃ A c, v = .slice A E.length c := by
  rcases h with ⟨rfl, A, c, rfl⟩ | ⟨_, b, off, c, rfl, _⟩
  · exact ⟨_, _, rfl⟩
  · exact ⟨_, _, rfl⟩
theorem EdgesV.pos {w : World} {A : Option Addr} {c n : Nat} {E : List (Int × Int)} (h : EdgesV w (.slice A n c) E) {i : Nat} (hi : i < E.length) : ∃ b off, A = some ⟨b, off, none⟩ ∧ w.cell? ⟨b, off + i * 2, none⟩ = some (.int .i64 (E.getD i (0, 0)).1) ∧ w.cell? ⟨b, off + i * 2 + 1, none⟩ = some (.int .i64 (E.getD i (0, 0)).2) := by
  rcases h with ⟨rfl, _⟩ | ⟨_, b, off, c, e, hc⟩
  · simp at hi
  · injection e with e1 e2 e3
    exact ⟨b, off, e1, hc i hi⟩
/-- What is wrong with labels and edges: the code and the place. -/
def labBad (L : List Int) (i : Nat) : Bool := decide (L.getD i 0 < 0) || decide (255 < L.getD i 0)
def edgeAt (n : Nat) (E : List (Int × Int)) (i : Nat) : Int := edgeFault n ((E.take i).map ris) (E.getD i (0, 0))
def newFault (L : List Int) (E : List (Int × Int)) : Option (Int × Int) :=
  if 4096 < L.length ∨ 16384 < E.length then some (6, 0)
  else match (List.range L.length).find? (labBad L) with
    | some i => some (3, (i : Int))
    | none => match (List.range E.length).find? (fun i => edgeAt L.length E i != 0) with
      | some i => some (edgeAt L.length E i, (i : Int))
      | none => none
theorem find_at {p : Nat → Bool} {n k : Nat} (hk : k < n) (h : ∀ i, i < k → p i = false) (hp : p k = true) : (List.range n).find? p = some k := by
  rw [List.find?_range_eq_some]
  exact ⟨hp, List.mem_range.2 hk, fun j hj => by simp [h j hj]⟩
theorem find_none {p : Nat → Bool} {n : Nat} (h : ∀ i, i < n → p i = false) : (List.range n).find? p = none := by
  rw [List.find?_eq_none]
  intro i hi
  simp [h i (List.mem_range.1 hi)]
/-- Edges among which nothing is wrong. -/
def Good (n : Int) (E : List (Int × Int)) : Prop := (E.map ris).Nodup ∧ ∀ e, e ∈ E → 0 ≤ min e.1 e.2 ∧ max e.1 e.2 < n ∧ e.1 ≠ e.2
theorem edgeFault_zero {n : Int} {T : List (Int × Int)} {e : Int × Int} (h : edgeFault n T e = 0) : (0 ≤ min e.1 e.2 ∧ max e.1 e.2 < n ∧ e.1 ≠ e.2) ∧ ris e ∉ T := by
  unfold edgeFault at h
  by_cases h1 : min e.1 e.2 < 0 ∨ n ≤ max e.1 e.2
  · rw [if_pos h1] at h; omega
  · rw [if_neg h1] at h
    by_cases h2 : e.1 = e.2
    · rw [if_pos h2] at h; omega
    · rw [if_neg h2] at h
      by_cases h3 : ris e ∈ T
      · rw [if_pos h3] at h; omega
      · exact ⟨⟨by omega, by omega, h2⟩, h3⟩
theorem good_of_ok {n : Nat} {E : List (Int × Int)} (h : ∀ i, i < E.length → edgeAt n E i = 0) : Good n E := by
  have key : ∀ i (hi : i < E.length), (0 ≤ min E[i].1 E[i].2 ∧ max E[i].1 E[i].2 < (n : Int) ∧ E[i].1 ≠ E[i].2) ∧ ris E[i] ∉ (E.take i).map ris := fun i hi => by
    have := h i hi
    unfold edgeAt at this
    rw [show E.getD i (0, 0) = E[i] by simp [List.getD, hi]] at this
    exact edgeFault_zero this
  refine ⟨?_, fun e he => ?_⟩
  · unfold List.Nodup
    rw [List.pairwise_iff_getElem]
    intro i j hi hj hij heq
    rw [List.length_map] at hi hj
    refine (key j hj).2 ?_
    rw [List.getElem_map, List.getElem_map] at heq
    rw [← heq]
    refine List.mem_map.2 ⟨E[i], ?_, rfl⟩
    rw [List.mem_take_iff_getElem]
    exact ⟨i, by omega, rfl⟩
  · obtain ⟨i, hi, rfl⟩ := List.getElem_of_mem he
    exact (key i hi).1
end

section
theorem ris_comm (a b : Int) : ris (a, b) = ris (b, a) := by unfold ris; exact Prod.ext (by simp only; omega) (by simp only; omega)
theorem ris_ris (e : Int × Int) : ris (ris e) = ris e := by unfold ris; exact Prod.ext (by simp only; omega) (by simp only; omega)
theorem ris_eta (e : Int × Int) : ris ((ris e).1, (ris e).2) = ris e := ris_ris e
theorem idxOf_first : ∀ {S : List (Int × Int)} {x : Int × Int} {k : Nat} (hk : k < S.length), S[k] = x → (∀ i (hi : i < S.length), i < k → S[i] ≠ x) → S.idxOf x = k
  | [], x, k, hk, _, _ => by simp at hk
  | a :: t, x, k, hk, he, hn => by
    rw [List.idxOf_cons]
    rcases k with _ | k
    · simp only [List.getElem_cons_zero] at he
      simp [he]
    · have h0 := hn 0 (by simp) (by omega)
      simp only [List.getElem_cons_zero] at h0
      have hb : (a == x) = false := by simpa using h0
      rw [hb]
      simp only [cond_false]
      rw [idxOf_first (k := k) (by simpa using hk) (by simpa using he) (fun i hi hik => by
        have := hn (i + 1) (by simp; omega) (by omega)
        simpa using this)]
/-- Found first at a place. -/
theorem idL_at {S : List (Int × Int)} {a b : Int} {k : Nat} (hk : k < S.length) (he : S[k] = ris (a, b)) (hn : ∀ i (hi : i < S.length), i < k → S[i] ≠ ris (a, b)) : idL S a b = k := by
  have hm : ris (a, b) ∈ S := by rw [← he]; exact List.getElem_mem hk
  unfold idL
  rw [if_pos hm, idxOf_first hk he hn]
theorem idL_none {S : List (Int × Int)} {a b : Int} (hn : ∀ i (hi : i < S.length), S[i] ≠ ris (a, b)) : idL S a b = -1 := by
  unfold idL
  rw [if_neg (fun hm => by
    obtain ⟨i, hi, h⟩ := List.getElem_of_mem hm
    exact hn i hi h)]
theorem idL_pos {S : List (Int × Int)} {a b : Int} : 0 ≤ idL S a b ↔ ris (a, b) ∈ S := by
  unfold idL
  by_cases h : ris (a, b) ∈ S
  · rw [if_pos h]; exact ⟨fun _ => h, fun _ => by omega⟩
  · rw [if_neg h]; exact ⟨fun h => by omega, fun x => absurd x h⟩
theorem idL_comm (S : List (Int × Int)) (a b : Int) : idL S a b = idL S b a := by unfold idL; rw [ris_comm]
theorem lowerE_at : ∀ {S : List (Int × Int)} {e : Int × Int} {k : Nat}, k ≤ S.length → (∀ i (hi : i < S.length), i < k → ltE S[i] e) → (∀ (hk : k < S.length), ¬ ltE S[k] e) → lowerE S e = k
  | [], e, k, hk, _, _ => by simp at hk; subst hk; rfl
  | a :: t, e, k, hk, h1, h2 => by
    rw [lowerE]
    rcases k with _ | k
    · have := h2 (by simp)
      simp only [List.getElem_cons_zero] at this
      rw [if_neg this]
    · have := h1 0 (by simp) (by omega)
      simp only [List.getElem_cons_zero] at this
      rw [if_pos this]
      congr 1
      refine lowerE_at (by simpa using hk) (fun i hi hik => ?_) (fun hk' => ?_)
      · have := h1 (i + 1) (by simp; omega) (by omega)
        simpa using this
      · have := h2 (by simp; omega)
        simpa using this
theorem rising_ext {A B : List Int} (ha : A.Pairwise (· < ·)) (hb : B.Pairwise (· < ·)) (h : ∀ x, x ∈ A ↔ x ∈ B) : A = B := by
  have na : A.Nodup := ha.imp (fun h => by omega)
  have nb : B.Nodup := hb.imp (fun h => by omega)
  exact List.Perm.eq_of_pairwise (le := (· < ·)) (fun _ _ _ _ h1 h2 => by omega) ha hb ((List.perm_ext_iff_of_nodup na nb).2 h)
/-- The document's way to those beside a vertex. -/
def nearF (n : Nat) (S : List (Int × Int)) (v : Int) : List Int := ((List.range n).filter fun (u : Nat) => decide (0 ≤ idL S (u : Int) v)).map fun (u : Nat) => (u : Int)
theorem near_all {S : List (Int × Int)} (hF : Fine S) {n : Nat} (hn : ∀ e, e ∈ S → 0 ≤ e.1 ∧ e.2 < n) (v : Int) : nearL S v = nearF n S v := by
  refine rising_ext (near_rising hF v) ?_ (fun x => ?_)
  · unfold nearF
    rw [List.pairwise_map]
    exact (List.pairwise_lt_range.filter _).imp (fun h => by omega)
  · rw [near_mem hF]
    unfold nearF
    simp only [List.mem_map, List.mem_filter, List.mem_range, decide_eq_true_eq, idL_pos]
    constructor
    · intro h
      have hh := hn _ h
      unfold ris at hh
      simp only at hh
      refine ⟨x.toNat, ⟨by omega, ?_⟩, by omega⟩
      rw [show ((x.toNat : Nat) : Int) = x by omega, ris_comm]
      exact h
    · rintro ⟨u, ⟨_, h2⟩, rfl⟩
      rw [ris_comm]
      exact h2
theorem nearF_succ (n : Nat) (S : List (Int × Int)) (v : Int) : nearF (n + 1) S v = nearF n S v ++ (if 0 ≤ idL S (n : Int) v then [(n : Int)] else []) := by
  unfold nearF
  rw [List.range_succ, List.filter_append, List.map_append]
  congr 1
  by_cases h : 0 ≤ idL S (n : Int) v <;> simp [h]
/-- What goes with a good list of edges. -/
theorem good_fine {n : Int} {E : List (Int × Int)} (h : Good n E) : Fine (sortE E) ∧ ∀ e, e ∈ sortE E → 0 ≤ e.1 ∧ e.2 < n := by
  have hp := sortE_perm _ E rfl
  have key : ∀ e, e ∈ sortE E → e.1 < e.2 ∧ 0 ≤ e.1 ∧ e.2 < n := fun e he => by
    have := hp.mem_iff.1 he
    obtain ⟨d, hd, rfl⟩ := List.mem_map.1 this
    have := h.2 d hd
    unfold ris
    simp only
    omega
  exact ⟨⟨sortE_rising _ E rfl h.1, fun e he => (key e he).1⟩, fun e he => (key e he).2⟩
theorem sortE_len (E : List (Int × Int)) : (sortE E).length = E.length := by rw [(sortE_perm _ E rfl).length_eq, List.length_map]
theorem good_take {n : Int} {E : List (Int × Int)} (h : Good n E) (k : Nat) : Good n (E.take k) := by
  refine ⟨?_, fun e he => h.2 e (List.mem_of_mem_take he)⟩
  rw [List.map_take]
  exact h.1.sublist (List.take_sublist _ _)
theorem edgeFault_of {n : Int} {T : List (Int × Int)} {e : Int × Int} (h : 0 ≤ min e.1 e.2 ∧ max e.1 e.2 < n ∧ e.1 ≠ e.2) (hn : ris e ∉ T) : edgeFault n T e = 0 := by
  unfold edgeFault
  rw [if_neg (by omega), if_neg (by omega), if_neg hn]
theorem ok_of_good {n : Nat} {E : List (Int × Int)} (h : Good n E) : ∀ i, i < E.length → edgeAt n E i = 0 := by
  intro i hi
  unfold edgeAt
  rw [show E.getD i (0, 0) = E[i] by simp [List.getD, hi]]
  refine edgeFault_of (h.2 _ (List.getElem_mem hi)) (fun hm => ?_)
  obtain ⟨d, hd, he⟩ := List.mem_map.1 hm
  rw [List.mem_take_iff_getElem] at hd
  obtain ⟨j, hj, rfl⟩ := hd
  have hlt : j < i := by omega
  have := List.pairwise_iff_getElem.1 h.1 j i (by simp; omega) (by simpa using hi) hlt
  rw [List.getElem_map, List.getElem_map] at this
  exact this he
def LabOk (L : List Int) : Prop := ∀ x, x ∈ L → 0 ≤ x ∧ x ≤ 255
/-- When nothing is wrong. -/
theorem newFault_none {L : List Int} {E : List (Int × Int)} : newFault L E = none ↔ L.length ≤ 4096 ∧ E.length ≤ 16384 ∧ LabOk L ∧ Good L.length E := by
  unfold newFault
  by_cases h1 : 4096 < L.length ∨ 16384 < E.length
  · rw [if_pos h1]
    exact ⟨fun h => absurd h (by simp), fun h => by omega⟩
  · rw [if_neg h1]
    have hl : LabOk L ↔ ∀ i, i < L.length → labBad L i = false := by
      constructor
      · intro h i hi
        have := h L[i] (List.getElem_mem hi)
        unfold labBad
        rw [show L.getD i 0 = L[i] by simp [List.getD, hi]]
        simp; omega
      · intro h x hx
        obtain ⟨i, hi, rfl⟩ := List.getElem_of_mem hx
        have := h i hi
        unfold labBad at this
        rw [show L.getD i 0 = L[i] by simp [List.getD, hi]] at this
        simp at this; omega
    constructor
    · intro h
      split at h
      · cases h
      · rename_i h2
        split at h
        · cases h
        · rename_i h3
          refine ⟨by omega, by omega, hl.2 (fun i hi => ?_), good_of_ok (fun i hi => ?_)⟩
          · have := List.find?_eq_none.1 h2 i (List.mem_range.2 hi)
            simpa using this
          · have := List.find?_eq_none.1 h3 i (List.mem_range.2 hi)
            simpa using this
    · rintro ⟨_, _, h3, h4⟩
      rw [find_none (hl.1 h3), find_none (fun i hi => by simp [ok_of_good h4 i hi])]
/-- The rows' lengths, added up. -/
def degs (n : Nat) (S : List (Int × Int)) : Nat := ((List.range n).map fun (v : Nat) => (nearL S (v : Int)).length).sum
theorem degs_succ (n : Nat) (S : List (Int × Int)) : degs (n + 1) S = degs n S + (nearL S (n : Int)).length := by
  unfold degs
  rw [List.range_succ, List.map_append, List.sum_append]
  simp
theorem degs_snoc (S : List (Int × Int)) (a b : Nat) (hab : a < b) : ∀ n, degs n (S ++ [((a : Int), (b : Int))]) = degs n S + (if a < n then 1 else 0) + (if b < n then 1 else 0)
  | 0 => by simp [degs]
  | n + 1 => by
    rw [degs_succ, degs_succ, degs_snoc S a b hab n, nearL_snoc, List.length_append]
    rcases (by omega : n < a ∨ n = a ∨ (a < n ∧ n < b) ∨ n = b ∨ b < n) with h | h | h | h | h
    · have e1 : ¬ (a : Int) = n := by omega
      have e2 : ¬ (b : Int) = n := by omega
      simp only [e1, e2, if_false, List.length_nil]
      rw [if_neg (by omega), if_neg (by omega), if_neg (by omega), if_neg (by omega)]
      omega
    · have e1 : (a : Int) = n := by omega
      simp only [e1, if_true, List.length_singleton]
      rw [if_neg (by omega), if_neg (by omega), if_pos (by omega), if_neg (by omega)]
      omega
    · have e1 : ¬ (a : Int) = n := by omega
      have e2 : ¬ (b : Int) = n := by omega
      simp only [e1, e2, if_false, List.length_nil]
      rw [if_pos (by omega), if_neg (by omega), if_pos (by omega), if_neg (by omega)]
      omega
    · have e1 : ¬ (a : Int) = n := by omega
      have e2 : (b : Int) = n := by omega
      simp only [e1, e2, if_false, if_true, List.length_singleton]
      rw [if_pos (by omega), if_neg (by omega), if_pos (by omega), if_pos (by omega)]
      omega
    · have e1 : ¬ (a : Int) = n := by omega
      have e2 : ¬ (b : Int) = n := by omega
      simp only [e1, e2, if_false, List.length_nil]
      rw [if_pos (by omega), if_pos (by omega), if_pos (by omega), if_pos (by omega)]
      omega
theorem degs_two {n : Nat} : ∀ (k : Nat) (S : List (Int × Int)), S.length = k → (∀ e, e ∈ S → e.1 < e.2) → (∀ e, e ∈ S → 0 ≤ e.1 ∧ e.2 < (n : Int)) → degs n S = 2 * k
  | 0, S, h, _, _ => by
    have : S = [] := List.eq_nil_of_length_eq_zero h
    subst this
    unfold degs
    have : ∀ m, ((List.range m).map fun (v : Nat) => (nearL [] (v : Int)).length).sum = 0 := fun m => by
      induction m with
      | zero => rfl
      | succ m ih => rw [List.range_succ, List.map_append, List.sum_append, ih]; simp [nearL]
    exact this n
  | k + 1, S, h, hl, hr => by
    have hne : S ≠ [] := fun e => by simp [e] at h
    have hd := List.dropLast_concat_getLast hne
    have hg := List.getLast_mem hne
    have h1 := hl _ hg
    have h2 := hr _ hg
    have ih := degs_two k S.dropLast (by simp [h]) (fun e he => hl e ((List.dropLast_sublist S).subset he)) (fun e he => hr e ((List.dropLast_sublist S).subset he))
    have he : S.getLast hne = (((S.getLast hne).1.toNat : Int), ((S.getLast hne).2.toNat : Int)) := Prod.ext (by simp only; omega) (by simp only; omega)
    rw [← hd, he, degs_snoc _ _ _ (by omega), ih, if_pos (by omega), if_pos (by omega)]
    omega
end

section
open Go.RowKit

theorem part_int (xs : Array Value) (i : Nat) (v : Value) (w : World) (h : xs[i]? = some v) : (part 3 xs i).run Tryz.prog w = .ok v w := by
  simp [part, h]
theorem fields_eq (a b c d : Int) (n1 n2 : String) (h1 : n1 ≠ "_") (h2 : n2 ≠ "_") (t1 t2 p1 p2 : String) (b1 b2 : Nat) (w : World) :
    (Op.eqFields 9999 #[.int .i64 a, .int .i64 b] #[.int .i64 c, .int .i64 d] [⟨n1, 3, 0, false, t1, p1, b1⟩, ⟨n2, 3, 1, false, t2, p2, b2⟩]).run Tryz.prog w = .ok (decide ((a, b) = (c, d))) w := by
  have e1 := run_equalIn_int (P := Tryz.prog) w 9998 3 .i64 .i64 a c Tryz.underlying3
  have e2 := run_equalIn_int (P := Tryz.prog) w 9998 3 .i64 .i64 b d Tryz.underlying3
  have g1 := part_int #[.int .i64 a, .int .i64 b] 0 (.int .i64 a) w rfl
  have g2 := part_int #[.int .i64 a, .int .i64 b] 1 (.int .i64 b) w rfl
  have g3 := part_int #[.int .i64 c, .int .i64 d] 0 (.int .i64 c) w rfl
  have g4 := part_int #[.int .i64 c, .int .i64 d] 1 (.int .i64 d) w rfl
  simp only [Nat.reduceAdd] at e1 e2
  unfold Op.eqFields
  rw [if_pos h1]
  simp only [Sem.run_bind, g1, g3, Result.andThen_ok, e1]
  by_cases k1 : a = c
  · subst k1
    simp only [beq_self_eq_true, Bool.not_true, Bool.false_eq_true, if_false]
    unfold Op.eqFields
    rw [if_pos h2]
    simp only [Sem.run_bind, g2, g4, Result.andThen_ok, e2]
    by_cases k2 : b = d
    · subst k2
      simp [Op.eqFields]
    · simp [k2]
  · simp [k1]
theorem eql_edge (a b c d : Int) (w : World) : (binOp .eql 64 (.agg #[.int .i64 a, .int .i64 b]) (.agg #[.int .i64 c, .int .i64 d])).run Tryz.prog w = .ok (.bool (decide ((a, b) = (c, d)))) w := by
  rw [run_eql_struct, run_equalIn_struct _ 9999 _ _ _ (by kernel_rfl) (by kernel_rfl)]
  simp only [Program.fieldsOf, Tryz.underlying64]
  rw [fields_eq a b c d "A" "B" (by decide) (by decide), Result.andThen_ok]
theorem neq_edge (a b c d : Int) (w : World) : (binOp .neq 64 (.agg #[.int .i64 a, .int .i64 b]) (.agg #[.int .i64 c, .int .i64 d])).run Tryz.prog w = .ok (.bool (!decide ((a, b) = (c, d)))) w := by
  rw [run_neq_struct, run_equalIn_struct _ 9999 _ _ _ (by kernel_rfl) (by kernel_rfl)]
  simp only [Program.fieldsOf, Tryz.underlying64]
  rw [fields_eq a b c d "A" "B" (by decide) (by decide), Result.andThen_ok]
theorem eql_refEdge (a b c d : Int) (w : World) : (binOp .eql 56 (.agg #[.int .i64 a, .int .i64 b]) (.agg #[.int .i64 c, .int .i64 d])).run Tryz.prog w = .ok (.bool (decide ((a, b) = (c, d)))) w := by
  rw [run_eql_struct, run_equalIn_struct _ 9999 _ _ _ (by kernel_rfl) (by kernel_rfl)]
  simp only [Program.fieldsOf, Tryz.underlying56]
  rw [fields_eq a b c d "A" "B" (by decide) (by decide), Result.andThen_ok]
theorem neq_refEdge (a b c d : Int) (w : World) : (binOp .neq 56 (.agg #[.int .i64 a, .int .i64 b]) (.agg #[.int .i64 c, .int .i64 d])).run Tryz.prog w = .ok (.bool (!decide ((a, b) = (c, d)))) w := by
  rw [run_neq_struct, run_equalIn_struct _ 9999 _ _ _ (by kernel_rfl) (by kernel_rfl)]
  simp only [Program.fieldsOf, Tryz.underlying56]
  rw [fields_eq a b c d "A" "B" (by decide) (by decide), Result.andThen_ok]
theorem guard_edge (op : BinOp) (x y : Operand) (xs ys : Array Value) (w : World) : (eqGuard op 64 x y (.agg xs) (.agg ys)).run Tryz.prog w = .ok () w := run_eqGuard_agg w op _ x y xs ys (by kernel_rfl)
theorem guard_refEdge (op : BinOp) (x y : Operand) (xs ys : Array Value) (w : World) : (eqGuard op 56 x y (.agg xs) (.agg ys)).run Tryz.prog w = .ok () w := run_eqGuard_agg w op _ x y xs ys (by kernel_rfl)
theorem drew_more (w : World) (a b : Nat) : ∃ q, (w.drewN a).drewN b = w.drewN q := ⟨a + b, by simp [World.drewN, Nat.add_assoc]⟩
end

section
open Go.RowKit

theorem Tryz.infoRE : (Tryz.prog.info? 56).map (fun i => (i.zero, i.size, i.bytes)) = some (some (.agg #[.int .i64 0, .int .i64 0]), 2, 16) := by kernel_rfl
theorem Tryz.infoAE : (Tryz.prog.info? 64).map (fun i => (i.zero, i.size, i.bytes)) = some (some (.agg #[.int .i64 0, .int .i64 0]), 2, 16) := by kernel_rfl
/-- The cells of edges, one behind the other. -/
def eL : List (Int × Int) → List Value
  | [] => []
  | e :: t => .int .i64 e.1 :: .int .i64 e.2 :: eL t
theorem eL_len : ∀ E : List (Int × Int), (eL E).length = E.length * 2
  | [] => rfl
  | e :: t => by simp [eL, eL_len t]; omega
theorem eL_app : ∀ E F : List (Int × Int), eL (E ++ F) = eL E ++ eL F
  | [], F => rfl
  | e :: t, F => by simp [eL, eL_app t F]
theorem eL_at : ∀ (E : List (Int × Int)) (i : Nat), i < E.length → (eL E)[i * 2]? = some (.int .i64 (E.getD i (0, 0)).1) ∧ (eL E)[i * 2 + 1]? = some (.int .i64 (E.getD i (0, 0)).2)
  | [], i, h => by simp at h
  | e :: t, 0, _ => by simp [eL]
  | e :: t, i + 1, h => by
    have := eL_at t i (by simpa using h)
    rw [show (i + 1) * 2 = i * 2 + 1 + 1 by omega]
    simp only [eL, List.getElem?_cons_succ, List.getD_cons_succ]
    exact this
theorem eL_one : ∀ (E : List (Int × Int)) (y : Value), y ∈ eL E → y.oneCell' = true
  | [], y, h => by simp [eL] at h
  | e :: t, y, h => by
    simp only [eL, List.mem_cons] at h
    rcases h with rfl | rfl | h
    · rfl
    · rfl
    · exact eL_one t y h
theorem own_edges {w : World} {base n e : Nat} {v : Value} {E : List (Int × Int)} (h : w.ownsRow base e 2 v n (eL E)) : EdgesV w v E := by
  have hn : E.length = n := by have := h.1; rw [eL_len] at this; omega
  subst hn
  have h0 := h
  rcases h.2 with ⟨rfl, h1⟩ | ⟨g, cap, cur, rfl, _, hh, hcap, _⟩
  · exact Or.inl ⟨List.eq_nil_of_length_eq_zero h1, _, _, rfl⟩
  · rcases Nat.eq_zero_or_pos E.length with h3 | h3
    · exact Or.inl ⟨List.eq_nil_of_length_eq_zero h3, _, _, by rw [h3]⟩
    · refine Or.inr ⟨h3, g, 0, cap, rfl, fun i hi => ?_⟩
      rw [Nat.zero_add, h0.cellAt _ (by omega), h0.cellAt _ (by omega)]
      exact eL_at E i hi
theorem own_cap {w : World} {base n e s c : Nat} {A : Option Addr} {xs : List Value} (h : w.ownsRow base e s (.slice A n c) n xs) : n ≤ c := by
  rcases h.2 with ⟨e, h1⟩ | ⟨g, cap, cur, e, _, hh, hcap, _⟩
  · omega
  · injection e with e1 e2 e3; omega
theorem edges_take {w : World} {A : Option Addr} {n c : Nat} {E : List (Int × Int)} (h : EdgesV w (.slice A n c) E) (hn : E.length = n) (k : Nat) (hk : k ≤ n) : EdgesV w (.slice A k c) (E.take k) := by
  rcases h with ⟨rfl, ao, cap, e⟩ | ⟨h0, b, off, cap, e, hc⟩
  · injection e with e1 e2 e3
    have : k = 0 := by omega
    subst this
    exact Or.inl ⟨rfl, _, _, rfl⟩
  · injection e with e1 e2 e3
    subst e1
    rcases Nat.eq_zero_or_pos k with h1 | h1
    · subst h1; exact Or.inl ⟨rfl, _, _, rfl⟩
    · have hl : (E.take k).length = k := by rw [List.length_take]; omega
      refine Or.inr ⟨by omega, b, off, c, by rw [hl], fun i hi => ?_⟩
      rw [hl] at hi
      have := hc i (by omega)
      rw [show (E.take k).getD i (0, 0) = E.getD i (0, 0) by simp [List.getD, List.getElem?_take_of_lt hi]]
      exact this
theorem edges_drop {w : World} {b off n c c' : Nat} {E : List (Int × Int)} (h : EdgesV w (.slice (some ⟨b, off, none⟩) n c) E) (hn : E.length = n) (k : Nat) (hk : k < n) : EdgesV w (.slice (some ⟨b, off + k * 2, none⟩) (n - k) c') (E.drop k) := by
  rcases h with ⟨rfl, ao, cap, e⟩ | ⟨h0, b', off', cap, e, hc⟩
  · simp at hn; omega
  · injection e with e1 e2 e3
    injection e1 with e1
    injection e1 with e1 e4
    subst e1 e4
    have hl : (E.drop k).length = n - k := by rw [List.length_drop]; omega
    refine Or.inr ⟨by omega, b, off + k * 2, c', by rw [hl], fun i hi => ?_⟩
    rw [hl] at hi
    have := hc (k + i) (by omega)
    rw [show (E.drop k).getD i (0, 0) = E.getD (k + i) (0, 0) by simp [List.getD, List.getElem?_drop], show off + k * 2 + i * 2 = off + (k + i) * 2 by omega]
    exact this
theorem edges_new (w : World) (t : TypeId) (x y : Int) (c : Nat) : EdgesV (w.alloc (.cells #[.int .i64 x, .int .i64 y] t)) (.slice (some ⟨w.heap.size, 0, none⟩) 1 c) [(x, y)] := by
  have h := Whole.new w t #[.int .i64 x, .int .i64 y]
  refine Or.inr ⟨by simp, _, _, _, rfl, fun i hi => ?_⟩
  have : i = 0 := by simpa using hi
  subst this
  exact ⟨h.cell 0, h.cell 1⟩

/-- Edges behind a row of the call's own. -/
theorem wpList_appEdges {P : Program} (w : World) {ops : Array Oper} {rest : List Oper} {o : Oper} {a : Act} {Q : Exit → Act → World → Prop} (hgd : o.guard = none) (s x : Operand) (t e : TypeId)
    (ho : o.op = .call { callee := .builtin .append, args := #[s, x], argTypes := #[t, t] })
    (base : Nat) (i : TypeInfo) (z : Value) (ht : P.underlying t = some (.slice e)) (hi : P.info? e = some i) (hz : i.zero = some z) (hzs : z.cells.size = 2)
    (hsize : i.size = 2) (hby : i.bytes = 16) (v : Value) (n : Nat) (xs : List Value) (hs : a.eval s = v) (hown : w.ownsRow base e 2 v n xs)
    (u : Value) (l : List (Int × Int)) (hx : a.eval x = u) (hu : EdgesV w u l) (hn : n + l.length ≤ 1000000000) (hbase : base ≤ w.heap.size)
    (h : ∀ (A' : Option Addr) (c' : Nat) w', w'.ownsRow base e 2 (.slice A' (n + l.length) c') (n + l.length) (xs ++ eL l) → Grew w v w' (.slice A' (n + l.length) c') → wpList P ops Q rest (a.put o.dst (.slice A' (n + l.length) c')) w') :
    wpList P ops Q (o :: rest) a w := by
  have key : ∀ (ad : Addr) (c : Nat), u = .slice (some ad) l.length c → (∀ j y, (eL l)[j]? = some y → w.cell? (ad.add j) = some y) → wpList P ops Q (o :: rest) a w := by
    intro ad c hA hc
    subst hA
    refine wpList_append_own_at _ hgd s x t ho base e i z 2 16 ht hi hz hsize hby hzs (by decide) v n xs hs hown ad l.length c (eL l) hx (eL_len l) hc (eL_one l) (by unfold maxLen; omega) (by omega) hbase ?_
    intro v' w' hown' hgrow _ hloc
    obtain ⟨A', c', rfl⟩ := own_form hown'
    refine h A' c' w' hown' ⟨hgrow, ?_⟩
    rcases hloc with hl | hl
    · exact Or.inl hl
    · exact Or.inr ⟨_, hl, Nat.le_refl _⟩
  rcases hu with ⟨rfl, ao, cap, rfl⟩ | ⟨_, b, off, cap, rfl, hc⟩
  · rcases ao with _ | ad
    · obtain ⟨A', c', rfl⟩ := own_form hown
      refine wpList_plain hgd fun K hK => ?_
      have hr : (Builtin.append_ #[t, t] o.type #[.slice A' n c', .slice none 0 cap]).run P w = .ok (.slice A' n c') w := by
        rcases hown.2 with ⟨h1', h2⟩ | ⟨g, cap', cur, h1', _, _, hnc, _⟩
        · injection h1' with e1 e2 e3
          subst e1 e2 e3
          simp [Builtin.append_, run_underlying ht, sizeOf, typeInfo, hi, Builtin.lenOf, Builtin.firstCells]
        · injection h1' with e1 e2 e3
          subst e1 e3
          simp [Builtin.append_, run_underlying ht, sizeOf, typeInfo, hi, Builtin.lenOf, Builtin.firstCells, hnc, storeCells]
      unfold Oper.wp execOp
      simp only [ho, resolve, invoke, builtin, Sem.run_bind, Sem.run_pure, Result.andThen_ok, List.map_toArray, List.map_cons, List.map_nil, hs, hx, hr]
      exact hK _ _ (h A' c' w (by simpa [eL] using hown) (Grew.refl _ _))
    · exact key ad cap rfl (fun j y hj => by simp [eL] at hj)
  · refine key _ cap rfl fun j y hj => ?_
    have hjl : j < l.length * 2 := by
      rcases Nat.lt_or_ge j (l.length * 2) with h2 | h2
      · exact h2
      · rw [List.getElem?_eq_none (by rw [eL_len]; exact h2)] at hj; cases hj
    have h1 := hc (j / 2) (by omega)
    have h2 := eL_at l (j / 2) (by omega)
    rw [addr_plus]
    rcases (by omega : j = j / 2 * 2 ∨ j = j / 2 * 2 + 1) with e | e
    · rw [e, h2.1] at hj
      rw [e, h1.1]
      simpa using hj
    · rw [e, h2.2] at hj
      rw [e, ← Nat.add_assoc, h1.2]
      simpa using hj
end
end Go.Proofs.YtnjkjgmnnmgngaaGreatDoor
