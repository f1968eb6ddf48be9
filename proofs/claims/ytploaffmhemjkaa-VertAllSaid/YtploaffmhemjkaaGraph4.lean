/- A graph in memory, and what is read of it. What is read of a graph: Label, Degree, Near, At. graph.Id, Has, Edge: contracts. graph.Has, graph.Edge: contracts. -/
import Derived.Test.YtploaffmhemjkaaSort4
import Derived.Test.YtploaffmhemjkaaRows4
import Derived.Test.YtploaffmhemjkaaG0
import Derived.Test.YtploaffmhemjkaaShelf
namespace Go.Proofs.Ytploaffmhemjkaa
section
open Go.RowKit

/-- Of each vertex those beside it; then of each the numbers of its edges. -/
def rowsOf (n : Nat) (S : List (Int × Int)) : List (List Int) := ((List.range n).map fun (v : Nat) => nearL S v) ++ ((List.range n).map fun (v : Nat) => atL S v)
theorem rowsOf_len (n : Nat) (S : List (Int × Int)) : (rowsOf n S).length = n + n := by simp [rowsOf]
theorem rowsOf_near {n v : Nat} (S : List (Int × Int)) (h : v < n) : (rowsOf n S)[v]? = some (nearL S v) := by
  unfold rowsOf
  rw [List.getElem?_append_left (by simpa using h)]
  simp [h]
theorem rowsOf_at {n v : Nat} (S : List (Int × Int)) (h : v < n) : (rowsOf n S)[n + v]? = some (atL S v) := by
  unfold rowsOf
  rw [List.getElem?_append_right (by simp)]
  simp [h]
/-- A graph of labels and edges in order, in memory of its own. -/
def GraphOwn (w : World) (base g : Nat) (L : List Int) (S : List (Int × Int)) : Prop :=
  ∃ (A : Option Addr) (c eb nb ab : Nat) (us : List Value),
    Whole w g 69 #[.slice A L.length c, .slice (some ⟨eb, 0, none⟩) S.length S.length, .slice (some ⟨nb, 0, none⟩) L.length L.length, .slice (some ⟨ab, 0, none⟩) L.length L.length] ∧
    w.ownsRow base 3 1 (.slice A L.length c) L.length (intCells L) ∧ Whole w eb 75 (ecells S) ∧
    Whole w nb 22 (us.take L.length).toArray ∧ Whole w ab 22 (us.drop L.length).toArray ∧ Fam w base us (rowsOf L.length S) ∧ base ≤ g ∧ base ≤ eb ∧ base ≤ nb ∧ base ≤ ab
theorem GraphOwn.below {w w' : World} {base g B : Nat} {L : List Int} {S : List (Int × Int)} (h : GraphOwn w base g L S) (hb : Below B w w') (hB : w.heap.size ≤ B) : GraphOwn w' base g L S := by
  obtain ⟨A, c, eb, nb, ab, us, h1, h2, h3, h4, h5, h6, h7⟩ := h
  exact ⟨A, c, eb, nb, ab, us, h1.below hb (by have := h1.lt; omega), own_below h2 hb hB, h3.below hb (by have := h3.lt; omega), h4.below hb (by have := h4.lt; omega), h5.below hb (by have := h5.lt; omega), h6.below hb hB, h7⟩
section
variable {w : World} {base g : Nat} {L : List Int} {S : List (Int × Int)}

set_option maxRecDepth 100000 in
theorem len_any (h : GraphOwn w base g L S) : Calls Try.prog 25 #[.pointer (some ⟨g, 0, none⟩)] w fun e w' => e = .returned (.int .i64 L.length) ∧ w' = w := by
  obtain ⟨A, c, eb, nb, ab, us, h1, _⟩ := h
  have c0 : w.cell? ⟨g, 0, none⟩ = some (.slice A L.length c) := h1.cell 0
  clear h1
  go_enter Try.func25, Try.ntmps25
  go_wp2_with fail
  go_ret
  exact ⟨rfl, rfl⟩
set_option maxRecDepth 100000 in
theorem len_nil (w : World) : Calls Try.prog 25 #[.pointer none] w fun e w' => e = .returned (.int .i64 0) ∧ w' = w := by
  go_enter Try.func25, Try.ntmps25
  go_wp2_with fail
  go_ret
  exact ⟨rfl, rfl⟩
def hasV (n : Nat) (v : Int) : Bool := decide (0 ≤ v) && decide (v < n)
set_option maxRecDepth 100000 in
set_option maxHeartbeats 1000000 in
theorem has_len (n : Nat) (v : Int) (p : Value) (w : World) (hl : Calls Try.prog 25 #[p] w fun e w' => e = .returned (.int .i64 n) ∧ w' = w) :
    Calls Try.prog 57 #[p, .int .i64 v] w fun e w' => e = .returned (.bool (hasV n v)) ∧ w' = w := by
  have HL := Lib.hid hl
  clear hl
  by_cases h0 : 0 ≤ v
  · have t0 : decide (0 ≤ v) = true := decide_eq_true h0
    obtain ⟨z, hz⟩ : ∃ z, decide (v < (n : Int)) = z := ⟨_, rfl⟩
    have HV : Hid (hasV n v = z) := Lib.hid (by simp [hasV, h0, hz])
    clear h0
    go_enter Try.func57, Try.ntmps57
    go_wp2_with fail
    refine HL.out.mono ?_; rintro e w1 ⟨rfl, hw⟩; obtain rfl := hw.symm
    go_wp2_with fail
    go_ret
    exact ⟨by rw [HV.out]; rfl, rfl⟩
  · have t0 : decide (0 ≤ v) = false := decide_eq_false h0
    have HV : Hid (hasV n v = false) := Lib.hid (by simp [hasV, h0])
    clear h0
    go_enter Try.func57, Try.ntmps57
    go_wp2_with fail
    go_ret
    exact ⟨by rw [HV.out]; rfl, rfl⟩
end
end

section
open Go.RowKit
section
variable {w : World} {base g : Nat} {L : List Int} {S : List (Int × Int)}

theorem GraphOwn.near (h : GraphOwn w base g L S) {v : Nat} (hv : v < L.length) : ∃ (nb : Nat) (u : Value), w.cell? ⟨g, 2, none⟩ = some (.slice (some ⟨nb, 0, none⟩) L.length L.length) ∧ w.cell? ⟨nb, v, none⟩ = some u ∧ w.ownsRow base 3 1 u (nearL S v).length (intCells (nearL S v)) := by
  obtain ⟨A, c, eb, nb, ab, us, h1, h2, h3, h4, h5, h6, _⟩ := h
  have hl : us.length = L.length + L.length := by rw [h6.len, rowsOf_len]
  refine ⟨nb, us[v]'(by omega), h1.cell 2, ?_, h6.row v _ _ (List.getElem?_eq_getElem (by omega)) (rowsOf_near S hv)⟩
  rw [h4.cell v, List.getElem?_toArray, List.getElem?_take_of_lt hv, List.getElem?_eq_getElem (by omega)]
theorem GraphOwn.ats (h : GraphOwn w base g L S) {v : Nat} (hv : v < L.length) : ∃ (ab : Nat) (u : Value), w.cell? ⟨g, 3, none⟩ = some (.slice (some ⟨ab, 0, none⟩) L.length L.length) ∧ w.cell? ⟨ab, v, none⟩ = some u ∧ w.ownsRow base 3 1 u (atL S v).length (intCells (atL S v)) := by
  obtain ⟨A, c, eb, nb, ab, us, h1, h2, h3, h4, h5, h6, _⟩ := h
  have hl : us.length = L.length + L.length := by rw [h6.len, rowsOf_len]
  refine ⟨ab, us[L.length + v]'(by omega), h1.cell 3, ?_, h6.row (L.length + v) _ _ (List.getElem?_eq_getElem (by omega)) (rowsOf_at S hv)⟩
  rw [h5.cell v, List.getElem?_toArray, List.getElem?_drop, List.getElem?_eq_getElem (by omega)]
theorem GraphOwn.label (h : GraphOwn w base g L S) {v : Nat} (hv : v < L.length) : ∃ (b c : Nat), w.cell? ⟨g, 0, none⟩ = some (.slice (some ⟨b, 0, none⟩) L.length c) ∧ w.cell? ⟨b, v, none⟩ = some (.int .i64 (L.getD v 0)) := by
  obtain ⟨A, c, eb, nb, ab, us, h1, h2, _⟩ := h
  have c0 := h1.cell 0
  have h2' := h2
  rcases h2.2 with ⟨_, h3⟩ | ⟨b, cap, cur, e, _, _⟩
  · omega
  · injection e with e1 e2 e3
    subst e1
    refine ⟨b, c, c0, ?_⟩
    have := h2'.cellAt v (by omega)
    rw [this]
    simp [intCells, List.getD, hv]
theorem hasV_yes {n : Nat} {v : Int} (h : hasV n v = true) : ∃ k : Nat, v = k ∧ k < n := by
  simp [hasV] at h
  exact ⟨v.toNat, by omega, by omega⟩

theorem clone_own (M : List Int) (v : Value) (w : World) (h : SeqV w v M) (hn : M.length ≤ 1000000000) :
    Calls Try.prog 53 #[v] w fun e w' => ∃ v', e = .returned v' ∧ w'.ownsRow w.heap.size 3 1 v' M.length (intCells M) ∧ Below w.heap.size w w' := by
  rcases h with ⟨h0, A, c, rfl⟩ | ⟨h0, b, off, c, rfl, hc⟩
  · have hL : M = [] := List.eq_nil_of_length_eq_zero h0
    subst hL
    rcases A with _ | a
    · refine (Try.slices_Clone_int_nil 0 c w).mono ?_
      rintro e w' ⟨rfl, hw⟩
      obtain rfl := hw.symm
      exact ⟨_, rfl, World.ownsRow_nil _ _ _ 1, Below.refl _ _⟩
    · refine (Try.slices_Clone_int_zero a c w).mono ?_
      rintro e w' ⟨v', rfl, hown, _, hb⟩
      exact ⟨_, rfl, hown, hb⟩
  · have C1 := Try.slices_Clone_int b off M.length c M w (Nat.le_refl _) (by omega) (fun j hj => hc j hj)
    rw [List.take_length] at C1
    refine C1.mono ?_
    rintro e w' ⟨v', rfl, hown, _, hb⟩
    exact ⟨_, rfl, hown, hb⟩
theorem nearL_len (S : List (Int × Int)) (v : Int) : (nearL S v).length ≤ S.length := by unfold nearL; exact List.length_filterMap_le _ _

end
end

section
open Go.RowKit
section
variable {w : World} {base g : Nat} {L : List Int} {S : List (Int × Int)}

theorem search_row (M : List Int) (u : Value) (x : Int) (w : World) (h : SeqV w u M) (hr : M.Pairwise (· < ·)) (hn : M.length ≤ 1000000) :
    Calls Try.prog 69 #[u, .int .i64 x] w fun e w' => e = .returned (.tuple #[.int .i64 (M.countP (· < x) : Nat), .bool (M.contains x)]) ∧ ∃ d, w' = w.drewN d := by
  rcases h with ⟨h0, A, c, rfl⟩ | ⟨h0, b, off, c, rfl, hc⟩
  · have hL : M = [] := List.eq_nil_of_length_eq_zero h0
    subst hL
    refine (Try.slices_BinarySearch_int_empty A c x w).mono ?_
    rintro e w' ⟨rfl, hw⟩
    exact ⟨rfl, 0, hw⟩
  · have C1 := Try.slices_BinarySearch_int b off M.length c M x w (Nat.le_refl _) (by omega) (fun j hj => hc j hj) (by rw [List.take_length]; exact hr.imp (fun h => Int.le_of_lt h))
    rw [List.take_length] at C1
    exact C1

set_option maxRecDepth 100000 in
set_option maxHeartbeats 1000000 in
theorem id_no (n : Nat) (a b : Int) (p : Value) (w : World) (hl : Calls Try.prog 25 #[p] w fun e w' => e = .returned (.int .i64 n) ∧ w' = w) (hv : hasV n a = false) :
    Calls Try.prog 60 #[p, .int .i64 a, .int .i64 b] w fun e w' => e = .returned (.int .i64 (-1)) ∧ w' = w := by
  have H := has_len n a p w hl
  rw [hv] at H
  have HH := Lib.hid H
  clear H hl hv
  go_enter Try.func60, Try.ntmps60
  go_wp2_with fail
  refine HH.out.mono ?_; rintro e w1 ⟨rfl, hw⟩; obtain rfl := hw.symm
  go_wp2_with fail
  go_ret
  exact ⟨rfl, rfl⟩

set_option maxRecDepth 100000 in
set_option maxHeartbeats 1000000 in
theorem id_ok (h : GraphOwn w base g L S) (hF : Fine S) (hS : S.length ≤ 1000000) {a : Nat} (b : Int) (ha : a < L.length) :
    Calls Try.prog 60 #[.pointer (some ⟨g, 0, none⟩), .int .i64 a, .int .i64 b] w fun e w' => e = .returned (.int .i64 (idL S a b)) ∧ ∃ d, w' = w.drewN d := by
  have H := has_len L.length a _ w (len_any h)
  rw [show hasV L.length a = true by simp [hasV, ha]] at H
  obtain ⟨nb, u, c0, c1, hu⟩ := h.near ha
  obtain ⟨ab, x, d0, d1, hx⟩ := h.ats ha
  have hnl := nearL_len S a
  have B1 := search_row (nearL S a) u b w (own_seq hu) (near_rising hF a) (by omega)
  obtain ⟨Au, cu, rfl⟩ := own_form hu
  obtain ⟨Ax, cx, rfl⟩ := own_form hx
  obtain ⟨n, hn⟩ : ∃ n, L.length = n := ⟨_, rfl⟩
  rw [hn] at c0 d0 ha
  have i1 : (a : Int) < n := by omega
  have i2 : (0 : Int) ≤ a := by omega
  have HH := Lib.hid H
  obtain ⟨r, hr⟩ : ∃ r, idL S a b = r := ⟨_, rfl⟩
  rw [hr]
  by_cases hb : b ∈ nearL S a
  · have hid := id_found hF hb
    obtain ⟨i, hi⟩ : ∃ i, (nearL S a).countP (· < b) = i := ⟨_, rfl⟩
    have hcon : (nearL S a).contains b = true := by simpa using hb
    rw [hi] at hid B1
    rw [hcon] at B1
    have hil := (List.getElem?_eq_some_iff.1 hid).1
    have hsq := own_seq hx
    unfold SeqV at hsq
    obtain ⟨gb, off, rfl, hcs⟩ := IntsV.pos hsq hil
    have hcell2 := hcs i hil
    have hget : (atL S a).getD i 0 = r := by rw [← hr]; simp [List.getD, hid]
    rw [hget] at hcell2
    obtain ⟨z, hz⟩ : ∃ z, (nearL S a).length = z := ⟨_, rfl⟩
    obtain ⟨y, hy⟩ : ∃ y, (atL S a).length = y := ⟨_, rfl⟩
    rw [hz] at c1 B1
    rw [hy] at d1 hil
    have i3 : (i : Int) < y := by omega
    have i4 : (0 : Int) ≤ i := by omega
    have HB := Lib.hid B1
    clear H h hn hu hx hnl B1 hr hb hid hi hcon hz hy hsq hcs hget
    go_enter Try.func60, Try.ntmps60
    go_wp2_with fail
    refine HH.out.mono ?_; rintro e w1 ⟨rfl, hw⟩; obtain rfl := hw.symm
    go_wp2_with fail
    refine HB.out.mono ?_; rintro e w2 ⟨rfl, d, rfl⟩
    go_wp2_with fail
    go_ret
    exact ⟨rfl, _, rfl⟩
  · have hcon : (nearL S a).contains b = false := by simpa using hb
    have hneg : r = -1 := by rw [← hr, idL, if_neg (fun h => hb ((near_mem hF).2 h))]
    rw [hcon] at B1
    obtain ⟨z, hz⟩ : ∃ z, (nearL S a).length = z := ⟨_, rfl⟩
    rw [hz] at c1 B1
    have HB := Lib.hid B1; have HN := Lib.hid hneg
    clear H h hn hu hx hnl B1 hr hb hcon hneg hz d1
    go_enter Try.func60, Try.ntmps60
    go_wp2_with fail
    refine HH.out.mono ?_; rintro e w1 ⟨rfl, hw⟩; obtain rfl := hw.symm
    go_wp2_with fail
    refine HB.out.mono ?_; rintro e w2 ⟨rfl, d, rfl⟩
    go_wp2_with fail
    go_ret
    exact ⟨by rw [HN.out]; rfl, _, rfl⟩
end
end

section
open Go.RowKit
/-- Two results: an edge that lies in a box, and a value. -/
theorem results_edge2 {fn : Func} {p q : Tmp} (h : fn.results = #[.cell p 75, .tmp q]) (tmps : Array Value) (w : World) (g : Nat) (x y v : Value) (hp : tmps.getD p undef = .pointer (some ⟨g, 0, none⟩)) (hq : tmps.getD q undef = v) (hc : Whole w g 75 #[x, y]) :
    (results fn tmps).run Try.prog w = .ok (.tuple #[.agg #[x, y], v]) w := by
  have hp' : tmps[p]?.getD undef = .pointer (some ⟨g, 0, none⟩) := by simpa using hp
  have hq' : tmps[q]?.getD undef = v := by simpa using hq
  have c0 : w.cell? ⟨g, 0, none⟩ = some x := hc.cell 0
  have c1 : w.cell? ⟨g, 1, none⟩ = some y := hc.cell 1
  simp [results, h, hp', hq', asAddr, loadVar, go_sem, c0, c1]

section
variable {w : World} {base g : Nat} {L : List Int} {S : List (Int × Int)}

set_option maxRecDepth 100000 in
set_option maxHeartbeats 1000000 in
theorem hasE_of (a b r : Int) (p : Value) (w : World) (h : Calls Try.prog 60 #[p, .int .i64 a, .int .i64 b] w fun e w' => e = .returned (.int .i64 r) ∧ ∃ d, w' = w.drewN d) :
    Calls Try.prog 39 #[p, .int .i64 a, .int .i64 b] w fun e w' => e = .returned (.bool (decide (0 ≤ r))) ∧ ∃ d, w' = w.drewN d := by
  have H := Lib.hid h
  obtain ⟨z, hz⟩ : ∃ z, decide (0 ≤ r) = z := ⟨_, rfl⟩
  rw [hz]
  clear h
  go_enter Try.func39, Try.ntmps39
  go_wp2_with fail
  refine H.out.mono ?_; rintro e w1 ⟨rfl, d, rfl⟩
  go_wp2_with fail
  go_ret
  exact ⟨rfl, _, rfl⟩

end
end
end Go.Proofs.Ytploaffmhemjkaa
