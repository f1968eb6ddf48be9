/- perm.advance: its contract. -/
import Derived.Test.YtlkmbhbjhiobiaaDoorAllP
import Derived.Test.YtlkmbhbjhiobiaaDoorRef06b
import Derived.Test.YtlkmbhbjhiobiaaDoorShelf
import Derived.Sort.Row
import Derived.Shelf.RegionOpenPlain
namespace Go.Proofs.YtlkmbhbjhiobiaaDoor
open Go.RowKit
open Go.Sort (putRow putCells Holds)

/-- Numbers as the cells of a block. -/
def icells (L : List Int) : Array Value := (intCells L).toArray
theorem icells_size (L : List Int) : (icells L).size = L.length := by simp [icells, intCells]
theorem icells_at {L : List Int} {i : Nat} (h : i < L.length) : (icells L)[i]? = some (.int .i64 (L.getD i 0)) := by
  simp [icells, intCells, List.getD, h]
theorem icells_set (L : List Int) (i : Nat) (x : Int) : (icells L).setIfInBounds i (.int .i64 x) = icells (L.set i x) := by
  simp [icells, intCells, List.map_set]
theorem whole_putRow {w : World} {g : Nat} {t : TypeId} {cs : Array Value} (h : Whole w g t cs) (off : Nat) (d : Array Int) : Whole (putRow (Value.int .i64) w g off d) g t (putCells (Value.int .i64) off d cs) := by
  unfold Whole at h ⊢
  simp [putRow, Go.Sort.mapBlock, Array.getElem?_modify, h, Go.Sort.onCells]
theorem grown_putRow (w : World) (g off : Nat) (d : Array Int) : w.grownBy (putRow (Value.int .i64) w g off d) (some g) :=
  ⟨rfl, rfl, rfl, by simp [putRow, Go.Sort.mapBlock], fun j _ hne => by
    have : g ≠ j := fun e => hne (by rw [e])
    simp [putRow, Go.Sort.mapBlock, Array.getElem?_modify, this]⟩
theorem whole_holds {w : World} {g : Nat} {t : TypeId} {M : List Int} (h : Whole w g t (icells M)) (a : Nat) : Holds (Value.int .i64) w g a (M.drop a).toArray := by
  intro j hj
  have hj' : j < M.length - a := by simpa using hj
  refine ⟨?_, h.free _⟩
  rw [h.cell, icells_at (by omega)]
  have : j < (M.drop a).length := by simpa using hj'
  simp [List.getD, show a + j < M.length by omega]
theorem putCells_turn (M : List Int) (i : Nat) (hi : i < M.length) : putCells (Value.int .i64) (i + 1) (M.drop (i + 1)).reverse.toArray (icells M) = icells (turnL M i) := by
  apply Array.ext_getElem?
  intro k
  simp only [putCells, Array.getElem?_mapIdx]
  have hl : (turnL M i).length = M.length := by simp [turnL]; omega
  rcases Nat.lt_or_ge k M.length with hk | hk
  · rw [icells_at hk, icells_at (by omega)]
    simp only [Option.map_some, List.size_toArray, List.length_reverse, List.length_drop]
    have ht : (M.take (i + 1)).length = i + 1 := by rw [List.length_take]; omega
    by_cases h1 : i + 1 ≤ k
    · rw [if_pos ⟨h1, by omega⟩]
      have h2 : k - (i + 1) < (M.drop (i + 1)).reverse.length := by simp; omega
      simp only [turnL, List.getD]
      rw [List.getElem?_append_right (by omega), ht, List.getElem?_eq_getElem h2]
      simp [getElem!_pos, show k - (i + 1) < M.length - (i + 1) by omega]
    · rw [if_neg (by omega)]
      simp only [turnL, List.getD]
      rw [List.getElem?_append_left (by omega), List.getElem?_take_of_lt (by omega)]
  · rw [Array.getElem?_eq_none (by rw [icells_size]; exact hk), Array.getElem?_eq_none (by rw [icells_size]; omega)]
    rfl
theorem drewN_ahead (w : World) (n : Nat) : Go.Sort.ahead w n = w.drewN n := rfl
theorem grown_drewN (w : World) (n : Nat) (r : Option Nat) : w.grownBy (w.drewN n) r := ⟨rfl, rfl, rfl, Nat.le_refl _, fun _ _ _ => rfl⟩

theorem grown_setC (w : World) (g i : Nat) (u : Value) : w.grownBy (w.setCell ⟨g, i, none⟩ u) (some g) :=
  ⟨rfl, rfl, rfl, by simp [World.setCell], fun k _ hne => Below.heap_setCell _ _ _ k (fun e => hne (by rw [e]))⟩

/-- A tail turned round. -/
theorem reverse_tail (M : List Int) (n i g : Nat) (w : World) (hn : M.length = n) (hi : i < n) (hn8 : n ≤ 1000) (hw : Whole w g 3 (icells M)) :
    Calls Tryd.prog 40 #[.slice (some ⟨g, i + 1, none⟩) (n - (i + 1)) (n - (i + 1))] w fun e w' => e = .returned (.tuple #[]) ∧ Whole w' g 3 (icells (turnL M i)) ∧ w.grownBy w' (some g) := by
  have h := Tryd.slices_Reverse_int g (i + 1) (n - (i + 1)) (M.drop (i + 1)) w (whole_holds hw (i + 1)) (by simp; omega)
  have hl : (M.drop (i + 1)).length = n - (i + 1) := by simp; omega
  rw [hl] at h
  refine h.mono ?_
  rintro e w' ⟨he, q, rfl⟩
  rw [drewN_ahead]
  refine ⟨he, ?_, (grown_drewN w q _).trans (grown_putRow _ g _ _)⟩
  have := whole_putRow (hw.drewN q) (i + 1) (M.drop (i + 1)).reverse.toArray
  rwa [putCells_turn M i (by omega)] at this

/-- How advance goes on. -/
def AdvTo (g : Nat) (L : List Int) (w : World) (e : Ending) (w' : World) : Prop :=
  (advL L = none ∧ e = .returned (.bool false) ∧ ∃ d, w' = w.drewN d) ∨
  ∃ M, advL L = some M ∧ e = .returned (.bool true) ∧ Whole w' g 3 (icells M) ∧ w.grownBy w' (some g)
theorem scanL_some {L : List Int} {i : Nat} : ∀ {m : Nat}, scanL L m = some i → i < m ∧ ¬ L.getD (i + 1) 0 < L.getD i 0
  | 0, h => by cases h
  | m + 1, h => by
    rw [scanL] at h
    by_cases h1 : L.getD (m + 1) 0 < L.getD m 0
    · rw [if_pos h1] at h
      obtain ⟨h2, h3⟩ := scanL_some h
      exact ⟨by omega, h3⟩
    · rw [if_neg h1] at h
      injection h with h
      subst h
      exact ⟨by omega, h1⟩

set_option maxRecDepth 100000 in
set_option maxHeartbeats 4000000 in
theorem advance_nil (g : Nat) (v : Value) (w : World) (hv : v = .slice (some ⟨g, 0, none⟩) 0 0) :
    Calls Tryd.prog 36 #[v] w fun e w' => e = .returned (.bool false) ∧ ∃ d, w' = w.drewN d := by
  subst hv
  go_enter Tryd.func36, Tryd.ntmps36
  go_wp2_with fail
  go_loopg [3] 0 (fun gh x wr => gh = 0 ∧ x = .int .i64 (-2) ∧ wr = w)
  case atStart => exact ⟨rfl, rfl, rfl⟩
  case round =>
    obtain ⟨rfl, rfl, rfl⟩ := hrel
    have t1 : decide ((0 : Int) ≤ -2) = false := by decide
    have t2 : decide ((-2 : Int) < 0) = true := by decide
    go_wp2_with fail
    go_quiet (fail)
    go_wp2_with fail
    go_ret
    exact ⟨rfl, _, rfl⟩

set_option maxRecDepth 100000 in
set_option maxHeartbeats 4000000 in
theorem advance_any (L : List Int) (n g : Nat) (w : World) (hn : L.length = n) (hn0 : 0 < n) (hn8 : n ≤ 1000) (hw : Whole w g 3 (icells L)) :
    Calls Tryd.prog 36 #[.slice (some ⟨g, 0, none⟩) n n] w (AdvTo g L w) := by
  have HN := Lib.hid hn; have HW := Lib.hid hw
  have hgl := hw.lt
  have HAD : Hid (advL L = match scanL L (n - 1) with | none => none | some i => some (turnL (swpL L i (findL L (L.getD i 0) n)) i)) := Lib.hid (by rw [← hn]; rfl)
  clear hn hw
  go_enter Tryd.func36, Tryd.ntmps36
  go_wp2_with fail
  go_loopg [3] (n - 1) (fun gh x wr => ∃ m, m ≤ n - 1 ∧ m = gh ∧ x = .int .i64 ((m : Int) - 1) ∧ scanL L m = scanL L (n - 1) ∧ ∃ d, wr = w.drewN d)
  case atStart => exact ⟨n - 1, Nat.le_refl _, rfl, by congr 1; omega, rfl, 0, rfl⟩
  case round =>
    obtain ⟨m, hm, rfl, rfl, hsc, d, rfl⟩ := hrel
    have HSC := Lib.hid hsc
    clear hsc
    rcases m with _ | i
    · have e0 : (((0 : Nat) : Int) - 1) = -1 := rfl
      have t1 : decide ((0 : Int) ≤ -1) = false := by decide
      have t2 : decide ((-1 : Int) < 0) = true := by decide
      rw [e0]
      go_wp2_with fail
      go_quiet (fail)
      go_wp2_with fail
      go_ret
      exact Or.inl ⟨by rw [HAD.out, ← HSC.out]; rfl, rfl, _, rfl⟩
    · have e0 : (((i + 1 : Nat) : Int) - 1) = (i : Int) := by omega
      rw [e0]
      have c1 := HW.out.cell i
      rw [icells_at (by rw [HN.out]; omega)] at c1
      have c2 := HW.out.cell (i + 1)
      rw [icells_at (by rw [HN.out]; omega)] at c2
      obtain ⟨x, hx⟩ : ∃ x, L.getD i 0 = x := ⟨_, rfl⟩
      obtain ⟨y, hy⟩ : ∃ y, L.getD (i + 1) 0 = y := ⟨_, rfl⟩
      rw [hx] at c1
      rw [hy] at c2
      have HX := Lib.hid hx; have HY := Lib.hid hy
      have t1 : decide ((0 : Int) ≤ i) = true := decide_eq_true (by omega)
      have t2 : decide ((i : Int) < 0) = false := decide_eq_false (by omega)
      have i1 : (i : Int) < n := by omega
      have i2 : (0 : Int) ≤ i := by omega
      have i3 : (i : Int) + 1 < n := by omega
      have i4 : (0 : Int) ≤ (i : Int) + 1 := by omega
      have hin : i + 1 < n := by omega
      have HIN := Lib.hid hin
      clear hx hy hin
      by_cases hlt : y < x
      · have t3 : decide (y < x) = true := decide_eq_true hlt
        have HLT := Lib.hid hlt
        clear hlt t2
        go_wp2_with fail
        go_quiet (fail)
        go_wp2_with fail
        go_roundg i
        case rel => exact ⟨i, by have := HIN.out; omega, rfl, by go_num, by rw [← HSC.out, scanL, HX.out, HY.out, if_pos HLT.out], _, rfl⟩
        case measure => omega
      · have t3 : decide (y < x) = false := decide_eq_false hlt
        have hsome : scanL L (n - 1) = some i := by rw [← HSC.out, scanL, HX.out, HY.out, if_neg hlt]
        have HAS : Hid (advL L = some (turnL (swpL L i (findL L x n)) i)) := Lib.hid (by rw [HAD.out, hsome, ← HX.out])
        have HLT := Lib.hid hlt
        clear hlt hsome HAD
        go_wp2_with fail
        go_quiet (fail)
        go_wp2_with fail
        clear c2
        go_loopg [4] n (fun gh z wr2 => ∃ m, i + 1 < m ∧ m ≤ n ∧ m = gh ∧ z = .int .i64 ((m : Int) - 1) ∧ findL L x m = findL L x n ∧ ∃ d, wr2 = w.drewN d)
        case atStart => exact ⟨n, HIN.out, Nat.le_refl _, rfl, rfl, rfl, _, rfl⟩
        case round =>
          obtain ⟨m, hm1, hm2, rfl, rfl, hfi, d2, rfl⟩ := hrel
          obtain ⟨j, rfl⟩ : ∃ j, m = j + 1 := ⟨m - 1, by omega⟩
          have ej : (((j + 1 : Nat) : Int) - 1) = (j : Int) := by omega
          rw [ej]
          have HFI := Lib.hid hfi
          have cj := HW.out.cell j
          rw [icells_at (by rw [HN.out]; omega)] at cj
          obtain ⟨z, hz⟩ : ∃ z, L.getD j 0 = z := ⟨_, rfl⟩
          rw [hz] at cj
          have HZ := Lib.hid hz
          have j1 : (j : Int) < n := by omega
          have j2 : (0 : Int) ≤ j := by omega
          have HM1 := Lib.hid hm1; have HM2 := Lib.hid hm2
          clear hfi hz hm1 hm2
          by_cases hzx : z < x
          · have t5 : decide (z < x) = true := decide_eq_true hzx
            have hne : j ≠ i + 1 := by
              rintro rfl
              have := HLT.out
              have := HY.out.symm.trans HZ.out
              omega
            have HNE := Lib.hid hne; have HZX := Lib.hid hzx
            clear hne hzx
            go_wp2_with fail
            go_quiet (fail)
            go_wp2_with fail
            go_roundg j
            case rel => exact ⟨j, by have := HM1.out; have := HNE.out; omega, by have := HM2.out; omega, rfl, by go_num, by rw [← HFI.out, findL, HZ.out, if_pos HZX.out], _, rfl⟩
            case measure => omega
          · have t5 : decide (z < x) = false := decide_eq_false hzx
            have hf : findL L x n = j := by rw [← HFI.out, findL, HZ.out, if_neg hzx]
            have hij : i ≠ j := by have := HM1.out; omega
            clear hzx
            go_wp2_with fail
            go_quiet (fail)
            go_wp2_with fail
            have fi := HW.out.free i
            have fj := HW.out.free j
            have ci := HW.out.cell i
            rw [icells_at (by have := HIN.out; rw [HN.out]; omega), HX.out] at ci
            have RV : ∀ d, Calls Tryd.prog 40 #[.slice (some ⟨g, i + 1, none⟩) (n - (i + 1)) (n - (i + 1))] (((w.drewN d).setCell ⟨g, i, none⟩ (.int .i64 z)).setCell ⟨g, j, none⟩ (.int .i64 x)) fun e w' => e = .returned (.tuple #[]) ∧ Whole w' g 3 (icells (turnL (swpL L i j) i)) ∧ w.grownBy w' (some g) := by
              intro d
              have h1 := (HW.out.drewN d).put i (.int .i64 z)
              rw [icells_set] at h1
              have h2 := h1.put j (.int .i64 x)
              rw [icells_set] at h2
              have e2 : swpL L i j = (L.set i z).set j x := by rw [swpL, HZ.out, HX.out]
              rw [← e2] at h2
              refine (reverse_tail (swpL L i j) n i g _ (by rw [swpL, List.length_set, List.length_set, HN.out]) (by have := HIN.out; omega) hn8 h2).mono ?_
              rintro e w' ⟨he, hw', hg'⟩
              exact ⟨he, hw', (((grown_drewN w d _).trans (grown_setC _ g i _)).trans (grown_setC _ g j _)).trans hg'⟩
            have HRV := Lib.hid RV
            have HF := Lib.hid hf
            clear RV hf
            go_region_o
            go_wp2_with fail
            refine (HRV.out _).mono ?_
            rintro e w5 ⟨rfl, hw5, hg5⟩
            have HW5 := Lib.hid hw5; have HG5 := Lib.hid hg5
            clear hw5 hg5
            go_wp2_with fail
            go_ret
            exact Or.inr ⟨_, HAS.out, rfl, by rw [HF.out]; exact HW5.out, HG5.out⟩
end Go.Proofs.YtlkmbhbjhiobiaaDoor
