/- pat: slices.Index and slices.Contains at edges. -/
import Derived.Test.YtgolcogigpnbeaaGreatDoorPat4
import Derived.Test.YtgolcogigpnbeaaGreatDoorEqE
namespace Go.Proofs.YtgolcogigpnbeaaGreatDoor
open Go.RowKit

/-- The place of an edge among others, or -1. -/
def idxE (T : List (Int × Int)) (x : Int × Int) : Int := if x ∈ T then (T.idxOf x : Nat) else -1
theorem idxE_hit {T : List (Int × Int)} {x : Int × Int} {k : Nat} (hk : k < T.length) (h : ∀ i, i < k → T.getD i (0, 0) ≠ x) (he : T.getD k (0, 0) = x) : idxE T x = k := by
  have hx : T[k] = x := by rw [← getD_at hk]; exact he
  unfold idxE
  rw [if_pos (by rw [← hx]; exact List.getElem_mem hk)]
  have h1 : T.idxOf x ≤ k := by
    rcases Nat.lt_or_ge k (T.idxOf x) with h2 | h2
    · exact absurd hx (List.not_of_lt_findIdx h2 |> fun h3 => by simpa using h3)
    · exact h2
  rcases Nat.lt_or_ge (T.idxOf x) k with h2 | h2
  · have h3 := h _ h2
    rw [getD_at (by omega)] at h3
    exact absurd (List.getElem_idxOf (by omega)) h3
  · omega
theorem idxE_no {T : List (Int × Int)} {x : Int × Int} (h : ∀ i, i < T.length → T.getD i (0, 0) ≠ x) : idxE T x = -1 := by
  unfold idxE
  rw [if_neg]
  intro hx
  obtain ⟨i, hi, he⟩ := List.getElem_of_mem hx
  exact h i hi (by rw [getD_at hi]; exact he)
theorem idxE_ge (T : List (Int × Int)) (x : Int × Int) : decide (0 ≤ idxE T x) = decide (x ∈ T) := by
  unfold idxE
  by_cases h : x ∈ T
  · rw [if_pos h]; simp [h]
  · rw [if_neg h]; simp [h]

set_option maxRecDepth 100000 in
set_option maxHeartbeats 2000000 in
theorem index_any (T : List (Int × Int)) (v : Value) (x y : Int) (w : World) (h : EdgesV w v T) (hl : T.length ≤ 1000000000) :
    Calls Tryz.prog 86 #[v, .agg #[.int .i64 x, .int .i64 y]] w fun e w' => e = .returned (.int .i64 (idxE T (x, y))) ∧ Below w.heap.size w w' := by
  obtain ⟨A, c, rfl⟩ := h.form
  obtain ⟨n, hn⟩ : ∃ n, T.length = n := ⟨_, rfl⟩
  rw [hn] at h hl ⊢
  have hb1 : Below w.heap.size w (w.alloc (.cells #[.int .i64 x, .int .i64 y] 62)) := (Below.refl _ _).alloc (Nat.le_refl _) _
  have hx := Whole.new w 62 #[.int .i64 x, .int .i64 y]
  obtain ⟨w1, hw1⟩ : ∃ W, w.alloc (.cells #[.int .i64 x, .int .i64 y] 62) = W := ⟨_, rfl⟩
  obtain ⟨xb, hxb⟩ : ∃ g, w.heap.size = g := ⟨_, rfl⟩
  have hh := h.below hb1 (Nat.le_refl _)
  rw [hw1] at hb1 hx hh
  rw [hxb] at hx
  have HB1 := Lib.hid hb1; have HH := Lib.hid hh; have HN := Lib.hid hn; have HW1 := Lib.hid hw1; have HXB := Lib.hid hxb
  have x0 : w1.cell? ⟨xb, 0, none⟩ = some (.int .i64 x) := hx.cell 0
  have x1 : w1.cell? ⟨xb, 1, none⟩ = some (.int .i64 y) := hx.cell 1
  clear h hb1 hw1 hxb hx hh hn
  go_enter Tryz.func86, Tryz.ntmps86
  go_upto_region 1 with fail
  rw [HW1.out, HXB.out]
  go_wp2_with fail
  go_loopg [8] n (fun g y' wr => ∃ k, k ≤ n ∧ g = n - k ∧ y' = .int .i64 (k : Nat) ∧ (∀ i, i < k → T.getD i (0, 0) ≠ (x, y)) ∧ ∃ d, wr = w1.drewN d)
  case atStart => exact ⟨0, Nat.zero_le _, rfl, rfl, fun i hi => absurd hi (Nat.not_lt_zero i), 0, rfl⟩
  case round =>
    obtain ⟨k, hk, rfl, rfl, hall, d, rfl⟩ := hrel
    have HALL := Lib.hid hall
    clear hall
    by_cases hlt : k < n
    · obtain ⟨b, off, rfl, d0, d1⟩ := HH.out.pos (i := k) (by rw [HN.out]; exact hlt)
      obtain ⟨z, hz⟩ : ∃ z, T.getD k (0, 0) = z := ⟨_, rfl⟩
      rw [hz] at d0 d1
      obtain ⟨p, q⟩ := z
      simp only at d0 d1
      have t3 : decide (k < n) = true := decide_eq_true hlt
      have j1 : (k : Int) < n := by omega
      have j2 : (0 : Int) ≤ k := by omega
      have HLT := Lib.hid hlt; have HZ := Lib.hid hz
      have e1 := eql_edge x y p q
      have e2 := guard_edge
      clear hlt hz
      by_cases hxy : (x, y) = (p, q)
      · have HX := Lib.hid hxy
        rw [decide_eq_true hxy] at e1
        have HF : Hid (idxE T (x, y) = (k : Int)) := Lib.hid (idxE_hit (by rw [HN.out]; exact HLT.out) HALL.out (by rw [HZ.out]; exact hxy.symm))
        clear hxy
        go_wp2_with fail
        go_quiet (fail)
        go_wp2_with fail
        go_ret
        exact ⟨by rw [HF.out]; rfl, below_drewN' (below_drewN' HB1.out _) _⟩
      · have HX := Lib.hid hxy
        rw [decide_eq_false hxy] at e1
        clear hxy
        go_wp2_with fail
        go_quiet (fail)
        go_wp2_with fail
        go_roundg (n - (k + 1))
        case rel =>
          refine ⟨k + 1, HLT.out, rfl, by go_num, fun i hi => ?_, _, rfl⟩
          rcases Nat.lt_or_ge i k with h | h
          · exact HALL.out i h
          · obtain rfl : i = k := by omega
            rw [HZ.out]
            exact fun e => HX.out e.symm
        case measure => have := HLT.out; omega
    · obtain rfl : k = n := by omega
      have t3 : decide (k < k) = false := by simp
      have HF : Hid (idxE T (x, y) = -1) := Lib.hid (idxE_no (by rw [HN.out]; exact HALL.out))
      clear hlt
      go_wp2_with fail
      go_ret
      exact ⟨by rw [HF.out]; rfl, below_drewN' HB1.out _⟩
set_option maxRecDepth 100000 in
set_option maxHeartbeats 2000000 in
theorem contains_any (T : List (Int × Int)) (v : Value) (x y : Int) (w : World) (h : EdgesV w v T) (hl : T.length ≤ 1000000000) :
    Calls Tryz.prog 65 #[v, .agg #[.int .i64 x, .int .i64 y]] w fun e w' => e = .returned (.bool (decide ((x, y) ∈ T))) ∧ Below w.heap.size w w' := by
  have hb1 : Below w.heap.size w (w.alloc (.cells #[.int .i64 x, .int .i64 y] 62)) := (Below.refl _ _).alloc (Nat.le_refl _) _
  have HI := index_any T v x y _ (h.below hb1 (Nat.le_refl _)) hl
  have HQ : Hid (decide (0 ≤ idxE T (x, y)) = decide ((x, y) ∈ T)) := Lib.hid (idxE_ge T (x, y))
  obtain ⟨A, c, rfl⟩ := h.form
  generalize T.length = n at *
  generalize idxE T (x, y) = r at HI HQ
  generalize decide ((x, y) ∈ T) = z at HQ ⊢
  have HI := Lib.hid HI; have HB1 := Lib.hid hb1
  clear h hb1
  go_enter Tryz.func65, Tryz.ntmps65
  go_wp2_with fail
  refine HI.out.mono ?_; rintro e w1 ⟨rfl, hb⟩
  have HB2 := Lib.hid (HB1.out.trans (hb.mono HB1.out.size))
  clear hb
  obtain ⟨z', hz'⟩ : ∃ z', decide (0 ≤ r) = z' := ⟨_, rfl⟩
  rw [hz'] at HQ
  have HZ := Lib.hid hz'
  go_wp2_with fail
  go_ret
  exact ⟨by rw [← HQ.out]; rfl, HB2.out⟩
end Go.Proofs.YtgolcogigpnbeaaGreatDoor
