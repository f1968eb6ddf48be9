/- slices.Delete of one letter. -/
import Derived.Test.YtlopoddllfkkfaaDoorNetF
import Derived.Test.YtlopoddllfkkfaaDoorNetRd
import Derived.Lib.SliceRun
import Derived.Deep.RegionLaw
import Derived.Shelf.RegionOpenPlain
import Derived.WalkKit
import Derived.Lib.Walk
import Derived.Sort.WalkB12
namespace Go.Proofs.YtlopoddllfkkfaaDoor
open Go.RowKit

theorem letsC_drop (S : List Let) (k : Nat) (h : k ≤ S.length) : letsC (S.drop k) = (letsC S).drop (k * 4) := by
  have e : letsC S = letsC (S.take k) ++ letsC (S.drop k) := by rw [← letsC_app, List.take_append_drop]
  rw [e, List.drop_left' (by rw [letsC_len, List.length_take]; omega)]
theorem letsC_take (S : List Let) (k : Nat) (h : k ≤ S.length) : letsC (S.take k) = (letsC S).take (k * 4) := by
  have e : letsC S = letsC (S.take k) ++ letsC (S.drop k) := by rw [← letsC_app, List.take_append_drop]
  rw [e, List.take_left' (by rw [letsC_len, List.length_take]; omega)]
/-- clear of one letter. -/
theorem run_clear_let (w : World) (ty : TypeId) (b o c : Nat) (hc : ∀ j, j < 4 → (w.cell? ⟨b, o + j, none⟩).isSome = true) (hf : ∀ j, j < 4 → w.frozen? ⟨b, o + j, none⟩ = false) :
    (Builtin.clear_ #[78] ty #[.slice (some ⟨b, o, none⟩) 1 c]).run Tryd.prog w = .ok (.tuple #[]) (w.setCells b o (letC letZ)) := by
  have hst := run_storeCells_cells (P := Tryd.prog) b o (letC letZ) 0 w (by simpa [letC] using hc) (by simpa [letC] using hf) (by intro v hv; exact letsC_cell [letZ] v (by rw [letsC_one]; exact hv))
  simp only [Nat.add_zero] at hst
  obtain ⟨z, hz⟩ : ∃ z, z = letV letZ := ⟨_, rfl⟩
  have hzc : (Builtin.zeroCells z.cells 1).toList = letC letZ := by
    rw [hz]
    apply List.ext_getElem
    · simp [size_zeroCells, letV, letC, Value.cells]
    · intro i h1 h2
      have : i < 4 := h2
      match i, this with
      | 0, _ => simp [Builtin.zeroCells, letV, letC, Value.cells]
      | 1, _ => simp [Builtin.zeroCells, letV, letC, Value.cells]
      | 2, _ => simp [Builtin.zeroCells, letV, letC, Value.cells]
      | 3, _ => simp [Builtin.zeroCells, letV, letC, Value.cells]
  have hzl : ∀ w, (zeroValue 83).run Tryd.prog w = .ok z w := by rw [hz]; exact zero_let
  simp [Builtin.clear_, run_underlying Tryd.underlying78, hzl, hzc, hst]

set_option maxHeartbeats 4000000 in
set_option maxRecDepth 1000000 in
theorem delete_one {w : World} {base g off n cap : Nat} {S : List Let} (h : FlyAt w base (.slice (some ⟨g, off, none⟩) n cap) S) (i j : Nat) (hi : i < n) (hj : j = i + 1) :
    Calls Tryd.prog 49 #[.slice (some ⟨g, off, none⟩) n cap, .int .i64 i, .int .i64 j] w fun e w' => e = .returned (.slice (some ⟨g, off, none⟩) (i + (n - j)) cap) ∧ FlyAt w' base (.slice (some ⟨g, off, none⟩) (i + (n - j)) cap) (S.take i ++ S.drop j) ∧ w.grownBy w' (some g) := by
  obtain ⟨i0, hi0, hz0, hz1, hz2⟩ := info_parts Tryd.infoNL
  clear hz0 hz2
  obtain ⟨A', c', e, hc, h⟩ := h
  injection e with e1 e2 e3
  subst e1 e3
  rcases h with ⟨h, _⟩ | ⟨g', off', hA, h1, h2, h3, h4⟩
  · cases h
  injection hA with hA
  injection hA with z1 z2
  subst z1 z2
  obtain ⟨news, hnews⟩ : ∃ news, news = letsC (S.drop j) := ⟨_, rfl⟩
  have hlen : news.length = (n - j) * 4 := by rw [hnews, letsC_len, List.length_drop, e2]
  have hget : ∀ t, t < (n - j) * 4 → news[t]? = (letsC S)[j * 4 + t]? := fun t _ => by
    rw [hnews, letsC_drop S j (by omega), List.getElem?_drop]
  have hcell : ∀ t, t < n * 4 → w.drew.cell? ⟨g, off + t, none⟩ = (letsC S)[t]? := fun t ht => h4 t (by omega)
  obtain ⟨A, hA, hsrc⟩ : ∃ A : Addr, (if cap = j then some (⟨g, off, none⟩ : Addr) else some ⟨g, off + j * 4, none⟩) = some A ∧ Hid (∀ t u, news[t]? = some u → w.drew.cell? (A.add t) = some u) := by
    by_cases hcj : cap = j
    · refine ⟨⟨g, off, none⟩, by simp [hcj], fun t u hu => ?_⟩
      have := (List.getElem?_eq_some_iff.1 hu).1
      rw [hlen] at this
      omega
    · refine ⟨⟨g, off + j * 4, none⟩, by simp [hcj], fun t u hu => ?_⟩
      have ht := (List.getElem?_eq_some_iff.1 hu).1
      rw [hlen] at ht
      rw [addr_plus', Nat.add_assoc, hcell _ (by omega), ← hget t ht]
      exact hu
  have s1 : Hid (news.length = (n - j) * 4) := hlen
  have s2 : Hid (∀ u ∈ news, u.oneCell' = true) := fun u hu => by rw [hnews] at hu; exact letsC_cell _ _ hu
  have s3 : Hid (∀ t, t < news.length → (w.drew.cell? ⟨g, off + i * 4 + t, none⟩).isSome = true ∧ w.drew.frozen? ⟨g, off + i * 4 + t, none⟩ = false) := fun t ht => by
    rw [hlen] at ht
    rw [Nat.add_assoc]
    exact h3 _ (by omega)
  obtain ⟨W1, hW1⟩ : ∃ W1, W1 = w.drew.setCells g (off + i * 4) news := ⟨_, rfl⟩
  have f1 : ∀ t, t < cap * 4 → (W1.cell? ⟨g, off + t, none⟩).isSome = true ∧ W1.frozen? ⟨g, off + t, none⟩ = false := fun t ht => by
    rw [hW1]
    exact ⟨World.isSome_setCells g _ _ _ _ (h3 t ht).1, by rw [World.frozen?_setCells]; exact (h3 t ht).2⟩
  have hcl : ∀ ty, (Builtin.clear_ #[78] ty #[.slice (some ⟨g, off + (i + (n - j)) * 4, none⟩) (n - (i + (n - j))) (cap - (i + (n - j)))]).run Tryd.prog W1 = .ok (.tuple #[]) (W1.setCells g (off + (i + (n - j)) * 4) (letC letZ)) := fun ty => by
    rw [show n - (i + (n - j)) = 1 by omega]
    exact run_clear_let W1 ty g _ _ (fun t ht => by rw [Nat.add_assoc]; exact (f1 _ (by omega)).1) (fun t ht => by rw [Nat.add_assoc]; exact (f1 _ (by omega)).2)
  obtain ⟨W2, hW2⟩ : ∃ W2, W2 = W1.setCells g (off + (i + (n - j)) * 4) (letC letZ) := ⟨_, rfl⟩
  rw [← hW2] at hcl
  have hg : w.grownBy W2 (some g) := by
    have b0 := below_drewN' (Below.refl w.heap.size w) 1
    have g0 : w.grownBy w.drew (some g) := ⟨b0.os, b0.tape, b0.output, b0.size, fun k hk _ => b0.block k hk⟩
    rw [hW2, hW1]
    exact (g0.trans (grown_setCells _ _ _ _)).trans (grown_setCells _ _ _ _)
  have hfly : FlyAt W2 base (.slice (some ⟨g, off, none⟩) (i + (n - j)) cap) (S.take i ++ S.drop j) := by
    refine ⟨_, cap, by rw [List.length_append, List.length_take, List.length_drop, ← e2, Nat.min_eq_left (by omega)], by rw [List.length_append, List.length_take, List.length_drop]; omega, Or.inr ⟨g, off, rfl, h1, Nat.lt_of_lt_of_le h2 hg.size, fun t ht => ?_, fun t ht => ?_⟩⟩
    · rw [hW2]
      exact ⟨World.isSome_setCells g _ _ _ _ (f1 t ht).1, by rw [World.frozen?_setCells]; exact (f1 t ht).2⟩
    · rw [List.length_append, List.length_take, List.length_drop, Nat.min_eq_left (by omega), ← e2] at ht
      rw [hW2, World.cell?_setCells_out g _ _ _ _ (fun _ _ => Or.inl (show off + t < off + (i + (n - j)) * 4 by omega)), hW1, letsC_app, letsC_take S i (by omega)]
      by_cases hti : t < i * 4
      · rw [World.cell?_setCells_out g _ _ _ _ (fun _ _ => Or.inl (show off + t < off + i * 4 by omega)), hcell t (by omega), List.getElem?_append_left (by rw [List.length_take, letsC_len]; omega), List.getElem?_take_of_lt hti]
      · obtain ⟨k, rfl⟩ : ∃ k, t = i * 4 + k := ⟨t - i * 4, by omega⟩
        have hk : k < news.length := by rw [hlen]; omega
        rw [← Nat.add_assoc, World.cell?_setCells_in g news (off + i * 4) w.drew (fun t ht => (s3.out t ht).1) k hk, List.getElem?_append_right (by rw [List.length_take, letsC_len]; omega), List.length_take, letsC_len, Nat.min_eq_left (by omega), Nat.add_sub_cancel_left, ← hnews, List.getElem?_eq_getElem hk]
  have HEND := Lib.hid (And.intro hfly hg)
  have hW : Hid (W1 = w.drew.setCells g (off + i * 4) news) := hW1
  have hic : i ≤ cap := by omega
  have hjc : j ≤ cap := by omega
  have hjn : j ≤ n := by omega
  have hne : ¬ i = j := by omega
  have hncap : n ≤ cap := by omega
  have hlt : i < j := by omega
  clear hj hW1 hW2 hg hfly f1 hget hcell hnews hlen h3 h4 hc h1 h2 e2
  have mixed : Tryd.prog.follows Departure.mixedOrders = true := by kernel_rfl
  go_enter Tryd.func49, Tryd.ntmps49
  go_wp2_with fail
  go_region_law_o (refine step_append_room rfl (.tmp 22) (.tmp 25) 78 rfl 83 i0 4 Tryd.underlying78 hi0 hz1 g off i cap (by simp [Act.eval, Act.put]) A (n - j) (cap - j) news (by simp [Act.eval, Act.put]) s1.out hsrc.out s2.out (by omega) s3.out ?_; rw [← hW.out])
  go_wp2
  go_ret
  exact ⟨rfl, HEND.out⟩
end Go.Proofs.YtlopoddllfkkfaaDoor
