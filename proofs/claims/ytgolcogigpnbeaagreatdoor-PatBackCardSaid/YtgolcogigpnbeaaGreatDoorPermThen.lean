/- perm.Then, fault.First of two, the chapter's example; orders of ranks. -/
import Derived.Test.YtgolcogigpnbeaaGreatDoorPermOf
namespace Go.Proofs.YtgolcogigpnbeaaGreatDoor
open Go.RowKit

theorem erase_perm : ∀ (L : List Int) (i : Nat) (h : i < L.length), (L[i] :: L.eraseIdx i).Perm L
  | [], _, h => by simp at h
  | a :: L, 0, _ => by simp
  | a :: L, i + 1, h => by
    have h1 := erase_perm L i (by simpa using h)
    rw [List.getElem_cons_succ, List.eraseIdx_cons_succ]
    exact (List.Perm.swap _ _ _).trans (h1.cons a)
theorem unr_perm : ∀ (m : Nat) (L : List Int) (r : Nat), L.length = m → r < fct m → (unr m L r).Perm L
  | 0, L, r, hL, _ => by
    rw [List.eq_nil_of_length_eq_zero hL]
    exact List.Perm.refl _
  | m + 1, L, r, hL, hr => by
    have hq : r / fct m < m + 1 := (Nat.div_lt_iff_lt_mul (fct_pos m)).2 hr
    have h1 := unr_perm m (L.eraseIdx (r / fct m)) (r % fct m) (by rw [List.length_eraseIdx_of_lt (by omega), hL]; rfl) (Nat.mod_lt _ (fct_pos m))
    rw [unr]
    have h2 : L.getD (r / fct m) 0 = L[r / fct m]'(by omega) := by simp [List.getD, show r / fct m < L.length by omega]
    rw [h2]
    exact (h1.cons _).trans (erase_perm _ _ (by omega))
theorem upto_mem {n : Nat} {x : Int} : x ∈ upto n ↔ 0 ≤ x ∧ x < n := by
  unfold upto
  rw [List.mem_map]
  constructor
  · rintro ⟨i, hi, rfl⟩
    have := List.mem_range.1 hi
    omega
  · rintro ⟨h1, h2⟩
    exact ⟨x.toNat, List.mem_range.2 (by omega), by omega⟩
theorem upto_nodup (n : Nat) : (upto n).Nodup := by
  unfold upto List.Nodup
  rw [List.pairwise_map]
  exact List.Pairwise.imp (fun h e => h (by omega)) (List.nodup_range (n := n))
theorem order_of_perm {n : Nat} {Y : Nat → Int} (hn : n ≤ 8) (h : ((List.range n).map Y).Perm (upto n)) : Order n Y := by
  have hnd : ((List.range n).map Y).Nodup := h.nodup_iff.2 (upto_nodup n)
  refine ⟨hn, fun i hi => upto_mem.1 (h.subset (List.mem_map.2 ⟨i, List.mem_range.2 hi, rfl⟩)), fun i j hi hj he => ?_⟩
  have h1 := List.pairwise_iff_getElem.1 hnd
  rcases (by omega : i < j ∨ i = j ∨ j < i) with h2 | h2 | h2
  · have h5 := h1 i j (by simpa using hi) (by simpa using hj) h2
    rw [List.getElem_map, List.getElem_map, List.getElem_range, List.getElem_range] at h5
    exact absurd he h5
  · exact h2
  · have h5 := h1 j i (by simpa using hj) (by simpa using hi) h2
    rw [List.getElem_map, List.getElem_map, List.getElem_range, List.getElem_range] at h5
    exact absurd he.symm h5
theorem unr_order {n r : Nat} {Y : Nat → Int} (hn : n ≤ 8) (hr : r < fct n) (h : (List.range n).map Y = unr n (upto n) r) : Order n Y :=
  order_of_perm hn (h ▸ unr_perm n (upto n) r (upto_len n) hr)

theorem first_nn (b : Nat) (w : World) (c0 : w.cell? ⟨b, 0, none⟩ = some .nilIface) (c1 : w.cell? ⟨b, 1, none⟩ = some .nilIface) :
    Calls Tryz.prog 61 #[.slice (some ⟨b, 0, none⟩) 2 2] w fun e w' => e = .returned .nilIface ∧ w' = w := by
  go_enter Tryz.func61, Tryz.ntmps61
  go_wp2
  refine wp_loop_rounds 3 ?_
  rw [rounds_succ]
  go_wp2
  rw [rounds_succ]
  go_wp2
  rw [rounds_succ]
  go_wp2
  go_ret
  exact ⟨rfl, rfl⟩
theorem first_e (b T : Nat) (x : Value) (w : World) (c0 : w.cell? ⟨b, 0, none⟩ = some (.iface T x)) :
    Calls Tryz.prog 61 #[.slice (some ⟨b, 0, none⟩) 2 2] w fun e w' => e = .returned (.iface T x) ∧ w' = w := by
  go_enter Tryz.func61, Tryz.ntmps61
  go_wp2
  refine wp_loop_rounds 1 ?_
  rw [rounds_succ]
  go_wp2
  go_ret
  exact ⟨rfl, rfl⟩
theorem first_ne (b T : Nat) (x : Value) (w : World) (c0 : w.cell? ⟨b, 0, none⟩ = some .nilIface) (c1 : w.cell? ⟨b, 1, none⟩ = some (.iface T x)) :
    Calls Tryz.prog 61 #[.slice (some ⟨b, 0, none⟩) 2 2] w fun e w' => e = .returned (.iface T x) ∧ w' = w := by
  go_enter Tryz.func61, Tryz.ntmps61
  go_wp2
  refine wp_loop_rounds 2 ?_
  rw [rounds_succ]
  go_wp2
  rw [rounds_succ]
  go_wp2
  go_ret
  exact ⟨rfl, rfl⟩
theorem first_nn_at (w : World) : Calls Tryz.prog 61 #[.slice (some ⟨w.heap.size, 0, none⟩) 2 2] (w.alloc (.cells #[.nilIface, .nilIface] 42)) fun e w' => e = .returned .nilIface ∧ w' = w.alloc (.cells #[.nilIface, .nilIface] 42) :=
  first_nn _ _ ((Whole.new w _ _).cell 0) ((Whole.new w _ _).cell 1)
theorem first_e_at (w : World) (T : Nat) (x u : Value) : Calls Tryz.prog 61 #[.slice (some ⟨w.heap.size, 0, none⟩) 2 2] (w.alloc (.cells #[.iface T x, u] 42)) fun e w' => e = .returned (.iface T x) ∧ w' = w.alloc (.cells #[.iface T x, u] 42) :=
  first_e _ _ _ _ ((Whole.new w _ _).cell 0)
theorem first_ne_at (w : World) (T : Nat) (x : Value) : Calls Tryz.prog 61 #[.slice (some ⟨w.heap.size, 0, none⟩) 2 2] (w.alloc (.cells #[.nilIface, .iface T x] 42)) fun e w' => e = .returned (.iface T x) ∧ w' = w.alloc (.cells #[.nilIface, .iface T x] 42) :=
  first_ne _ _ _ _ ((Whole.new w _ _).cell 0) ((Whole.new w _ _).cell 1)

set_option maxRecDepth 100000 in
set_option maxHeartbeats 2000000 in
theorem then_ok (n : Nat) (P Q : Nat → Int) (v u : Value) (w : World) (hp : IntsV w v n P) (hq : IntsV w u n Q) (hP : Order n P) (hQ : Order n Q) :
    Calls Tryz.prog 24 #[v, u] w fun e w' => ∃ (b : Nat) (Y : Nat → Int), e = .returned (.tuple #[.slice (some ⟨b, 0, none⟩) n n, .nilIface]) ∧ w.heap.size ≤ b ∧ IntsV w' (.slice (some ⟨b, 0, none⟩) n n) n Y ∧ (∀ i, i < n → Y i = Q (P i).toNat) ∧ Below w.heap.size w w' := by
  obtain ⟨i0, hi, hz0, hz1, hz2⟩ := info_parts Tryz.infoInt
  obtain ⟨A, c, rfl⟩ := hp.form
  obtain ⟨B, c', rfl⟩ := hq.form
  have C1 := Lib.hid (check_ok n P _ w hp (rightB_iff.2 hP))
  have HP := Lib.hid hp; have HQ := Lib.hid hq; have HO := Lib.hid hP; have HOQ := Lib.hid hQ
  have hn8 := hP.le8
  have t0 : ((n : Int) != n) = false := by simp
  clear hp hq hP hQ
  go_enter Tryz.func24, Tryz.ntmps24
  go_wp2_with fail
  refine C1.out.mono ?_; rintro e w1 ⟨rfl, hb1⟩
  have C2 := Lib.hid (check_ok n Q _ w1 (HQ.out.below hb1 (Nat.le_refl _)) (rightB_iff.2 HOQ.out))
  have HB1 := Lib.hid hb1
  clear hb1
  go_wp2_with fail
  refine C2.out.mono ?_; rintro e w2 ⟨rfl, hb2⟩
  have hB2 := HB1.out.trans (hb2.mono HB1.out.size)
  have HB2 := Lib.hid (hB2.alloc hB2.size (.cells #[.nilIface, .nilIface] 42))
  have hsz2 : w.heap.size ≤ (w2.alloc (.cells #[.nilIface, .nilIface] 42)).heap.size := HB2.out.size
  clear hb2 hB2
  go_wp2_with fail
  refine (first_nn_at w2).mono ?_; rintro e w3 ⟨rfl, rfl⟩
  go_wp2_with (at_make; refine wpList_make_full _ rfl _ _ 22 rfl w.heap.size 3 i0 (.int .i64 0) 1 Tryz.underlying22 hi hz0 hz1 _ _ _ _ n rfl rfl rfl rfl ?b2 ?b3 hsz2 ?_)
  case b2 => rw [hz2]; omega
  case b3 => unfold maxLen; omega
  intro w4 hown hgr
  have hb4 : Below w.heap.size w w4 := HB2.out.grown hgr hsz2 (fun k hk => by cases hk)
  have hsz4 : w.heap.size ≤ w2.heap.size + 1 := by simpa using hsz2
  obtain ⟨g, hg⟩ : ∃ g, w2.heap.size + 1 = g := ⟨_, rfl⟩
  rw [hg] at hown hsz4 ⊢
  have HO2 := Lib.hid hown; have HB4 := Lib.hid hb4
  clear hgr hown hb4 hsz2 hg
  go_wp2
  go_loopg [30] n (fun t i wr => ∃ (k : Nat) (Y : Nat → Int), k ≤ n ∧ t = n - k ∧ i = .int .i64 (k : Nat) ∧ wr.ownsRow w.heap.size 3 1 (.slice (some ⟨g, 0, none⟩) n n) n (ints Y n) ∧ (∀ j, j < k → Y j = Q (P j).toNat) ∧ Below w.heap.size w wr)
  case atStart => exact ⟨0, fun _ => 0, by omega, rfl, rfl, by rw [← ints_zero]; exact HO2.out, fun j hj => by omega, HB4.out⟩
  case round =>
    obtain ⟨k, Y, hk, rfl, rfl, ho, hY, hb⟩ := hrel
    have HY := Lib.hid hY
    clear hY
    by_cases hlt : k < n
    · obtain ⟨b, off, rfl, hcell⟩ := (HP.out.below hb (Nat.le_refl _)).pos hlt
      obtain ⟨b', off', rfl, hcell'⟩ := (HQ.out.below hb (Nat.le_refl _)).pos hlt
      have hc := hcell k hlt
      obtain ⟨r1, r2⟩ := HO.out.rng k hlt
      obtain ⟨m, hm⟩ : ∃ m : Nat, P k = m := ⟨(P k).toNat, by omega⟩
      rw [hm] at hc r1 r2
      have hmn : m < n := by omega
      have hc' := hcell' m hmn
      obtain ⟨z, hz⟩ : ∃ z : Int, Q m = z := ⟨_, rfl⟩
      rw [hz] at hc'
      have hcm := ho.cellAt k (by omega)
      rw [ints_at hlt] at hcm
      have hf := ho.frozenAt k
      have hst := (ho.stored k (.int .i64 z)).1
      rw [ints_set Y n k _ hlt] at hst
      have HST := Lib.hid hst
      have HSB := Lib.hid (hb.setCell (p := ⟨g, k, none⟩) hsz4 (.int .i64 z))
      have HNEW : Hid (∀ j, j < k + 1 → upd Y k z j = Q (P j).toNat) := Lib.hid (by
        intro j hj
        unfold upd
        by_cases h : j = k
        · subst h; rw [if_pos rfl, hm, ← hz]; rfl
        · rw [if_neg h]
          exact HY.out j (by omega))
      have HLT := Lib.hid hlt
      have i1 : (k : Int) < n := by omega
      have i2 : (0 : Int) ≤ k := by omega
      have i3 : (m : Int) < n := by omega
      have i4 : (0 : Int) ≤ m := by omega
      have t7 : decide (k < n) = true := decide_eq_true hlt
      clear ho hb hst hlt hcell hcell' hz hm r1 r2 hmn
      go_wp2_with fail
      go_roundg (n - (k + 1))
      case rel => exact ⟨k + 1, _, HLT.out, rfl, by go_num, HST.out, HNEW.out, HSB.out⟩
      case measure => have := HLT.out; omega
    · obtain rfl : k = n := by omega
      have t7 : decide (k < k) = false := by simp
      have HOO := Lib.hid ho; have HB := Lib.hid hb
      clear ho hb hlt
      go_wp2
      go_ret2
      exact ⟨g, Y, rfl, hsz4, own_intsV HOO.out, HY.out, HB.out⟩

theorem seq3 (w : World) (a b c : Int) : IntsV (w.alloc (.cells #[.int .i64 a, .int .i64 b, .int .i64 c] 3)) (.slice (some ⟨w.heap.size, 0, none⟩) 3 3) 3 (fun i => if i = 0 then a else if i = 1 then b else c) := by
  refine Or.inr ⟨by omega, _, 0, 3, rfl, fun i hi => ?_⟩
  rw [Nat.zero_add, (Whole.new w 3 _).cell i]
  match i, hi with
  | 0, _ => rfl
  | 1, _ => rfl
  | 2, _ => rfl
theorem seq2 (w : World) (a b : Int) : IntsV (w.alloc (.cells #[.int .i64 a, .int .i64 b] 3)) (.slice (some ⟨w.heap.size, 0, none⟩) 2 2) 2 (fun i => if i = 0 then a else b) := by
  refine Or.inr ⟨by omega, _, 0, 2, rfl, fun i hi => ?_⟩
  rw [Nat.zero_add, (Whole.new w 3 _).cell i]
  match i, hi with
  | 0, _ => rfl
  | 1, _ => rfl

end Go.Proofs.YtgolcogigpnbeaaGreatDoor
