/- perm.check, may, Id, Put, Back: contracts. -/
import Derived.Test.YtgolcogigpnbeaaGreatDoorPerm
import Derived.Test.YtgolcogigpnbeaaGreatDoorFaultAt
namespace Go.Proofs.YtgolcogigpnbeaaGreatDoor
open Go.RowKit

set_option maxRecDepth 100000 in
theorem check_ok (n : Nat) (Z : Nat → Int) (v : Value) (w : World) (h : IntsV w v n Z) (hr : rightB n Z = true) :
    Calls Tryz.prog 62 #[v] w fun e w' => e = .returned .nilIface ∧ Below w.heap.size w w' := by
  have R1 := permRight_any n Z v w h
  rw [hr] at R1
  have R := Lib.hid R1
  clear h hr R1
  go_enter Tryz.func62, Tryz.ntmps62
  go_wp2_with fail
  refine R.out.mono ?_; rintro e w1 ⟨rfl, hb⟩
  have HB := Lib.hid hb
  clear hb
  go_wp2_with fail
  go_ret
  exact ⟨rfl, HB.out⟩
set_option maxRecDepth 100000 in
theorem check_no (n : Nat) (Z : Nat → Int) (v : Value) (w : World) (h : IntsV w v n Z) (hr : rightB n Z = false) :
    Calls Tryz.prog 62 #[v] w fun e w' => ∃ u, e = .returned u ∧ FaultAt 1 0 w' u ∧ Below w.heap.size w w' := by
  have R1 := permRight_any n Z v w h
  rw [hr] at R1
  have R := Lib.hid R1
  clear h hr R1
  go_enter Tryz.func62, Tryz.ntmps62
  go_wp2_with fail
  refine R.out.mono ?_; rintro e w1 ⟨rfl, hb⟩
  have HB := Lib.hid hb
  clear hb
  go_wp2_with fail
  refine (new_any _ _ _ _).mono ?_; rintro e w2 ⟨rfl, rfl⟩
  go_wp2_with fail
  go_ret
  exact ⟨_, rfl, ⟨_, _, rfl, Whole.new _ _ _⟩, HB.out.alloc HB.out.size _⟩

def mayB (n : Int) : Bool := decide (0 ≤ n) && decide (n ≤ 8)
set_option maxRecDepth 100000 in
theorem may_any (n : Int) (w : World) : Calls Tryz.prog 58 #[.int .i64 n] w fun e w' => e = .returned (.bool (mayB n)) ∧ w' = w := by
  by_cases h1 : 0 ≤ n
  · have t1 : decide (0 ≤ n) = true := decide_eq_true h1
    by_cases h2 : n ≤ 8
    · have t2 : decide (n ≤ 8) = true := decide_eq_true h2
      have hF : Hid (mayB n = true) := Lib.hid (by simp [mayB, h1, h2])
      clear h1 h2
      go_enter Tryz.func58, Tryz.ntmps58
      go_wp2
      go_ret
      exact ⟨by rw [hF.out]; rfl, rfl⟩
    · have t2 : decide (n ≤ 8) = false := decide_eq_false h2
      have hF : Hid (mayB n = false) := Lib.hid (by simp [mayB, h1, h2])
      clear h1 h2
      go_enter Tryz.func58, Tryz.ntmps58
      go_wp2
      go_ret
      exact ⟨by rw [hF.out]; rfl, rfl⟩
  · have t1 : decide (0 ≤ n) = false := decide_eq_false h1
    have hF : Hid (mayB n = false) := Lib.hid (by simp [mayB, h1])
    clear h1
    go_enter Tryz.func58, Tryz.ntmps58
    go_wp2
    go_ret
    exact ⟨by rw [hF.out]; rfl, rfl⟩

/-- Numbers as cells. -/
def ints (Z : Nat → Int) (n : Nat) : List Value := (List.range n).map fun i => .int .i64 (Z i)
theorem ints_len (Z : Nat → Int) (n : Nat) : (ints Z n).length = n := by simp [ints]
theorem ints_at {Z : Nat → Int} {n i : Nat} (h : i < n) : (ints Z n)[i]? = some (.int .i64 (Z i)) := by simp [ints, h]
theorem ints_ext {Z : Nat → Int} {n : Nat} {xs : List Value} (h : xs.length = n) (hx : ∀ i, i < n → xs[i]? = some (.int .i64 (Z i))) : xs = ints Z n := by
  apply List.ext_getElem?
  intro i
  rcases Nat.lt_or_ge i n with hi | hi
  · rw [hx i hi, ints_at hi]
  · rw [List.getElem?_eq_none (by omega), List.getElem?_eq_none (by rw [ints_len]; omega)]
def upd (Z : Nat → Int) (m : Nat) (x : Int) : Nat → Int := fun i => if i = m then x else Z i
theorem ints_set (Z : Nat → Int) (n m : Nat) (x : Int) (hm : m < n) : (ints Z n).set m (.int .i64 x) = ints (upd Z m x) n := by
  refine ints_ext (by rw [List.length_set, ints_len]) fun i hi => ?_
  unfold upd
  by_cases h : i = m
  · subst h
    rw [if_pos rfl, List.getElem?_set_self (by rw [ints_len]; exact hi)]
  · rw [if_neg h, List.getElem?_set_ne (by omega), ints_at hi]
theorem own_intsV {w : World} {base n : Nat} {v : Value} {Z : Nat → Int} (h : w.ownsRow base 3 1 v n (ints Z n)) : IntsV w v n Z := by
  have h0 := h
  rcases h.2 with ⟨rfl, h1⟩ | ⟨g, cap, cur, rfl, _, hh, hcap, _⟩
  · subst h1; exact Or.inl ⟨rfl, _, _, rfl⟩
  · rcases Nat.eq_zero_or_pos n with h3 | h3
    · subst h3; exact Or.inl ⟨rfl, _, _, rfl⟩
    · refine Or.inr ⟨h3, g, 0, cap, rfl, fun i hi => ?_⟩
      rw [Nat.zero_add, h0.cellAt i (by omega)]
      exact ints_at hi
theorem ints_zero (n : Nat) : (madeCells #[Value.int .i64 0] n).toList = ints (fun _ => 0) n := by
  refine (toList_madeCells_one (.int .i64 0) n).trans (ints_ext (by simp) fun i hi => ?_)
  simp [hi]

set_option maxRecDepth 100000 in
set_option maxHeartbeats 1000000 in
theorem id_ok (n : Nat) (w : World) (hn : n ≤ 8) :
    Calls Tryz.prog 27 #[.int .i64 n] w fun e w' => e = .returned (.slice (some ⟨w.heap.size, 0, none⟩) n n) ∧ w'.ownsRow w.heap.size 3 1 (.slice (some ⟨w.heap.size, 0, none⟩) n n) n (ints (fun i => i) n) ∧ Below w.heap.size w w' := by
  obtain ⟨i0, hi, hz0, hz1, hz2⟩ := info_parts Tryz.infoInt
  have M1 := may_any n w
  rw [show mayB n = true by simp [mayB]; omega] at M1
  have HM := Lib.hid M1
  clear M1
  go_enter Tryz.func27, Tryz.ntmps27
  go_wp2_with fail
  refine HM.out.mono ?_; rintro e w1 ⟨rfl, hw⟩; obtain rfl := hw.symm
  go_wp2_with (at_make; refine wpList_make_full _ rfl _ _ 22 rfl w.heap.size 3 i0 (.int .i64 0) 1 Tryz.underlying22 hi hz0 hz1 _ _ _ _ n rfl rfl rfl rfl ?b2 ?b3 (Nat.le_refl _) ?_)
  case b2 => rw [hz2]; omega
  case b3 => unfold maxLen; omega
  intro w1 hown hgr
  have hb1 : Below w.heap.size w w1 := (Below.refl _ _).grown hgr (Nat.le_refl _) (fun k hk => by cases hk)
  have HO1 := Lib.hid hown; have HB1 := Lib.hid hb1
  clear hgr hown hb1
  go_wp2
  go_loopg [12] n (fun g i wr => ∃ (k : Nat) (Y : Nat → Int), k ≤ n ∧ g = n - k ∧ i = .int .i64 (k : Nat) ∧ wr.ownsRow w.heap.size 3 1 (.slice (some ⟨w.heap.size, 0, none⟩) n n) n (ints Y n) ∧ (∀ j, j < k → Y j = j) ∧ Below w.heap.size w wr)
  case atStart => exact ⟨0, fun _ => 0, by omega, rfl, rfl, by rw [← ints_zero]; exact HO1.out, fun j hj => by omega, HB1.out⟩
  case round =>
    obtain ⟨k, Y, hk, rfl, rfl, ho, hY, hb⟩ := hrel
    have HY := Lib.hid hY
    clear hY
    by_cases hlt : k < n
    · have hc := ho.cellAt k (by omega)
      rw [ints_at hlt] at hc
      have hf := ho.frozenAt k
      have hst := (ho.stored k (.int .i64 (k : Nat))).1
      rw [ints_set Y n k _ hlt] at hst
      have HST := Lib.hid hst
      have HSB := Lib.hid (hb.setCell (p := ⟨w.heap.size, k, none⟩) (Nat.le_refl _) (.int .i64 (k : Nat)))
      have HLT := Lib.hid hlt
      have i1 : (k : Int) < n := by omega
      have i2 : (0 : Int) ≤ k := by omega
      have t7 : decide (k < n) = true := decide_eq_true hlt
      clear ho hb hst hlt
      go_wp2_with fail
      go_roundg (n - (k + 1))
      case rel =>
        refine ⟨k + 1, _, HLT.out, rfl, by go_num, HST.out, fun j hj => ?_, HSB.out⟩
        unfold upd
        by_cases h : j = k
        · rw [if_pos h, h]
        · rw [if_neg h]; exact HY.out j (by omega)
      case measure => have := HLT.out; omega
    · obtain rfl : k = n := by omega
      have t7 : decide (k < k) = false := by simp
      have HO := Lib.hid ho; have HB := Lib.hid hb
      clear ho hb hlt
      go_wp2
      go_ret
      refine ⟨rfl, ?_, HB.out⟩
      have e : ints Y k = ints (fun i => i) k := ints_ext (by rw [ints_len]) fun i hi => by rw [ints_at hi, HY.out i hi]
      rw [← e]
      exact HO.out
set_option maxRecDepth 100000 in
theorem id_no (n : Int) (w : World) (hn : mayB n = false) :
    Calls Tryz.prog 27 #[.int .i64 n] w fun e w' => e = .returned (.slice none 0 0) ∧ w' = w := by
  have M1 := may_any n w
  rw [hn] at M1
  have HM := Lib.hid M1
  clear M1
  go_enter Tryz.func27, Tryz.ntmps27
  go_wp2_with fail
  refine HM.out.mono ?_; rintro e w1 ⟨rfl, hw⟩; obtain rfl := hw.symm
  go_wp2_with fail
  go_ret
  exact ⟨rfl, rfl⟩

set_option maxRecDepth 100000 in
set_option maxHeartbeats 2000000 in
theorem put_ok (n : Nat) (P L : Nat → Int) (v u : Value) (w : World) (hp : IntsV w v n P) (hl : IntsV w u n L) (hO : Order n P) :
    Calls Tryz.prog 60 #[v, u] w fun e w' => ∃ (b : Nat) (Y : Nat → Int), e = .returned (.tuple #[.slice (some ⟨b, 0, none⟩) n n, .nilIface]) ∧ w.heap.size ≤ b ∧ w'.ownsRow w.heap.size 3 1 (.slice (some ⟨b, 0, none⟩) n n) n (ints Y n) ∧ (∀ i, i < n → Y (P i).toNat = L i) ∧ Below w.heap.size w w' := by
  obtain ⟨i0, hi, hz0, hz1, hz2⟩ := info_parts Tryz.infoInt
  obtain ⟨A, c, rfl⟩ := hp.form
  obtain ⟨B, c', rfl⟩ := hl.form
  have C1 := Lib.hid (check_ok n P _ w hp (rightB_iff.2 hO))
  have HP := Lib.hid hp; have HL := Lib.hid hl; have HO := Lib.hid hO
  have hn8 := hO.le8
  have t0 : ((n : Int) != n) = false := by simp
  clear hp hl hO
  go_enter Tryz.func60, Tryz.ntmps60
  go_wp2_with fail
  refine C1.out.mono ?_; rintro e w1 ⟨rfl, hb1⟩
  have HB1 := Lib.hid hb1
  have hsz1 := hb1.size
  clear hb1
  go_wp2_with (at_make; refine wpList_make_full _ rfl _ _ 22 rfl w.heap.size 3 i0 (.int .i64 0) 1 Tryz.underlying22 hi hz0 hz1 _ _ _ _ n rfl rfl rfl rfl ?b2 ?b3 hsz1 ?_)
  case b2 => rw [hz2]; omega
  case b3 => unfold maxLen; omega
  intro w2 hown hgr
  have hb2 : Below w.heap.size w w2 := HB1.out.grown hgr hsz1 (fun k hk => by cases hk)
  have HO2 := Lib.hid hown; have HB2 := Lib.hid hb2
  obtain ⟨g, hg⟩ : ∃ g, w1.heap.size = g := ⟨_, rfl⟩
  rw [hg] at HO2 hsz1 ⊢
  clear hgr hown hb2 hg
  go_wp2
  go_loopg [26] n (fun t i wr => ∃ (k : Nat) (Y : Nat → Int), k ≤ n ∧ t = n - k ∧ i = .int .i64 (k : Nat) ∧ wr.ownsRow w.heap.size 3 1 (.slice (some ⟨g, 0, none⟩) n n) n (ints Y n) ∧ (∀ j, j < k → Y (P j).toNat = L j) ∧ Below w.heap.size w wr)
  case atStart => exact ⟨0, fun _ => 0, by omega, rfl, rfl, by rw [← ints_zero]; exact HO2.out, fun j hj => by omega, HB2.out⟩
  case round =>
    obtain ⟨k, Y, hk, rfl, rfl, ho, hY, hb⟩ := hrel
    have HY := Lib.hid hY
    clear hY
    by_cases hlt : k < n
    · obtain ⟨b, off, rfl, hcell⟩ := (HP.out.below hb (Nat.le_refl _)).pos hlt
      obtain ⟨b', off', rfl, hcell'⟩ := (HL.out.below hb (Nat.le_refl _)).pos hlt
      have hc := hcell k hlt
      have hc' := hcell' k hlt
      obtain ⟨r1, r2⟩ := HO.out.rng k hlt
      obtain ⟨m, hm⟩ : ∃ m : Nat, P k = m := ⟨(P k).toNat, by omega⟩
      rw [hm] at hc r1 r2
      have hmn : m < n := by omega
      obtain ⟨z, hz⟩ : ∃ z : Int, L k = z := ⟨_, rfl⟩
      rw [hz] at hc'
      have hcm := ho.cellAt m (by omega)
      rw [ints_at hmn] at hcm
      have hf := ho.frozenAt m
      have hst := (ho.stored m (.int .i64 z)).1
      rw [ints_set Y n m _ hmn] at hst
      have hgb : w.heap.size ≤ g := (ho.lt g rfl).1
      have HST := Lib.hid hst
      have HSB := Lib.hid (hb.setCell (p := ⟨g, m, none⟩) hgb (.int .i64 z))
      have HNEW : Hid (∀ j, j < k + 1 → upd Y m z (P j).toNat = L j) := Lib.hid (by
        intro j hj
        unfold upd
        by_cases h : j = k
        · subst h; rw [if_pos (by rw [hm]; rfl), hz]
        · have h1 := HO.out.rng j (by omega)
          rw [if_neg (fun e => h (HO.out.inj j k (by omega) hlt (by rw [hm]; omega)))]
          exact HY.out j (by omega))
      have HLT := Lib.hid hlt
      have i1 : (k : Int) < n := by omega
      have i2 : (0 : Int) ≤ k := by omega
      have i3 : (m : Int) < n := by omega
      have i4 : (0 : Int) ≤ m := by omega
      have t7 : decide (k < n) = true := decide_eq_true hlt
      clear ho hb hst hlt hcell hcell' hz hm r1 r2 hmn
      go_wp2_with fail
      go_roundg (n - (k + 1))
      case rel => exact ⟨k + 1, _, HLT.out, rfl, by go_num, HST.out, HNEW.out, HSB.out⟩
      case measure => have := HLT.out; omega
    · obtain rfl : k = n := by omega
      have t7 : decide (k < k) = false := by simp
      have HOO := Lib.hid ho; have HB := Lib.hid hb
      clear ho hb hlt
      go_wp2
      go_ret2
      exact ⟨g, Y, rfl, hsz1, HOO.out, HY.out, HB.out⟩

set_option maxRecDepth 100000 in
theorem put_len (n m : Nat) (P L : Nat → Int) (v u : Value) (w : World) (hp : IntsV w v n P) (hl : IntsV w u m L) (hO : Order n P) (hnm : n ≠ m) :
    Calls Tryz.prog 60 #[v, u] w fun e w' => ∃ f, e = .returned (.tuple #[.slice none 0 0, f]) ∧ FaultAt 1 1 w' f ∧ Below w.heap.size w w' := by
  obtain ⟨A, c, rfl⟩ := hp.form
  obtain ⟨B, c', rfl⟩ := hl.form
  have C1 := Lib.hid (check_ok n P _ w hp (rightB_iff.2 hO))
  have t0 : ((n : Int) != m) = true := by simp; omega
  clear hp hl hO hnm
  go_enter Tryz.func60, Tryz.ntmps60
  go_wp2_with fail
  refine C1.out.mono ?_; rintro e w1 ⟨rfl, hb1⟩
  have HB1 := Lib.hid hb1
  clear hb1
  go_wp2_with fail
  refine (new_any _ _ _ _).mono ?_; rintro e w2 ⟨rfl, rfl⟩
  go_wp2_with fail
  go_ret2
  exact ⟨_, rfl, ⟨_, _, rfl, Whole.new _ _ _⟩, HB1.out.alloc HB1.out.size _⟩
set_option maxRecDepth 100000 in
theorem put_bad (n : Nat) (P : Nat → Int) (v u : Value) (w : World) (hp : IntsV w v n P) (hr : rightB n P = false) :
    Calls Tryz.prog 60 #[v, u] w fun e w' => ∃ f, e = .returned (.tuple #[.slice none 0 0, f]) ∧ FaultAt 1 0 w' f ∧ Below w.heap.size w w' := by
  obtain ⟨A, c, rfl⟩ := hp.form
  have C1 := Lib.hid (check_no n P _ w hp hr)
  clear hp hr
  go_enter Tryz.func60, Tryz.ntmps60
  go_wp2_with fail
  refine C1.out.mono ?_; rintro e w1 ⟨f, rfl, ⟨b, s, rfl, hF⟩, hb1⟩
  have HB1 := Lib.hid hb1; have HF := Lib.hid hF
  clear hb1 hF
  go_wp2_with fail
  go_ret2
  exact ⟨_, rfl, ⟨_, _, rfl, HF.out⟩, HB1.out⟩

set_option maxRecDepth 100000 in
theorem back_ok (n : Nat) (P : Nat → Int) (v : Value) (w : World) (hp : IntsV w v n P) (hO : Order n P) :
    Calls Tryz.prog 23 #[v] w fun e w' => ∃ (b : Nat) (Y : Nat → Int), e = .returned (.tuple #[.slice (some ⟨b, 0, none⟩) n n, .nilIface]) ∧ w.heap.size ≤ b ∧ IntsV w' (.slice (some ⟨b, 0, none⟩) n n) n Y ∧ (∀ i, i < n → Y (P i).toNat = i) ∧ Below w.heap.size w w' := by
  obtain ⟨A, c, rfl⟩ := hp.form
  have I1 := Lib.hid (id_ok n w hO.le8)
  have HP := Lib.hid hp; have HO := Lib.hid hO
  clear hp hO
  go_enter Tryz.func23, Tryz.ntmps23
  go_wp2_with fail
  refine I1.out.mono ?_; rintro e w1 ⟨rfl, ho1, hb1⟩
  have P1 := Lib.hid (put_ok n P _ _ _ w1 (HP.out.below hb1 (Nat.le_refl _)) (own_intsV ho1) HO.out)
  have HB1 := Lib.hid hb1
  clear ho1 hb1
  go_wp2_with fail
  refine P1.out.mono ?_; rintro e w2 ⟨b, Y, rfl, hbb, ho2, hY, hb2⟩
  have HB2 := Lib.hid (HB1.out.trans (hb2.mono HB1.out.size))
  have HI2 := Lib.hid (own_intsV ho2); have HY := Lib.hid hY; have HBB := Lib.hid hbb
  clear hbb ho2 hY hb2
  go_wp2_with fail
  go_ret2
  exact ⟨b, Y, rfl, Nat.le_trans HB1.out.size HBB.out, HI2.out, HY.out, HB2.out⟩
set_option maxRecDepth 100000 in
theorem back_bad (n : Nat) (P : Nat → Int) (v : Value) (w : World) (hp : IntsV w v n P) (hr : rightB n P = false) :
    Calls Tryz.prog 23 #[v] w fun e w' => ∃ f, e = .returned (.tuple #[.slice none 0 0, f]) ∧ FaultAt 1 0 w' f ∧ Below w.heap.size w w' := by
  obtain ⟨A, c, rfl⟩ := hp.form
  have HP := Lib.hid hp; have HR := Lib.hid hr
  by_cases h8 : n ≤ 8
  · have I1 := Lib.hid (id_ok n w h8)
    clear hp hr
    go_enter Tryz.func23, Tryz.ntmps23
    go_wp2_with fail
    refine I1.out.mono ?_; rintro e w1 ⟨rfl, ho1, hb1⟩
    have P1 := Lib.hid (put_bad n P _ (.slice (some ⟨w.heap.size, 0, none⟩) n n) w1 (HP.out.below hb1 (Nat.le_refl _)) HR.out)
    have HB1 := Lib.hid hb1
    clear ho1 hb1
    go_wp2_with fail
    refine P1.out.mono ?_; rintro e w2 ⟨f, rfl, hf, hb2⟩
    obtain ⟨b, s, rfl, hF⟩ := hf
    have HF := Lib.hid hF
    have HB2 := Lib.hid (HB1.out.trans (hb2.mono HB1.out.size))
    clear hb2 hF
    go_wp2_with fail
    go_ret2
    exact ⟨_, rfl, ⟨_, _, rfl, HF.out⟩, HB2.out⟩
  · have I1 := Lib.hid (id_no n w (by simp [mayB]; omega))
    have P1 := Lib.hid (put_bad n P _ (.slice none 0 0) w hp hr)
    clear hp hr h8
    go_enter Tryz.func23, Tryz.ntmps23
    go_wp2_with fail
    refine I1.out.mono ?_; rintro e w1 ⟨rfl, hw1⟩; obtain rfl := hw1.symm
    go_wp2_with fail
    refine P1.out.mono ?_; rintro e w2 ⟨f, rfl, hf, hb2⟩
    obtain ⟨b, s, rfl, hF⟩ := hf
    have HF := Lib.hid hF; have HB2 := Lib.hid hb2
    clear hb2 hF
    go_wp2_with fail
    go_ret2
    exact ⟨_, rfl, ⟨_, _, rfl, HF.out⟩, HB2.out⟩
end Go.Proofs.YtgolcogigpnbeaaGreatDoor
