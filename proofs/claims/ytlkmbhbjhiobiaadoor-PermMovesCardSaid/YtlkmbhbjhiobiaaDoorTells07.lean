/- What perm and its reference tell of lists that are no orders, and the reference's Right, Back, Even. -/
import Derived.Test.YtlkmbhbjhiobiaaDoorCirc2
import Derived.Test.YtlkmbhbjhiobiaaDoorEven
namespace Go.Proofs.YtlkmbhbjhiobiaaDoor
open Go.RowKit

set_option maxRecDepth 100000 in
theorem even_bad (n : Nat) (P : Nat → Int) (v : Value) (w : World) (hp : IntsV w v n P) (hr : rightB n P = false) :
    Calls Tryd.prog 13 #[v] w fun e w' => ∃ f, e = .returned (.tuple #[.bool false, f]) ∧ FaultAt 1 0 w' f ∧ Below w.heap.size w w' := by
  obtain ⟨A, c, rfl⟩ := hp.form
  have C1 := Lib.hid (check_no n P _ w hp hr)
  clear hp hr
  go_enter Tryd.func13, Tryd.ntmps13
  go_wp2_with fail
  refine C1.out.mono ?_; rintro e w1 ⟨f, rfl, ⟨b, s, rfl, hF⟩, hb1⟩
  have HB1 := Lib.hid hb1; have HF := Lib.hid hF
  clear hb1 hF
  go_wp2_with fail
  go_ret2
  exact ⟨_, rfl, ⟨_, _, rfl, HF.out⟩, HB1.out⟩

set_option maxRecDepth 100000 in
set_option maxHeartbeats 1000000 in
theorem then_bad1 (n m : Nat) (P Q : Nat → Int) (v u : Value) (w : World) (hp : IntsV w v n P) (hq : IntsV w u m Q) (hr : rightB n P = false) :
    Calls Tryd.prog 11 #[v, u] w fun e w' => ∃ f, e = .returned (.tuple #[.slice none 0 0, f]) ∧ FaultAt 1 0 w' f ∧ Below w.heap.size w w' := by
  obtain ⟨A, c, rfl⟩ := hp.form
  obtain ⟨B, c', rfl⟩ := hq.form
  have C1 := Lib.hid (check_no n P _ w hp hr)
  have HQ := Lib.hid hq
  clear hp hr hq
  go_enter Tryd.func11, Tryd.ntmps11
  go_wp2_with fail
  refine C1.out.mono ?_; rintro e w1 ⟨f, rfl, ⟨b, s, rfl, hF⟩, hb1⟩
  have HB1 := Lib.hid hb1; have HF := Lib.hid hF
  have HQ1 := Lib.hid (HQ.out.below hb1 (Nat.le_refl _))
  clear hb1 hF
  cases hrq : rightB m Q with
  | true =>
    have C2 := Lib.hid (check_ok m Q _ w1 HQ1.out hrq)
    clear hrq
    go_wp2_with fail
    refine C2.out.mono ?_; rintro e w2 ⟨rfl, hb2⟩
    have HB2 := Lib.hid (HB1.out.trans (hb2.mono HB1.out.size))
    have HF2 := Lib.hid (HF.out.below hb2 HF.out.lt)
    clear hb2
    have HA2 := Lib.hid (HB2.out.alloc HB2.out.size (.cells #[.iface 58 (.pointer (some ⟨b, 0, none⟩)), .nilIface] 26))
    have HF3 := Lib.hid (HF2.out.alloc (.cells #[.iface 58 (.pointer (some ⟨b, 0, none⟩)), .nilIface] 26))
    go_wp2_with fail
    refine (first_e_at w2 _ _ _).mono ?_; rintro e w3 ⟨rfl, rfl⟩
    go_wp2_with fail
    go_ret2
    exact ⟨_, rfl, ⟨_, _, rfl, HF3.out⟩, HA2.out⟩
  | false =>
    have C2 := Lib.hid (check_no m Q _ w1 HQ1.out hrq)
    clear hrq
    go_wp2_with fail
    refine C2.out.mono ?_; rintro e w2 ⟨f2, rfl, ⟨b2, s2, rfl, hF2'⟩, hb2⟩
    have HB2 := Lib.hid (HB1.out.trans (hb2.mono HB1.out.size))
    have HF2 := Lib.hid (HF.out.below hb2 HF.out.lt)
    clear hb2 hF2'
    have HA2 := Lib.hid (HB2.out.alloc HB2.out.size (.cells #[.iface 58 (.pointer (some ⟨b, 0, none⟩)), .iface 58 (.pointer (some ⟨b2, 0, none⟩))] 26))
    have HF3 := Lib.hid (HF2.out.alloc (.cells #[.iface 58 (.pointer (some ⟨b, 0, none⟩)), .iface 58 (.pointer (some ⟨b2, 0, none⟩))] 26))
    go_wp2_with fail
    refine (first_e_at w2 _ _ _).mono ?_; rintro e w3 ⟨rfl, rfl⟩
    go_wp2_with fail
    go_ret2
    exact ⟨_, rfl, ⟨_, _, rfl, HF3.out⟩, HA2.out⟩
set_option maxRecDepth 100000 in
set_option maxHeartbeats 1000000 in
theorem then_bad2 (n m : Nat) (P Q : Nat → Int) (v u : Value) (w : World) (hp : IntsV w v n P) (hq : IntsV w u m Q) (hO : Order n P) (hrq : rightB m Q = false) :
    Calls Tryd.prog 11 #[v, u] w fun e w' => ∃ f, e = .returned (.tuple #[.slice none 0 0, f]) ∧ FaultAt 1 0 w' f ∧ Below w.heap.size w w' := by
  obtain ⟨A, c, rfl⟩ := hp.form
  obtain ⟨B, c', rfl⟩ := hq.form
  have C1 := Lib.hid (check_ok n P _ w hp (rightB_iff.2 hO))
  have HQ := Lib.hid hq; have HRQ := Lib.hid hrq
  clear hp hO hq hrq
  go_enter Tryd.func11, Tryd.ntmps11
  go_wp2_with fail
  refine C1.out.mono ?_; rintro e w1 ⟨rfl, hb1⟩
  have HB1 := Lib.hid hb1
  have C2 := Lib.hid (check_no m Q _ w1 (HQ.out.below hb1 (Nat.le_refl _)) HRQ.out)
  clear hb1
  go_wp2_with fail
  refine C2.out.mono ?_; rintro e w2 ⟨f, rfl, ⟨b, s, rfl, hF⟩, hb2⟩
  have HB2 := Lib.hid (HB1.out.trans (hb2.mono HB1.out.size))
  have HA2 := Lib.hid (HB2.out.alloc HB2.out.size (.cells #[.nilIface, .iface 58 (.pointer (some ⟨b, 0, none⟩))] 26))
  have HF3 := Lib.hid (hF.alloc (.cells #[.nilIface, .iface 58 (.pointer (some ⟨b, 0, none⟩))] 26))
  clear hb2 hF
  go_wp2_with fail
  refine (first_ne_at w2 _ _).mono ?_; rintro e w3 ⟨rfl, rfl⟩
  go_wp2_with fail
  go_ret2
  exact ⟨_, rfl, ⟨_, _, rfl, HF3.out⟩, HA2.out⟩
set_option maxRecDepth 100000 in
set_option maxHeartbeats 1000000 in
theorem then_len (n m : Nat) (P Q : Nat → Int) (v u : Value) (w : World) (hp : IntsV w v n P) (hq : IntsV w u m Q) (hO : Order n P) (hQ : Order m Q) (hnm : n ≠ m) :
    Calls Tryd.prog 11 #[v, u] w fun e w' => ∃ f, e = .returned (.tuple #[.slice none 0 0, f]) ∧ FaultAt 1 1 w' f ∧ Below w.heap.size w w' := by
  obtain ⟨A, c, rfl⟩ := hp.form
  obtain ⟨B, c', rfl⟩ := hq.form
  have C1 := Lib.hid (check_ok n P _ w hp (rightB_iff.2 hO))
  have HQ := Lib.hid hq; have HRQ := Lib.hid hQ
  have t0 : ((n : Int) != m) = true := by simp; omega
  clear hp hO hq hQ hnm
  go_enter Tryd.func11, Tryd.ntmps11
  go_wp2_with fail
  refine C1.out.mono ?_; rintro e w1 ⟨rfl, hb1⟩
  have HB1 := Lib.hid hb1
  have C2 := Lib.hid (check_ok m Q _ w1 (HQ.out.below hb1 (Nat.le_refl _)) (rightB_iff.2 HRQ.out))
  clear hb1
  go_wp2_with fail
  refine C2.out.mono ?_; rintro e w2 ⟨rfl, hb2⟩
  have HB2 := Lib.hid (HB1.out.trans (hb2.mono HB1.out.size))
  have HA2 := Lib.hid (HB2.out.alloc HB2.out.size (.cells #[.nilIface, .nilIface] 26))
  clear hb2
  go_wp2_with fail
  refine (first_nn_at w2).mono ?_; rintro e w3 ⟨rfl, hw3⟩
  have HA3 : Hid (Below w.heap.size w w3) := Lib.hid (by rw [hw3]; exact HA2.out)
  clear hw3
  go_wp2_with fail
  refine (new_any _ _ _ _).mono ?_; rintro e w4 ⟨rfl, rfl⟩
  go_wp2_with fail
  go_ret2
  exact ⟨_, rfl, ⟨_, _, rfl, Whole.new _ _ _⟩, HA3.out.alloc HA3.out.size _⟩

/-- Is a number among n? -/
def hasB (n : Nat) (P : Nat → Int) (x : Nat) : Bool := ((List.range n).map P).contains (x : Int)
theorem hasB_iff {n : Nat} {P : Nat → Int} {x : Nat} : hasB n P x = true ↔ ∃ i, i < n ∧ P i = x := by simp [hasB]
theorem right_all {n : Nat} {P : Nat → Int} (h8 : n ≤ 8) (h : ∀ j, j < n → hasB n P j = true) : rightB n P = true := by
  refine rightB_iff.2 (order_of_perm h8 ?_)
  refine (perm_of_subset (Go.Proofs.YtlkmbhbjhiobiaaDoor.upto n) _ (upto_nodup n) (fun x hx => ?_) (by rw [upto_len]; simp)).symm
  have h1 := upto_mem.1 hx
  obtain ⟨i, hi, he⟩ := hasB_iff.1 (h x.toNat (by omega))
  exact List.mem_map.2 ⟨i, List.mem_range.2 hi, by omega⟩
theorem right_no {n : Nat} {P : Nat → Int} {j : Nat} (hj : j < n) (h : hasB n P j = false) : rightB n P = false := by
  cases hr : rightB n P with
  | false => rfl
  | true =>
    obtain ⟨i, hi, he⟩ := (rightB_iff.1 hr).surj j hj
    rw [hasB_iff.2 ⟨i, hi, he⟩] at h; cases h

set_option maxRecDepth 100000 in
set_option maxHeartbeats 1000000 in
theorem refRight_any (n : Nat) (P : Nat → Int) (v : Value) (w : World) (h : IntsV w v n P) (hn : n ≤ 1000) :
    Calls Tryd.prog 9 #[v] w fun e w' => e = .returned (.bool (rightB n P)) ∧ w' = w := by
  obtain ⟨A, c, rfl⟩ := h.form
  have HS := Lib.hid (seqV_of h)
  clear h
  go_enter Tryd.func9, Tryd.ntmps9
  go_wp2_with fail
  go_loopg [3] n (fun g y wr => ∃ k, k ≤ n ∧ g = n - k ∧ y = .int .i64 (k : Nat) ∧ (∀ j, j < k → hasB n P j = true) ∧ wr = w)
  case atStart => exact ⟨0, by omega, rfl, rfl, fun j hj => by omega, rfl⟩
  case round =>
    obtain ⟨k, hk, rfl, rfl, hall, rfl⟩ := hrel
    have HALL := Lib.hid hall
    clear hall
    by_cases hlt : k < n
    · have R1 := refHas_any _ (k : Int) _ wr HS.out (by simp; omega)
      change Calls _ _ _ _ fun e w' => e = .returned (.bool (hasB n P k)) ∧ w' = wr at R1
      have HLT := Lib.hid hlt
      have t7 : decide (k < n) = true := decide_eq_true hlt
      have i1 : (k : Int) < n := by omega
      have i2 : (0 : Int) ≤ k := by omega
      cases hh : hasB n P k with
      | true =>
        rw [hh] at R1
        have HR := Lib.hid R1; have HH := Lib.hid hh
        clear R1 hh hlt
        go_wp2_with fail
        refine HR.out.mono ?_; rintro e w2 ⟨rfl, hw2⟩; obtain rfl := hw2.symm
        go_wp2_with fail
        go_roundg (n - (k + 1))
        case rel => exact ⟨k + 1, HLT.out, rfl, by go_num, fun j hj => by
          rcases (by omega : j < k ∨ j = k) with h1 | rfl
          · exact HALL.out j h1
          · exact HH.out, rfl⟩
        case measure => have := HLT.out; omega
      | false =>
        rw [hh] at R1
        have HR := Lib.hid R1; have HH := Lib.hid (right_no hlt hh)
        clear R1 hh hlt
        go_wp2_with fail
        refine HR.out.mono ?_; rintro e w2 ⟨rfl, hw2⟩; obtain rfl := hw2.symm
        go_wp2_with fail
        go_ret
        exact ⟨by rw [HH.out]; rfl, rfl⟩
    · obtain rfl : k = n := by omega
      have t7 : decide (k < k) = false := by simp
      by_cases h8 : k ≤ 8
      · have t8 : decide (k ≤ 8) = true := decide_eq_true h8
        have t9 : decide ((k : Int) ≤ 8) = true := decide_eq_true (by omega)
        have HH := Lib.hid (right_all h8 HALL.out)
        clear hlt h8
        go_wp2_with fail
        go_ret
        exact ⟨by rw [HH.out]; rfl, rfl⟩
      · have t8 : decide (k ≤ 8) = false := decide_eq_false h8
        have t9 : decide ((k : Int) ≤ 8) = false := decide_eq_false (by omega)
        have HH : Hid (rightB k P = false) := Lib.hid (by simp [rightB]; omega)
        clear hlt h8
        go_wp2_with fail
        go_ret
        exact ⟨by rw [HH.out]; rfl, rfl⟩

set_option maxRecDepth 100000 in
set_option maxHeartbeats 2000000 in
theorem refBack_any (n : Nat) (P : Nat → Int) (v : Value) (w : World) (hp : IntsV w v n P) (hO : Order n P) :
    Calls Tryd.prog 19 #[v] w fun e w' => ∃ (u : Value) (Y : Nat → Int), e = .returned u ∧ IntsV w' u n Y ∧ (∀ i, i < n → Y (P i).toNat = i) ∧ Below w.heap.size w w' := by
  obtain ⟨i0, hi, hz0, hz1, hz2⟩ := info_parts Tryd.infoInt
  obtain ⟨A, c, rfl⟩ := hp.form
  have HP := Lib.hid hp; have HO := Lib.hid hO
  have hn8 := hO.le8
  have hsz1 : w.heap.size ≤ w.heap.size := Nat.le_refl _
  clear hp hO
  go_enter Tryd.func19, Tryd.ntmps19
  go_wp2_with (at_make; refine wpList_make_full _ rfl _ _ 22 rfl w.heap.size 3 i0 (.int .i64 0) 1 Tryd.underlying22 hi hz0 hz1 _ _ _ _ n rfl rfl rfl rfl ?b2 ?b3 hsz1 ?_)
  case b2 => rw [hz2]; omega
  case b3 => unfold maxLen; omega
  intro w2 hown hgr
  have hb2 : Below w.heap.size w w2 := (Below.refl _ _).grown hgr hsz1 (fun k hk => by cases hk)
  have HO2 := Lib.hid hown; have HB2 := Lib.hid hb2
  clear hgr hown hb2
  go_wp2
  go_loopg [4] n (fun t i wr => ∃ (k : Nat) (Y : Nat → Int), k ≤ n ∧ t = n - k ∧ i = .int .i64 (k : Nat) ∧ wr.ownsRow w.heap.size 3 1 (.slice (some ⟨w.heap.size, 0, none⟩) n n) n (ints Y n) ∧ (∀ j, j < k → Y (P j).toNat = j) ∧ Below w.heap.size w wr)
  case atStart => exact ⟨0, fun _ => 0, by omega, rfl, rfl, by rw [← ints_zero]; exact HO2.out, fun j hj => by omega, HB2.out⟩
  case round =>
    obtain ⟨k, Y, hk, rfl, rfl, ho, hY, hb⟩ := hrel
    have HY := Lib.hid hY
    clear hY
    by_cases hlt : k < n
    · obtain ⟨b, off, rfl, hcell⟩ := (HP.out.below hb (Nat.le_refl _)).pos hlt
      have hc := hcell k hlt
      obtain ⟨r1, r2⟩ := HO.out.rng k hlt
      obtain ⟨m, hm⟩ : ∃ m : Nat, P k = m := ⟨(P k).toNat, by omega⟩
      rw [hm] at hc r1 r2
      have hmn : m < n := by omega
      have hcm := ho.cellAt m (by omega)
      rw [ints_at hmn] at hcm
      have hf := ho.frozenAt m
      have hst := (ho.stored m (.int .i64 (k : Nat))).1
      rw [ints_set Y n m _ hmn] at hst
      have hsb := hb.setCell (p := ⟨w.heap.size, m, none⟩) (Nat.le_refl _) (.int .i64 (k : Nat))
      have HST := Lib.hid hst
      have HSB := Lib.hid hsb
      have HNEW : Hid (∀ j, j < k + 1 → upd Y m k (P j).toNat = j) := Lib.hid (by
        intro j hj
        unfold upd
        by_cases h : j = k
        · subst h; rw [if_pos (by rw [hm]; rfl)]
        · have h1 := HO.out.rng j (by omega)
          rw [if_neg (fun e => h (HO.out.inj j k (by omega) hlt (by rw [hm]; omega)))]
          exact HY.out j (by omega))
      have HLT := Lib.hid hlt
      have i1 : (k : Int) < n := by omega
      have i2 : (0 : Int) ≤ k := by omega
      have i3 : (m : Int) < n := by omega
      have i4 : (0 : Int) ≤ m := by omega
      have t7 : decide (k < n) = true := decide_eq_true hlt
      clear ho hb hst hlt hcell hm r1 r2 hmn hsb
      go_wp2_with fail
      go_roundg (n - (k + 1))
      case rel => exact ⟨k + 1, _, HLT.out, rfl, by go_num, HST.out, HNEW.out, HSB.out⟩
      case measure => have := HLT.out; omega
    · obtain rfl : k = n := by omega
      have t7 : decide (k < k) = false := by simp
      have HOO := Lib.hid (own_intsV ho); have HB := Lib.hid hb
      clear ho hb hlt
      go_wp2
      go_ret
      exact ⟨_, Y, rfl, HOO.out, HY.out, HB.out⟩
end Go.Proofs.YtlkmbhbjhiobiaaDoor
