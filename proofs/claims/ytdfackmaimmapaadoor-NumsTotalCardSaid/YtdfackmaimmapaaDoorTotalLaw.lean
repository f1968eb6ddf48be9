/- NumsTotal: the walk. -/
import Derived.Test.YtdfackmaimmapaaDoorRefSame
import Derived.Test.YtdfackmaimmapaaDoorRulesLaw
import Derived.Test.YtdfackmaimmapaaDoorLeast
namespace Go.Proofs.YtdfackmaimmapaaDoor
open Go.RowKit

theorem own_typed {w : World} {base e size n b : Nat} {v : Value} {xs : List Value} {t : TypeId} (h : w.ownsRow base e size v n xs) (hg : Typed w b t) (hne : e ≠ t) : v.ownBlock ≠ some b := by
  rcases h.2 with ⟨rfl, _⟩ | ⟨g', cap, cur, rfl, _, hh, _⟩
  · simp [Value.ownBlock]
  · intro he
    have e1 : g' = b := by simpa [Value.ownBlock] using he
    subst e1
    obtain ⟨cs, fr, hg⟩ := hg
    rw [hg] at hh
    injection hh with hh
    injection hh with _ ht
    exact hne ht.symm
theorem NumV.app {w w1 : World} {v s : Value} {x : Int} {base e size n : Nat} {xs : List Value} (h : NumV w v x) (hown : w.ownsRow base e size s n xs) (hne : e ≠ 3) (o : Obj) (hg : (w.alloc o).grownBy w1 s.ownBlock) : NumV w1 v x :=
  h.keep fun b ht => (hg.block b (by have := ht.lt; simp; omega) (fun he => own_typed hown ht hne he.symm)).trans (Below.heap_alloc w o b ht.lt)
theorem IntsV.form {w : World} {v : Value} {n : Nat} {Z : Nat → Int} (h : IntsV w v n Z) : ∃ A c, v = .slice A n c := by
  rcases h with ⟨rfl, A, c, rfl⟩ | ⟨_, b, off, c, rfl, _⟩
  · exact ⟨_, _, rfl⟩
  · exact ⟨_, _, rfl⟩
theorem IntsV.pos {w : World} {A : Option Addr} {c n : Nat} {Z : Nat → Int} (h : IntsV w (.slice A n c) n Z) {i : Nat} (hi : i < n) : ∃ b off, A = some ⟨b, off, none⟩ ∧ ∀ j, j < n → w.cell? ⟨b, off + j, none⟩ = some (.int .i64 (Z j)) := by
  rcases h with ⟨rfl, _⟩ | ⟨_, b, off, c, e, hc⟩
  · omega
  · injection e with e1 e2 e3
    exact ⟨b, off, e1, hc⟩
theorem pow100_big : (340282366920938463463374607431768211456 : Nat) < 32768 ^ 100 := by decide
def revZ (Z : Nat → Int) (n : Nat) (i : Nat) : Int := Z (n - 1 - i)
def rowZ (Z : Nat → Int) (k : Nat) : List Value := (List.range k).map fun i => Value.int .i64 (Z i)
theorem rowZ_succ (Z : Nat → Int) (k : Nat) : rowZ Z (k + 1) = rowZ Z k ++ [.int .i64 (Z k)] := by unfold rowZ; rw [List.range_succ, List.map_append]; rfl
theorem sumTo_rev (Z : Nat → Int) (n : Nat) : ∀ k, k ≤ n → sumTo (revZ Z n) k + sumTo Z (n - k) = sumTo Z n
  | 0, _ => by simp [sumTo]
  | k + 1, h => by
    have ih := sumTo_rev Z n k (by omega)
    have e : n - k = (n - (k + 1)) + 1 := by omega
    rw [e, sumTo] at ih
    rw [sumTo]
    have : revZ Z n k = Z (n - (k + 1)) := by unfold revZ; congr 1; omega
    omega

theorem Tryd.infoL : (Tryd.prog.info? 2).map (fun i => (i.zero, i.size, i.bytes)) = some (some (.int .i64 0), 1, 8) := by kernel_rfl
theorem NumV.split {w : World} {v : Value} {x : Int} (h : NumV w v x) : ∃ p A m c, v = .agg #[.bool p, .slice A m c] := by
  obtain ⟨n, c, A, D, rfl, _⟩ := h
  exact ⟨_, _, _, _, rfl⟩
theorem least_none (ao : Option Addr) (cap : Nat) (w : World) :
    Calls Tryd.prog 22 #[.slice ao 0 cap] w fun e w' => e = .returned (.tuple #[.int .i64 0, .bool false]) ∧ w = w' := by
  go_enter Tryd.func22, Tryd.ntmps22
  go_wp2
  go_ret2
  exact ⟨rfl, rfl⟩
/-- The least, or 0 of nothing. -/
def LeastV (Z : Nat → Int) (n : Nat) (L : Int) (ok : Bool) : Prop := (n = 0 ∧ L = 0 ∧ ok = false) ∨ (0 < n ∧ ok = true ∧ LeastIs Z n L)
theorem least_v (v : Value) (n : Nat) (Z : Nat → Int) (w : World) (hn : n ≤ 100000) (hv : IntsV w v n Z) :
    Calls Tryd.prog 22 #[v] w fun e w' => ∃ L ok, e = .returned (.tuple #[.int .i64 L, .bool ok]) ∧ LeastV Z n L ok ∧ w = w' := by
  rcases hv with ⟨rfl, ao, cap, rfl⟩ | ⟨h0, b, off, cap, rfl, hc⟩
  · exact (least_none ao cap w).mono fun e w' ⟨he, hw⟩ => ⟨0, false, he, Or.inl ⟨rfl, rfl, rfl⟩, hw⟩
  · exact (least_any b off n cap Z w h0 hn hc).mono fun e w' ⟨L, he, hL, hw⟩ => ⟨L, true, he, Or.inr ⟨h0, rfl, hL⟩, hw⟩
def hitB (Z : Nat → Int) (L : Int) : Nat → Bool
  | 0 => false
  | k + 1 => hitB Z L k || Z k == L
theorem hitB_of {Z : Nat → Int} {L : Int} {i : Nat} (h : L = Z i) : ∀ n, i < n → hitB Z L n = true
  | 0, hi => by omega
  | n + 1, hi => by
    rw [hitB]
    rcases Nat.lt_or_ge i n with h1 | h1
    · rw [hitB_of h n h1]; rfl
    · have : i = n := by omega
      subst this
      simp [h]
/-- What the first loop keeps. -/
def TotRel (Z : Nat → Int) (n : Nat) (W : World) (g : Nat) (k : Nat) (x y : Value) (wr : World) : Prop :=
  y = .int .i64 (k : Nat) ∧ wr.ownsRow W.heap.size 2 1 x k (rowZ (revZ Z n) k) ∧
  (∃ p A m c, Whole wr g 30 #[.bool p, .slice A m c] ∧ NumV wr (.agg #[.bool p, .slice A m c]) (sumTo Z k)) ∧ Below W.heap.size W wr

set_option maxRecDepth 100000 in
set_option maxHeartbeats 20000000 in
theorem total_law (n : Nat) (Z : Nat → Int) (v : Value) (w : World) (hg : ErrT w) (hv : IntsV w v n Z) (hz : ∀ i, -9223372036854775808 ≤ Z i ∧ Z i ≤ 9223372036854775807) (hn : n ≤ 200) :
    Calls Tryd.prog 5 #[v] w fun e w' => e = .returned (.bool true) ∧ Below w.heap.size w w' := by
  obtain ⟨i0, hi, hz0, hz1, hz2⟩ := info_parts Tryd.infoL
  have HZ := Lib.hid hz
  obtain ⟨A0, c0, rfl⟩ := hv.form
  have HV := Lib.hid hv
  clear hz hv
  have dn : decide (200 < (n : Int)) = false := decide_eq_false (by omega)
  go_enter Tryd.func5, Tryd.ntmps5
  go_wp2_with fail
  refine (alive_ok _ hg).mono ?_; rintro e w1 ⟨rfl, hb1⟩
  have HB1 := Lib.hid hb1; have HG := Lib.hid hg
  have hl1 := hb1.size
  clear hb1 hg
  go_wp2
  go_loopg [4, 5] n (fun g x y wr => ∃ k, k ≤ n ∧ g = n - k ∧ TotRel Z n w w1.heap.size k x y wr)
  case atStart =>
    refine ⟨0, by omega, rfl, rfl, World.ownsRow_nil _ _ _ _, ⟨false, none, 0, 0, Whole.new _ _ _, 0, 0, none, fun _ => 0, rfl, ⟨fun i h => by omega, rfl, fun h => by omega⟩, Or.inl rfl, by omega, by omega⟩, HB1.out.alloc hl1 _⟩
  case round =>
    obtain ⟨k, hk, rfl, rfl, hown, ⟨p, A, m', c, hw, hnv⟩, hb⟩ := hrel
    obtain ⟨A', c', rfl⟩ := own_form hown
    by_cases hlt : k < n
    · have hv1 := HV.out.below hb (Nat.le_refl _)
      obtain ⟨bl, off, rfl, hcell⟩ := hv1.pos hlt
      have hc1 := hcell k hlt
      have hc2 := hcell (n - 1 - k) (by omega)
      have HC2 := Lib.hid hc2
      obtain ⟨z, hzk⟩ : ∃ z, Z k = z := ⟨_, rfl⟩
      rw [hzk] at hc1
      obtain ⟨zz0, zz1⟩ := HZ.out k
      rw [hzk] at zz0 zz1
      have hbd := sumTo_bd Z HZ.out k
      have hp := pow100_big
      have a0 := hw.cell 0; have a1 := hw.cell 1; have f0 := hw.free 0; have f1 := hw.free 1
      simp at a0 a1
      have hlg := hw.lt
      have hlb : bl < wr.heap.size := World.block_lt_of_cell? _ _ hc1
      have hOF := fun W => of_any z W zz0 zz1
      have hADD := fun v3 W (hb3 : Below wr.heap.size wr W) (hv3 : NumV W v3 z) => refAdd_any (sumTo Z k) z _ v3 W (hnv.below hb3 (Nat.le_refl _)) hv3 (by omega) (by omega)
      have OF := Lib.hid hOF; have ADD := Lib.hid hADD
      have HZK := Lib.hid hzk; have HOWN := Lib.hid hown; have HW := Lib.hid hw; have HB := Lib.hid hb
      have i0' : (0 : Int) ≤ k := by omega
      have i1' : (k : Int) < n := by omega
      clear hv1 hcell hc2 hzk hbd hp hOF hADD hown hw hb hnv
      go_wp2_with fail
      go_region_with (first
        | (go_at_call 14
           refine (OF.out _).mono ?_
           rintro e' w3 ⟨v3, rfl, hv3, hb3'⟩
           have hb3 : Below wr.heap.size wr w3 := ⟨hb3'.os, hb3'.tape, hb3'.output, hb3'.size, hb3'.block⟩
           have b0 := (hb3.cell (p := ⟨w1.heap.size, 0, none⟩) hlg).trans a0
           have b1 := (hb3.cell (p := ⟨w1.heap.size, 1, none⟩) hlg).trans a1
           have HB3 := Lib.hid hb3
           have HV3 := Lib.hid hv3
           clear hb3' hb3 hv3)
        | (go_at_call 13
           refine (ADD.out v3 _ ⟨HB3.out.os, HB3.out.tape, HB3.out.output, HB3.out.size, HB3.out.block⟩ HV3.out).mono ?_
           rintro e' w4 ⟨v4, rfl, hv4, hb4'⟩
           have hb4 : Below w3.heap.size w3 w4 := ⟨hb4'.os, hb4'.tape, hb4'.output, hb4'.size, hb4'.block⟩
           have hb5 := HB3.out.trans (hb4.mono HB3.out.size)
           have d0 := (hb5.cell (p := ⟨w1.heap.size, 0, none⟩) hlg).trans a0
           have d1 := (hb5.cell (p := ⟨w1.heap.size, 1, none⟩) hlg).trans a1
           have d2 := (hb5.frozen (p := ⟨w1.heap.size, 0, none⟩) hlg).trans f0
           have d3 := (hb5.frozen (p := ⟨w1.heap.size, 1, none⟩) hlg).trans f1
           obtain ⟨p4, A4, m4, c4, rfl⟩ := hv4.split
           have HB5 := Lib.hid hb5
           have HV4 := Lib.hid hv4
           clear hb4' hb4 hb5 hv4))
      all_goals
        have hW5 : Whole ((w4.setCell ⟨w1.heap.size, 0, none⟩ (.bool p4)).setCell ⟨w1.heap.size, 1, none⟩ (.slice A4 m4 c4)) w1.heap.size 30 #[.bool p4, .slice A4 m4 c4] := ((HW.out.below HB5.out hlg).put 0 _).put 1 _
        have hV5 : NumV ((w4.setCell ⟨w1.heap.size, 0, none⟩ (.bool p4)).setCell ⟨w1.heap.size, 1, none⟩ (.slice A4 m4 c4)) (.agg #[.bool p4, .slice A4 m4 c4]) (sumTo Z (k + 1)) := by
          have h1 := HV4.out
          rw [← HZK.out] at h1
          exact (NumV.put h1 d0 (by intro z h; cases h) _).put (((HW.out.below HB5.out hlg).put 0 _).cell 1) (by intro z h; cases h) _
        have hO5 : ((w4.setCell ⟨w1.heap.size, 0, none⟩ (.bool p4)).setCell ⟨w1.heap.size, 1, none⟩ (.slice A4 m4 c4)).ownsRow w.heap.size 2 1 (.slice A' k c') k (rowZ (revZ Z n) k) := by
          have h1 := own_below HOWN.out HB5.out (Nat.le_refl _)
          have hne := own_ne HOWN.out HW.out (by decide)
          exact own_put (own_put h1 hne _) hne _
        have hB5 : Below wr.heap.size wr ((w4.setCell ⟨w1.heap.size, 0, none⟩ (.bool p4)).setCell ⟨w1.heap.size, 1, none⟩ (.slice A4 m4 c4)) → True := fun _ => trivial
        have hb5 : Below w.heap.size w ((w4.setCell ⟨w1.heap.size, 0, none⟩ (.bool p4)).setCell ⟨w1.heap.size, 1, none⟩ (.slice A4 m4 c4)) := ((HB.out.trans (HB5.out.mono HB.out.size)).setCell (by simpa using hl1) _).setCell (by simpa using hl1) _
        obtain ⟨w5, hw5⟩ : ∃ w5, ((w4.setCell ⟨w1.heap.size, 0, none⟩ (.bool p4)).setCell ⟨w1.heap.size, 1, none⟩ (.slice A4 m4 c4)) = w5 := ⟨_, rfl⟩
        rw [hw5] at hW5 hV5 hO5 hb5 ⊢
        obtain ⟨j, hj⟩ : ∃ j : Nat, (n : Int) - 1 - k = j := ⟨n - 1 - k, by omega⟩
        obtain ⟨y, hy⟩ : ∃ y, revZ Z n k = y := ⟨_, rfl⟩
        have hcj : w5.cell? ⟨bl, off + j, none⟩ = some (.int .i64 y) := by
          have hjn : j = n - 1 - k := by omega
          have h1 := HV.out.below hb5 (Nat.le_refl _)
          obtain ⟨bl', off', e, hcell⟩ := h1.pos hlt
          injection e with e
          injection e with e1 e2
          subst e1 e2
          rw [hjn, ← hy]
          exact hcell (n - 1 - k) (by omega)
        have j0 : (0 : Int) ≤ j := by omega
        have j1 : (j : Int) < n := by omega
        have GW := Lib.hid hW5; have GV := Lib.hid hV5; have GO := Lib.hid hO5; have GB := Lib.hid hb5; have HY := Lib.hid hy
        have hl5 := hb5.size
        clear hW5 hV5 hO5 hb5 hB5 hw5 hy a0 a1 f0 f1 d0 d1 d2 d3 b0 b1 HB3 HV3 HB5 HV4 HB HW HOWN OF ADD
        go_wp2_with (at_builtin; refine wpList_app1 _ rfl _ _ 39 rfl w.heap.size 2 i0 (.int .i64 0) 8 Tryd.underlying39 hi hz0 hz1 hz2 rfl _ k _ rfl GO.out _ rfl rfl (by omega) (by omega) hl5 ?_)
        intro A'' c'' w6 hown6 hgrow
        have hV6 := GV.out.app GO.out (by decide) _ hgrow
        have hW6 := app_whole GW.out GO.out (by decide) _ hgrow
        have hB6 := app_below GB.out (Nat.le_refl _) hl5 GO.out _ hgrow
        have FV := Lib.hid hV6; have FW := Lib.hid hW6; have FB := Lib.hid hB6; have FO := Lib.hid hown6
        clear hV6 hW6 hB6 hown6 hgrow
        go_wp2
        go_roundg (n - (k + 1))
        case rel =>
          refine ⟨k + 1, by omega, rfl, by go_num, ?_, ⟨p4, A4, m4, c4, FW.out, FV.out⟩, FB.out⟩
          rw [rowZ_succ, HY.out]
          exact FO.out
        case measure => omega
    · obtain rfl : k = n := by omega
      obtain ⟨S, hS⟩ : ∃ S, sumTo Z k = S := ⟨_, rfl⟩
      rw [hS] at hnv
      have hrev : sumTo (revZ Z k) k = S := by have := sumTo_rev Z k k (Nat.le_refl _); rw [Nat.sub_self] at this; simp [sumTo] at this; omega
      have hbig : S.natAbs < 32768 ^ 100 := by
        have h1 := sumTo_bd Z HZ.out k
        have h2 := pow100_big
        omega
      have hov := own_intsV hown
      have T1 := Lib.hid (fun W (hbW : Below wr.heap.size wr W) => total_told _ k Z S W hS (by omega) ((HV.out.below hb (Nat.le_refl _)).below hbW (Nat.le_refl _)) HZ.out)
      have T2 := Lib.hid (fun W (hbW : Below wr.heap.size wr W) => total_told _ k (revZ Z k) S W hrev (by omega) (hov.below hbW (Nat.le_refl _)) (fun i => HZ.out _))
      have LE := Lib.hid (fun W (hbW : Below wr.heap.size wr W) => least_v _ k Z W (by omega) ((HV.out.below hb (Nat.le_refl _)).below hbW (Nat.le_refl _)))
      have a0 := hw.cell 0; have a1 := hw.cell 1
      simp at a0 a1
      have hlg := hw.lt
      have HBIG := Lib.hid hbig; have HNV := Lib.hid hnv; have HB := Lib.hid hb; have HW := Lib.hid hw
      obtain ⟨V, hVV⟩ : ∃ V, fitV S = V := ⟨_, rfl⟩
      obtain ⟨C, hCC⟩ : ∃ C, fitC S = C := ⟨_, rfl⟩
      rw [hVV, hCC] at T1 T2
      have HVV := Lib.hid hVV; have HCC := Lib.hid hCC
      clear hS hrev hbig hov hown hb hw hnv hVV hCC
      go_wp2_with fail
      refine (T1.out _ (Below.refl _ _)).mono ?_; rintro e w2 ⟨v1, rfl, he1, hb2⟩
      have HE1 := Lib.hid he1; have HB2 := Lib.hid hb2
      clear he1 hb2
      go_wp2_with fail
      refine (T2.out _ HB2.out).mono ?_; rintro e w3 ⟨v2, rfl, he2, hb3⟩
      have HB3 := Lib.hid (HB2.out.trans (hb3.mono HB2.out.size))
      have HE1' := Lib.hid (HE1.out.below hb3 (Nat.le_refl _))
      have HE2 := Lib.hid he2
      clear he2 hb3
      go_wp2_with fail
      refine (LE.out _ HB3.out).mono ?_; rintro e w4 ⟨L, ok, rfl, hL, rfl⟩
      have HL := Lib.hid hL
      clear hL T1 T2 LE HE1 HB2
      go_wp2
      go_loopg [12, 13] k (fun g x y wq => ∃ m, m ≤ k ∧ g = k - m ∧ x = .bool (hitB Z L m) ∧ y = .int .i64 (m : Nat) ∧ w3 = wq)
      case atStart => exact ⟨0, by omega, rfl, rfl, rfl, rfl⟩
      case round =>
        obtain ⟨m, hm, rfl, rfl, rfl, rfl⟩ := hrel
        by_cases hlt : m < k
        · have hv3 := (HV.out.below HB.out (Nat.le_refl _)).below HB3.out (Nat.le_refl _)
          obtain ⟨bl, off, rfl, hcell⟩ := hv3.pos hlt
          have hc1 := hcell m hlt
          obtain ⟨z, hzk⟩ : ∃ z, Z m = z := ⟨_, rfl⟩
          rw [hzk] at hc1
          have hge : decide (z < L) = false := by
            rcases HL.out with ⟨h0, _⟩ | ⟨_, _, _, hle⟩
            · omega
            · have := hle m hlt
              exact decide_eq_false (by omega)
          obtain ⟨hb0, hhb⟩ : ∃ b, hitB Z L m = b := ⟨_, rfl⟩
          obtain ⟨eb, heb⟩ : ∃ b, (z == L) = b := ⟨_, rfl⟩
          have hnext : hitB Z L (m + 1) = (hb0 || eb) := by rw [hitB, hzk, hhb, heb]
          rw [hhb]
          have HN := Lib.hid hnext
          have i0' : (0 : Int) ≤ m := by omega
          have i1' : (m : Int) < k := by omega
          clear hv3 hcell hzk hhb hnext
          cases hb0
          all_goals
            go_wp2
            go_roundg (k - (m + 1))
            case rel => exact ⟨m + 1, by omega, rfl, by rw [HN.out]; rfl, by go_num, rfl⟩
            case measure => omega
        · obtain rfl : m = k := by omega
          have b0 := (HB3.out.cell (p := ⟨w1.heap.size, 0, none⟩) hlg).trans a0
          have b1 := (HB3.out.cell (p := ⟨w1.heap.size, 1, none⟩) hlg).trans a1
          have hnv3 := HNV.out.below HB3.out (Nat.le_refl _)
          have hbw := HB.out.trans (HB3.out.mono HB.out.size)
          have hg3 := HG.out.below hbw (Nat.le_refl _)
          have htold : Calls Tryd.prog 12 #[.int .i64 V, v1, .agg #[.bool p, .slice A m' c]] w3 fun e w' => e = .returned (.bool true) ∧ Below w3.heap.size w3 w' := by
            by_cases hf : Fit S
            · have e1 : V = S := by rw [← HVV.out]; exact if_pos hf
              have e2 : C = 0 := by rw [← HCC.out]; exact if_pos hf
              have e3 := HE1'.out
              rw [e2] at e3
              rw [e1, e3.nil]
              exact told_fit S _ w3 hnv3 hf
            · have e1 : V = 0 := by rw [← HVV.out]; exact if_neg hf
              have e2 : C = 7 := by rw [← HCC.out]; exact if_neg hf
              have e3 := HE1'.out
              rw [e2] at e3
              rw [e1]
              exact told_over S _ v1 w3 hg3 hnv3 HBIG.out hf e3
          have TO := Lib.hid htold
          have HBW := Lib.hid hbw; have HG3 := Lib.hid hg3
          have q0 : (V == V) = true := by simp
          have q1 : (C == C) = true := by simp
          have hok : (ok = true ∧ decide (0 < (m : Int)) = true ∧ hitB Z L m = true) ∨ (ok = false ∧ L = 0 ∧ decide (0 < (m : Int)) = false ∧ hitB Z L m = false) := by
            rcases HL.out with ⟨h0, h1, h2⟩ | ⟨h0, h1, ⟨i, hi, he⟩, _⟩
            · exact Or.inr ⟨h2, h1, decide_eq_false (by omega), by rw [h0]; rfl⟩
            · exact Or.inl ⟨h1, decide_eq_true (by omega), hitB_of he m hi⟩
          clear hnv3 hbw hg3 htold a0 a1
          have fin : ∀ w5 w6 w7, Below w3.heap.size w3 w5 → Below w5.heap.size w5 w6 → Below w6.heap.size w6 w7 → Below w.heap.size w w7 := fun w5 w6 w7 h1 h2 h3 =>
            HBW.out.trans (((h1.trans (h2.mono h1.size)).trans (h3.mono (Nat.le_trans h1.size h2.size))).mono HBW.out.size)
          have FIN := Lib.hid fin
          clear fin
          rcases hok with ⟨rfl, p1, p2⟩ | ⟨rfl, rfl, p1, p2⟩
          all_goals
            rw [p2]
            clear p2
            have p3 := p1
            simp only [Int.natCast_pos] at p3
            go_wp2_with fail
            refine TO.out.mono ?_; rintro e w5 ⟨rfl, hb5⟩
            have HB5 := Lib.hid hb5
            have K1 := Lib.hid (code_is C v1 w5 (HG3.out.below hb5 (Nat.le_refl _)) (HE1'.out.below hb5 (Nat.le_refl _)))
            have K2 := Lib.hid (fun W (h : Below w5.heap.size w5 W) => code_is C v2 W ((HG3.out.below HB5.out (Nat.le_refl _)).below h (Nat.le_refl _)) ((HE2.out.below HB5.out (Nat.le_refl _)).below h (Nat.le_refl _)))
            clear hb5
            go_wp2_with fail
            refine K1.out.mono ?_; rintro e w6 ⟨rfl, hb6⟩
            have HB6 := Lib.hid hb6
            clear hb6
            go_wp2_with fail
            refine (K2.out _ HB6.out).mono ?_; rintro e w7 ⟨rfl, hb7⟩
            have HB7 := Lib.hid hb7
            clear hb7
            go_wp2_with fail
            all_goals
              go_ret
              exact ⟨rfl, FIN.out _ _ _ HB5.out HB6.out HB7.out⟩
theorem total_long (n : Nat) (Z : Nat → Int) (v : Value) (w : World) (hg : ErrT w) (hv : IntsV w v n Z) (hn : 200 < n) :
    Calls Tryd.prog 5 #[v] w fun e w' => e = .returned (.bool true) ∧ Below w.heap.size w w' := by
  obtain ⟨A0, c0, rfl⟩ := hv.form
  clear hv
  have dn : decide (200 < (n : Int)) = true := decide_eq_true (by omega)
  go_enter Tryd.func5, Tryd.ntmps5
  go_wp2_with fail
  refine (alive_ok _ hg).mono ?_; rintro e w1 ⟨rfl, hb1⟩
  go_wp2
  go_ret
  exact ⟨rfl, hb1⟩
theorem total_all (n : Nat) (Z : Nat → Int) (v : Value) (w : World) (hg : ErrT w) (hv : IntsV w v n Z) (hz : ∀ i, -9223372036854775808 ≤ Z i ∧ Z i ≤ 9223372036854775807) :
    Calls Tryd.prog 5 #[v] w fun e w' => e = .returned (.bool true) ∧ Below w.heap.size w w' := by
  rcases Nat.lt_or_ge 200 n with h | h
  · exact total_long n Z v w hg hv h
  · exact total_law n Z v w hg hv hz h
end Go.Proofs.YtdfackmaimmapaaDoor
