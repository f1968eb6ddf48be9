/- sets: Union, Both, But, Add, Less, Within; the document's Those: contracts. -/
import Derived.Test.YtocpjmjlmccolaaMerge
namespace Go.Proofs.Ytocpjmjlmccolaa
open Go.RowKit

set_option maxRecDepth 100000 in
theorem union_any (A B : List Int) (v u : Value) (w : World) (ha : SeqC w v A) (hb : SeqC w u B) (hl : A.length ≤ 10000000) (hm : B.length ≤ 10000000) :
    Calls Try.prog 21 #[v, u] w fun e w' => ∃ v', e = .returned v' ∧ SeqC w' v' (unionL A B) ∧ Below w.heap.size w w' := by
  have H := Lib.hid (merge_any true true true A B v u w ha hb hl hm)
  obtain ⟨_, Aa, ca, rfl, _⟩ := ha
  obtain ⟨_, Ab, cb, rfl, _⟩ := hb
  obtain ⟨n, hn⟩ : ∃ n, A.length = n := ⟨_, rfl⟩
  obtain ⟨m, hm'⟩ : ∃ m, B.length = m := ⟨_, rfl⟩
  rw [hn, hm'] at H
  rw [hn, hm']
  clear hn hm' hl hm
  go_enter Try.func21, Try.ntmps21
  go_wp2_with fail
  refine H.out.mono ?_; rintro e w1 ⟨v', rfl, hs, hb1⟩
  obtain ⟨_, A1, c1, rfl, _⟩ := id hs
  have HS : Hid (SeqC w1 (.slice A1 (unionL A B).length c1) (unionL A B)) := Lib.hid hs
  have HB := Lib.hid hb1
  obtain ⟨k, hk⟩ : ∃ k, (unionL A B).length = k := ⟨_, rfl⟩
  have hk' : (mergeL true true true A B).length = k := hk
  rw [hk'] 
  rw [hk] at HS
  clear hs hb1 hk hk'
  go_wp2_with fail
  go_ret
  exact ⟨_, rfl, HS.out, HB.out⟩
set_option maxRecDepth 100000 in
theorem both_any (A B : List Int) (v u : Value) (w : World) (ha : SeqC w v A) (hb : SeqC w u B) (hl : A.length ≤ 10000000) (hm : B.length ≤ 10000000) :
    Calls Try.prog 22 #[v, u] w fun e w' => ∃ v', e = .returned v' ∧ SeqC w' v' (bothL A B) ∧ Below w.heap.size w w' := by
  have H := Lib.hid (merge_any false true false A B v u w ha hb hl hm)
  obtain ⟨_, Aa, ca, rfl, _⟩ := ha
  obtain ⟨_, Ab, cb, rfl, _⟩ := hb
  obtain ⟨n, hn⟩ : ∃ n, A.length = n := ⟨_, rfl⟩
  obtain ⟨m, hm'⟩ : ∃ m, B.length = m := ⟨_, rfl⟩
  rw [hn, hm'] at H
  rw [hn, hm']
  clear hn hm' hl hm
  go_enter Try.func22, Try.ntmps22
  go_wp2_with fail
  refine H.out.mono ?_; rintro e w1 ⟨v', rfl, hs, hb1⟩
  obtain ⟨_, A1, c1, rfl, _⟩ := id hs
  have HS : Hid (SeqC w1 (.slice A1 (bothL A B).length c1) (bothL A B)) := Lib.hid hs
  have HB := Lib.hid hb1
  obtain ⟨k, hk⟩ : ∃ k, (bothL A B).length = k := ⟨_, rfl⟩
  have hk' : (mergeL false true false A B).length = k := hk
  rw [hk'] 
  rw [hk] at HS
  clear hs hb1 hk hk'
  go_wp2_with fail
  go_ret
  exact ⟨_, rfl, HS.out, HB.out⟩
set_option maxRecDepth 100000 in
theorem but_any (A B : List Int) (v u : Value) (w : World) (ha : SeqC w v A) (hb : SeqC w u B) (hl : A.length ≤ 10000000) (hm : B.length ≤ 10000000) :
    Calls Try.prog 23 #[v, u] w fun e w' => ∃ v', e = .returned v' ∧ SeqC w' v' (butL A B) ∧ Below w.heap.size w w' := by
  have H := Lib.hid (merge_any true false false A B v u w ha hb hl hm)
  obtain ⟨_, Aa, ca, rfl, _⟩ := ha
  obtain ⟨_, Ab, cb, rfl, _⟩ := hb
  obtain ⟨n, hn⟩ : ∃ n, A.length = n := ⟨_, rfl⟩
  obtain ⟨m, hm'⟩ : ∃ m, B.length = m := ⟨_, rfl⟩
  rw [hn, hm'] at H
  rw [hn, hm']
  clear hn hm' hl hm
  go_enter Try.func23, Try.ntmps23
  go_wp2_with fail
  refine H.out.mono ?_; rintro e w1 ⟨v', rfl, hs, hb1⟩
  obtain ⟨_, A1, c1, rfl, _⟩ := id hs
  have HS : Hid (SeqC w1 (.slice A1 (butL A B).length c1) (butL A B)) := Lib.hid hs
  have HB := Lib.hid hb1
  obtain ⟨k, hk⟩ : ∃ k, (butL A B).length = k := ⟨_, rfl⟩
  have hk' : (mergeL true false false A B).length = k := hk
  rw [hk'] 
  rw [hk] at HS
  clear hs hb1 hk hk'
  go_wp2_with fail
  go_ret
  exact ⟨_, rfl, HS.out, HB.out⟩

/-- A new slice of one number. -/
theorem seqC_new1 (w : World) (x : Int) : SeqC (w.alloc (.cells #[.int .i64 x] 3)) (.slice (some ⟨w.heap.size, 0, none⟩) 1 1) [x] := by
  refine ⟨Or.inr ⟨by simp, w.heap.size, 0, 1, rfl, fun i hi => ?_⟩, _, _, rfl, by simp⟩
  have hi0 : i = 0 := by simpa using hi
  subst hi0
  exact (Whole.new w 3 #[.int .i64 x]).cell 0
set_option maxRecDepth 100000 in
theorem add_any (A : List Int) (x : Int) (v : Value) (w : World) (ha : SeqC w v A) (hl : A.length ≤ 10000000) :
    Calls Try.prog 18 #[v, .int .i64 x] w fun e w' => ∃ v', e = .returned v' ∧ SeqC w' v' (unionL A [x]) ∧ Below w.heap.size w w' := by
  have hb0 : Below w.heap.size w (w.alloc (.cells #[.int .i64 x] 3)) := (Below.refl _ _).alloc (Nat.le_refl _) _
  have H := Lib.hid (union_any A [x] v _ _ (ha.below hb0 (Nat.le_refl _)) (seqC_new1 w x) hl (by simp))
  obtain ⟨_, Aa, ca, rfl, _⟩ := ha
  obtain ⟨n, hn⟩ : ∃ n, A.length = n := ⟨_, rfl⟩
  rw [hn] at H
  rw [hn]
  have HB0 := Lib.hid hb0
  clear hn hl hb0
  go_enter Try.func18, Try.ntmps18
  go_wp2_with fail
  refine H.out.mono ?_; rintro e w1 ⟨v', rfl, hs, hb1⟩
  obtain ⟨_, A1, c1, rfl, _⟩ := id hs
  have HS := Lib.hid hs
  have HB := Lib.hid (HB0.out.trans (hb1.mono (by simp)))
  obtain ⟨k, hk⟩ : ∃ k, (unionL A [x]).length = k := ⟨_, rfl⟩
  rw [hk] at HS ⊢
  clear hs hb1 hk
  go_wp2_with fail
  go_ret
  exact ⟨_, rfl, HS.out, HB.out⟩
set_option maxRecDepth 100000 in
theorem less_any (A : List Int) (x : Int) (v : Value) (w : World) (ha : SeqC w v A) (hl : A.length ≤ 10000000) :
    Calls Try.prog 20 #[v, .int .i64 x] w fun e w' => ∃ v', e = .returned v' ∧ SeqC w' v' (butL A [x]) ∧ Below w.heap.size w w' := by
  have hb0 : Below w.heap.size w (w.alloc (.cells #[.int .i64 x] 3)) := (Below.refl _ _).alloc (Nat.le_refl _) _
  have H := Lib.hid (but_any A [x] v _ _ (ha.below hb0 (Nat.le_refl _)) (seqC_new1 w x) hl (by simp))
  obtain ⟨_, Aa, ca, rfl, _⟩ := ha
  obtain ⟨n, hn⟩ : ∃ n, A.length = n := ⟨_, rfl⟩
  rw [hn] at H
  rw [hn]
  have HB0 := Lib.hid hb0
  clear hn hl hb0
  go_enter Try.func20, Try.ntmps20
  go_wp2_with fail
  refine H.out.mono ?_; rintro e w1 ⟨v', rfl, hs, hb1⟩
  obtain ⟨_, A1, c1, rfl, _⟩ := id hs
  have HS := Lib.hid hs
  have HB := Lib.hid (HB0.out.trans (hb1.mono (by simp)))
  obtain ⟨k, hk⟩ : ∃ k, (butL A [x]).length = k := ⟨_, rfl⟩
  rw [hk] at HS ⊢
  clear hs hb1 hk
  go_wp2_with fail
  go_ret
  exact ⟨_, rfl, HS.out, HB.out⟩
def withinB (A B : List Int) : Bool := decide ((butL A B).length = 0)
set_option maxRecDepth 100000 in
theorem within_any (A B : List Int) (v u : Value) (w : World) (ha : SeqC w v A) (hb : SeqC w u B) (hl : A.length ≤ 10000000) (hm : B.length ≤ 10000000) :
    Calls Try.prog 24 #[v, u] w fun e w' => e = .returned (.bool (withinB A B)) ∧ Below w.heap.size w w' := by
  have H := Lib.hid (but_any A B v u w ha hb hl hm)
  obtain ⟨_, Aa, ca, rfl, _⟩ := ha
  obtain ⟨_, Ab, cb, rfl, _⟩ := hb
  obtain ⟨n, hn⟩ : ∃ n, A.length = n := ⟨_, rfl⟩
  obtain ⟨m, hm'⟩ : ∃ m, B.length = m := ⟨_, rfl⟩
  rw [hn, hm'] at H
  rw [hn, hm']
  clear hn hm' hl hm
  go_enter Try.func24, Try.ntmps24
  go_wp2_with fail
  refine H.out.mono ?_; rintro e w1 ⟨v', rfl, hs, hb1⟩
  obtain ⟨_, A1, c1, rfl, _⟩ := hs
  have HB := Lib.hid hb1
  obtain ⟨k, hk⟩ : ∃ k, (butL A B).length = k := ⟨_, rfl⟩
  have HW : Hid (withinB A B = decide (k = 0)) := Lib.hid (by unfold withinB; rw [hk])
  rw [hk]
  clear hb1 hk
  by_cases h0 : k = 0
  · subst h0
    go_wp2_with fail
    go_ret
    exact ⟨by rw [HW.out]; rfl, HB.out⟩
  · have t1 : ((k : Int) == 0) = false := beq_eq_false_iff_ne.2 (by omega)
    have t1' : (k == 0) = false := beq_eq_false_iff_ne.2 h0
    have HW2 : Hid (withinB A B = false) := Lib.hid (by rw [HW.out, decide_eq_false h0])
    clear h0
    go_wp2_with fail
    go_ret
    exact ⟨by rw [HW2.out]; rfl, HB.out⟩

/-- Of a list, which are in another one (b true), or aren't. -/
def thoseL (A B : List Int) (b : Bool) : List Int := A.filter fun z => B.contains z == b
set_option maxRecDepth 100000 in
set_option maxHeartbeats 2000000 in
theorem those_any (A B : List Int) (b : Bool) (v u : Value) (w : World) (ha : SeqV w v A) (hb : SeqV w u B) (hl : A.length ≤ 1000000) (hm : B.length ≤ 1000000) :
    Calls Try.prog 15 #[v, u, .bool b] w fun e w' => ∃ v', e = .returned v' ∧ SeqC w' v' (thoseL A B b) ∧ Below w.heap.size w w' := by
  obtain ⟨i0, hi, hz0, hz1, hz2⟩ := info_parts Try.infoInt6
  obtain ⟨Aa, ca, rfl⟩ := IntsV.form ha
  obtain ⟨Ab, cb, rfl⟩ := IntsV.form hb
  obtain ⟨n, hn⟩ : ∃ n, A.length = n := ⟨_, rfl⟩
  obtain ⟨m, hm'⟩ : ∃ m, B.length = m := ⟨_, rfl⟩
  have HA := Lib.hid ha; have HB := Lib.hid hb
  rw [hn] at HA hl ⊢
  rw [hm'] at HB hm ⊢
  have HN := Lib.hid hn; have HM := Lib.hid hm'
  clear ha hb hn hm'
  go_enter Try.func15, Try.ntmps15
  go_wp2_with fail
  go_loopg [7, 8] n (fun g x y wr => ∃ k, k ≤ n ∧ g = n - k ∧ y = .int .i64 (k : Nat) ∧ wr.ownsRow w.heap.size 3 1 x (thoseL (A.take k) B b).length (intCells (thoseL (A.take k) B b)) ∧ Below w.heap.size w wr)
  case atStart => exact ⟨0, Nat.zero_le _, rfl, rfl, World.ownsRow_nil _ _ _ _, Below.refl _ _⟩
  case round =>
    obtain ⟨k, hk, rfl, rfl, hown, hbel⟩ := hrel
    obtain ⟨Ax, cx, rfl⟩ := own_form hown
    have hlen : (thoseL (A.take k) B b).length ≤ 1000000 := by
      have h1 : (thoseL (A.take k) B b).length ≤ (A.take k).length := List.length_filter_le _ _
      rw [List.length_take] at h1
      omega
    obtain ⟨T, hT⟩ : ∃ T, thoseL (A.take k) B b = T := ⟨_, rfl⟩
    rw [hT] at hown hlen ⊢
    obtain ⟨p, hp⟩ : ∃ p, T.length = p := ⟨_, rfl⟩
    rw [hp] at hown hlen ⊢
    have HT := Lib.hid hT; have HP := Lib.hid hp; have HOWN := Lib.hid hown; have HBEL := Lib.hid hbel
    have hsz := hbel.size
    clear hT hp
    by_cases hlt : k < n
    · obtain ⟨bb, off, rfl, hcell⟩ := IntsV.pos (by have := HA.out.below hbel (Nat.le_refl _); unfold SeqV at this; rw [HN.out] at this; exact this) hlt
      have hc := hcell k hlt
      obtain ⟨z, hz⟩ : ∃ z : Int, A.getD k 0 = z := ⟨_, rfl⟩
      have hc' : wr.cell? ⟨bb, off + k, none⟩ = some (.int .i64 z) := by rw [← hz]; exact hc
      have H1 := refHas_any B z _ wr (by have := HB.out.below hbel (Nat.le_refl _); exact this) (by rw [HM.out]; omega)
      have HTK : Hid (thoseL (A.take (k + 1)) B b = T ++ (if B.contains z == b then [z] else [])) := Lib.hid (by
        have hkA : k < A.length := by rw [HN.out]; exact hlt
        have hz' : A[k] = z := by rw [← hz]; simp [List.getD, hkA]
        unfold thoseL at HT ⊢
        rw [List.take_succ_eq_append_getElem hkA, List.filter_append, HT.out, hz', List.filter_cons]
        rfl)
      obtain ⟨r, hr⟩ : ∃ r, B.contains z = r := ⟨_, rfl⟩
      rw [hr] at H1 HTK
      have HH1 := Lib.hid H1
      have t7 : decide (k < n) = true := decide_eq_true hlt
      have i1 : (k : Int) < n := by omega
      have i2 : (0 : Int) ≤ k := by omega
      have HLT := Lib.hid hlt
      clear hcell hc hz H1 hr hlt hown hbel
      cases hrb : (r == b) with
      | true =>
        have HF : Hid (thoseL (A.take (k + 1)) B b = T ++ [z]) := Lib.hid (by rw [HTK.out, hrb]; rfl)
        go_wp2_with fail
        refine HH1.out.mono ?_; rintro e w1 ⟨rfl, hw1⟩; obtain rfl := hw1.symm
        go_wp2_with (at_builtin; refine wpList_app1g _ rfl _ _ 22 rfl w.heap.size 3 i0 (.int .i64 0) 8 Try.underlying22 hi hz0 hz1 hz2 rfl _ p _ rfl HOWN.out _ rfl rfl (by omega) (by omega) hsz ?_)
        intro A2 k2 w2 hown2 hgrow2
        have HO2 : Hid (w2.ownsRow w.heap.size 3 1 (.slice A2 (p + 1) k2) (thoseL (A.take (k + 1)) B b).length (intCells (thoseL (A.take (k + 1)) B b))) := Lib.hid (by
          rw [HF.out, intCells_app, List.length_append, HP.out]; exact hown2)
        have HB2 := Lib.hid (hgrow2.below HOWN.out HBEL.out (Nat.le_refl _) hsz)
        clear hown2 hgrow2
        go_wp2_with fail
        go_roundg (n - (k + 1))
        case rel => exact ⟨k + 1, HLT.out, rfl, by go_num, HO2.out, HB2.out⟩
        case measure => have := HLT.out; omega
      | false =>
        have HF : Hid (thoseL (A.take (k + 1)) B b = T) := Lib.hid (by rw [HTK.out, hrb]; simp)
        go_wp2_with fail
        refine HH1.out.mono ?_; rintro e w1 ⟨rfl, hw1⟩; obtain rfl := hw1.symm
        go_wp2_with fail
        go_roundg (n - (k + 1))
        case rel => exact ⟨k + 1, HLT.out, rfl, by go_num, by rw [HF.out, HP.out]; exact HOWN.out, HBEL.out⟩
        case measure => have := HLT.out; omega
    · obtain rfl : k = n := by omega
      have t7 : decide (k < k) = false := by simp
      have HF : Hid (SeqC wr (.slice Ax p cx) (thoseL A B b)) := Lib.hid (by
        have h := own_seqC hown
        have e : T = thoseL A B b := by rw [← HT.out, List.take_of_length_le (by rw [HN.out]; omega)]
        rwa [e] at h)
      clear hlt hown hbel
      go_wp2_with fail
      go_ret
      exact ⟨_, rfl, HF.out, HBEL.out⟩
end Go.Proofs.Ytocpjmjlmccolaa
