/- sets: Union, Both, But, Add, Less, Within; the document's Those: contracts. -/
import Derived.Test.YtploaffmhemjkaaMerge
namespace Go.Proofs.Ytploaffmhemjkaa
open Go.RowKit

set_option maxRecDepth 100000 in
theorem union_own (A B : List Int) (v u : Value) (w : World) (ha : SeqC w v A) (hb : SeqC w u B) (hl : A.length ≤ 10000000) (hm : B.length ≤ 10000000) :
    Calls Try.prog 32 #[v, u] w fun e w' => ∃ v', e = .returned v' ∧ w'.ownsRow w.heap.size 3 1 v' (unionL A B).length (intCells (unionL A B)) ∧ Below w.heap.size w w' := by
  have H := Lib.hid (merge_own true true true A B v u w ha hb hl hm)
  obtain ⟨_, Aa, ca, rfl, _⟩ := ha
  obtain ⟨_, Ab, cb, rfl, _⟩ := hb
  obtain ⟨n, hn⟩ : ∃ n, A.length = n := ⟨_, rfl⟩
  obtain ⟨m, hm'⟩ : ∃ m, B.length = m := ⟨_, rfl⟩
  rw [hn, hm'] at H
  rw [hn, hm']
  clear hn hm' hl hm
  go_enter Try.func32, Try.ntmps32
  go_wp2_with fail
  refine H.out.mono ?_; rintro e w1 ⟨v', rfl, hs, hb1⟩
  obtain ⟨A1, c1, rfl⟩ := own_form hs
  have HS : Hid (w1.ownsRow w.heap.size 3 1 (.slice A1 (unionL A B).length c1) (unionL A B).length (intCells (unionL A B))) := Lib.hid hs
  have HB := Lib.hid hb1
  obtain ⟨k, hk⟩ : ∃ k, (unionL A B).length = k := ⟨_, rfl⟩
  have hk' : (mergeL true true true A B).length = k := hk
  rw [hk'] 
  rw [hk] at HS
  have HK := Lib.hid hk
  clear hs hb1 hk hk'
  go_wp2_with fail
  go_ret
  exact ⟨_, rfl, by rw [HK.out]; exact HS.out, HB.out⟩
theorem union_any (A B : List Int) (v u : Value) (w : World) (ha : SeqC w v A) (hb : SeqC w u B) (hl : A.length ≤ 10000000) (hm : B.length ≤ 10000000) :
    Calls Try.prog 32 #[v, u] w fun e w' => ∃ v', e = .returned v' ∧ SeqC w' v' (unionL A B) ∧ Below w.heap.size w w' :=
  (union_own A B v u w ha hb hl hm).mono fun _ _ ⟨v', h1, h2, h3⟩ => ⟨v', h1, own_seqC h2, h3⟩
set_option maxRecDepth 100000 in
theorem both_own (A B : List Int) (v u : Value) (w : World) (ha : SeqC w v A) (hb : SeqC w u B) (hl : A.length ≤ 10000000) (hm : B.length ≤ 10000000) :
    Calls Try.prog 31 #[v, u] w fun e w' => ∃ v', e = .returned v' ∧ w'.ownsRow w.heap.size 3 1 v' (bothL A B).length (intCells (bothL A B)) ∧ Below w.heap.size w w' := by
  have H := Lib.hid (merge_own false true false A B v u w ha hb hl hm)
  obtain ⟨_, Aa, ca, rfl, _⟩ := ha
  obtain ⟨_, Ab, cb, rfl, _⟩ := hb
  obtain ⟨n, hn⟩ : ∃ n, A.length = n := ⟨_, rfl⟩
  obtain ⟨m, hm'⟩ : ∃ m, B.length = m := ⟨_, rfl⟩
  rw [hn, hm'] at H
  rw [hn, hm']
  clear hn hm' hl hm
  go_enter Try.func31, Try.ntmps31
  go_wp2_with fail
  refine H.out.mono ?_; rintro e w1 ⟨v', rfl, hs, hb1⟩
  obtain ⟨A1, c1, rfl⟩ := own_form hs
  have HS : Hid (w1.ownsRow w.heap.size 3 1 (.slice A1 (bothL A B).length c1) (bothL A B).length (intCells (bothL A B))) := Lib.hid hs
  have HB := Lib.hid hb1
  obtain ⟨k, hk⟩ : ∃ k, (bothL A B).length = k := ⟨_, rfl⟩
  have hk' : (mergeL false true false A B).length = k := hk
  rw [hk'] 
  rw [hk] at HS
  have HK := Lib.hid hk
  clear hs hb1 hk hk'
  go_wp2_with fail
  go_ret
  exact ⟨_, rfl, by rw [HK.out]; exact HS.out, HB.out⟩
theorem both_any (A B : List Int) (v u : Value) (w : World) (ha : SeqC w v A) (hb : SeqC w u B) (hl : A.length ≤ 10000000) (hm : B.length ≤ 10000000) :
    Calls Try.prog 31 #[v, u] w fun e w' => ∃ v', e = .returned v' ∧ SeqC w' v' (bothL A B) ∧ Below w.heap.size w w' :=
  (both_own A B v u w ha hb hl hm).mono fun _ _ ⟨v', h1, h2, h3⟩ => ⟨v', h1, own_seqC h2, h3⟩
set_option maxRecDepth 100000 in
theorem but_own (A B : List Int) (v u : Value) (w : World) (ha : SeqC w v A) (hb : SeqC w u B) (hl : A.length ≤ 10000000) (hm : B.length ≤ 10000000) :
    Calls Try.prog 41 #[v, u] w fun e w' => ∃ v', e = .returned v' ∧ w'.ownsRow w.heap.size 3 1 v' (butL A B).length (intCells (butL A B)) ∧ Below w.heap.size w w' := by
  have H := Lib.hid (merge_own true false false A B v u w ha hb hl hm)
  obtain ⟨_, Aa, ca, rfl, _⟩ := ha
  obtain ⟨_, Ab, cb, rfl, _⟩ := hb
  obtain ⟨n, hn⟩ : ∃ n, A.length = n := ⟨_, rfl⟩
  obtain ⟨m, hm'⟩ : ∃ m, B.length = m := ⟨_, rfl⟩
  rw [hn, hm'] at H
  rw [hn, hm']
  clear hn hm' hl hm
  go_enter Try.func41, Try.ntmps41
  go_wp2_with fail
  refine H.out.mono ?_; rintro e w1 ⟨v', rfl, hs, hb1⟩
  obtain ⟨A1, c1, rfl⟩ := own_form hs
  have HS : Hid (w1.ownsRow w.heap.size 3 1 (.slice A1 (butL A B).length c1) (butL A B).length (intCells (butL A B))) := Lib.hid hs
  have HB := Lib.hid hb1
  obtain ⟨k, hk⟩ : ∃ k, (butL A B).length = k := ⟨_, rfl⟩
  have hk' : (mergeL true false false A B).length = k := hk
  rw [hk'] 
  rw [hk] at HS
  have HK := Lib.hid hk
  clear hs hb1 hk hk'
  go_wp2_with fail
  go_ret
  exact ⟨_, rfl, by rw [HK.out]; exact HS.out, HB.out⟩

/-- A new slice of one number. -/
theorem but_any (A B : List Int) (v u : Value) (w : World) (ha : SeqC w v A) (hb : SeqC w u B) (hl : A.length ≤ 10000000) (hm : B.length ≤ 10000000) :
    Calls Try.prog 41 #[v, u] w fun e w' => ∃ v', e = .returned v' ∧ SeqC w' v' (butL A B) ∧ Below w.heap.size w w' :=
  (but_own A B v u w ha hb hl hm).mono fun _ _ ⟨v', h1, h2, h3⟩ => ⟨v', h1, own_seqC h2, h3⟩
theorem seqC_new1 (w : World) (x : Int) : SeqC (w.alloc (.cells #[.int .i64 x] 3)) (.slice (some ⟨w.heap.size, 0, none⟩) 1 1) [x] := by
  refine ⟨Or.inr ⟨by simp, w.heap.size, 0, 1, rfl, fun i hi => ?_⟩, _, _, rfl, by simp⟩
  have hi0 : i = 0 := by simpa using hi
  subst hi0
  exact (Whole.new w 3 #[.int .i64 x]).cell 0
set_option maxRecDepth 100000 in
theorem setLess_own (A : List Int) (x : Int) (v : Value) (w : World) (ha : SeqC w v A) (hl : A.length ≤ 10000000) :
    Calls Try.prog 30 #[v, .int .i64 x] w fun e w' => ∃ v', e = .returned v' ∧ w'.ownsRow w.heap.size 3 1 v' (butL A [x]).length (intCells (butL A [x])) ∧ Below w.heap.size w w' := by
  have hb0 : Below w.heap.size w (w.alloc (.cells #[.int .i64 x] 3)) := (Below.refl _ _).alloc (Nat.le_refl _) _
  have H := Lib.hid (but_own A [x] v _ _ (ha.below hb0 (Nat.le_refl _)) (seqC_new1 w x) hl (by simp))
  obtain ⟨_, Aa, ca, rfl, _⟩ := ha
  obtain ⟨n, hn⟩ : ∃ n, A.length = n := ⟨_, rfl⟩
  rw [hn] at H
  rw [hn]
  have HB0 := Lib.hid hb0
  clear hn hl hb0
  go_enter Try.func30, Try.ntmps30
  go_wp2_with fail
  refine H.out.mono ?_; rintro e w1 ⟨v', rfl, hs, hb1⟩
  obtain ⟨A1, c1, rfl⟩ := own_form hs
  have HS := Lib.hid (own_base hs (show w.heap.size ≤ _ by simp))
  have HB := Lib.hid (HB0.out.trans (hb1.mono (by simp)))
  obtain ⟨k, hk⟩ : ∃ k, (butL A [x]).length = k := ⟨_, rfl⟩
  rw [hk] at HS ⊢
  have HK := Lib.hid hk
  clear hs hb1 hk
  go_wp2_with fail
  go_ret
  exact ⟨_, rfl, by rw [HK.out]; exact HS.out, HB.out⟩
def withinB (A B : List Int) : Bool := decide ((butL A B).length = 0)
/-- Of a list, which are in another one (b true), or aren't. -/
def thoseL (A B : List Int) (b : Bool) : List Int := A.filter fun z => B.contains z == b
end Go.Proofs.Ytploaffmhemjkaa
