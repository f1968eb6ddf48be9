/- slices.Contains and ContainsFunc at ints; beginnings of a list. -/
import Derived.Test.YtploaffmhemjkaaRows4
import Derived.Test.YtploaffmhemjkaaLaw0
import Derived.Test.YtploaffmhemjkaaCan
namespace Go.Proofs.Ytploaffmhemjkaa
open Go.RowKit

/-- What Index and IndexFunc tell. -/
def IdxTo (t : Bool) (e : Ending) : Prop := ∃ r : Int, e = .returned (.int .i64 r) ∧ decide (0 ≤ r) = t
def Drew (w w' : World) : Prop := ∃ d, w' = w.drewN d

set_option maxRecDepth 100000 in
set_option maxHeartbeats 1000000 in
theorem index_any (L : List Int) (x : Int) (v : Value) (w : World) (h : SeqV w v L) (hn : L.length ≤ 1000000000) :
    Calls Try.prog 58 #[v, .int .i64 x] w fun e w' => IdxTo (L.contains x) e ∧ w' = w := by
  obtain ⟨A, c, rfl⟩ := IntsV.form h
  obtain ⟨n, hl⟩ : ∃ n, L.length = n := ⟨_, rfl⟩
  have H : Hid (SeqV w (.slice A n c) L) := Lib.hid (by rw [← hl]; exact h)
  have HL := Lib.hid hl
  obtain ⟨ans, hans⟩ : ∃ z, L.contains x = z := ⟨_, rfl⟩
  have HA := Lib.hid hans
  rw [hl] at hn ⊢
  rw [hans]
  clear h hl hans
  go_enter Try.func58, Try.ntmps58
  go_wp2_with fail
  go_loopg [8] n (fun g y wr => ∃ k, k ≤ n ∧ g = n - k ∧ y = .int .i64 (k : Nat) ∧ (L.take k).contains x = false ∧ wr = w)
  case atStart => exact ⟨0, by omega, rfl, rfl, by simp, rfl⟩
  case round =>
    obtain ⟨k, hk, rfl, rfl, hno, hwr⟩ := hrel
    obtain rfl := hwr.symm
    have HNO := Lib.hid hno
    clear hno
    by_cases hlt : k < n
    · have hkL : k < L.length := by rw [HL.out]; exact hlt
      obtain ⟨b, off, rfl, hc⟩ := SeqV.pos H.out hkL
      obtain ⟨z, hz⟩ : ∃ z : Int, L.getD k 0 = z := ⟨_, rfl⟩
      rw [hz] at hc
      have HT := Lib.hid (contains_take L k x hkL)
      have HZ := Lib.hid hz; have HLT := Lib.hid hlt
      have t7 : decide (k < n) = true := decide_eq_true hlt
      have i1 : (k : Int) < n := by omega
      have i2 : (0 : Int) ≤ k := by omega
      clear hz hlt hkL
      by_cases hzx : x = z
      · have t8 : (x == z) = true := by simp [hzx]
        have HK : Hid (ans = true) := Lib.hid (by
          rw [← HA.out]
          have h1 := HT.out
          rw [HNO.out, HZ.out, hzx] at h1
          simp at h1
          have := List.mem_of_mem_take h1
          rw [hzx]
          simpa using this)
        clear hzx
        go_wp2_with fail
        go_ret
        exact ⟨⟨_, rfl, by rw [HK.out]; exact decide_eq_true (by omega)⟩, rfl⟩
      · have t8 : (x == z) = false := by simp [hzx]
        have HK : Hid ((L.take (k + 1)).contains x = false) := Lib.hid (by rw [HT.out, HNO.out, HZ.out]; simp; omega)
        clear hzx
        go_wp2_with fail
        go_roundg (n - (k + 1))
        case rel => exact ⟨k + 1, HLT.out, rfl, by go_num, HK.out, rfl⟩
        case measure => have := HLT.out; omega
    · obtain rfl : n = k := by omega
      have t7 : decide (n < n) = false := by simp
      have HK : Hid (ans = false) := Lib.hid (by rw [← HA.out]; have h1 := HNO.out; rwa [List.take_of_length_le (by rw [HL.out]; exact Nat.le_refl _)] at h1)
      clear hlt
      go_wp2_with fail
      go_ret
      exact ⟨⟨_, rfl, by rw [HK.out]; rfl⟩, rfl⟩

set_option maxRecDepth 100000 in
theorem contains_any (L : List Int) (x : Int) (v : Value) (w : World) (h : SeqV w v L) (hn : L.length ≤ 1000000000) :
    Calls Try.prog 36 #[v, .int .i64 x] w fun e w' => e = .returned (.bool (L.contains x)) ∧ w' = w := by
  have HI := Lib.hid (index_any L x v w h hn)
  obtain ⟨A, c, rfl⟩ := IntsV.form h
  obtain ⟨z, hz⟩ : ∃ z, L.contains x = z := ⟨_, rfl⟩
  rw [hz] at HI ⊢
  clear h hz
  go_enter Try.func36, Try.ntmps36
  go_wp2_with fail
  refine HI.out.mono ?_; rintro e w1 ⟨⟨r, rfl, hr⟩, hw⟩; obtain rfl := hw.symm
  go_wp2_with fail
  go_ret
  exact ⟨rfl, rfl⟩

set_option maxRecDepth 100000 in
set_option maxHeartbeats 1000000 in
theorem indexFunc_any (L : List Int) (f : Int → Bool) (p q : Value) (v : Value) (w : World) (h : SeqV w v L) (hn : L.length ≤ 1000000000)
    (HF : ∀ x, x ∈ L → ∀ d, Calls Try.prog 38 #[.int .i64 x, p, q] (w.drewN d) fun e w' => e = .returned (.bool (f x)) ∧ ∃ d', w' = w.drewN d') :
    Calls Try.prog 59 #[v, .func (.func 38) #[] #[p, q]] w fun e w' => IdxTo (L.any f) e ∧ Drew w w' := by
  obtain ⟨A, c, rfl⟩ := IntsV.form h
  obtain ⟨n, hl⟩ : ∃ n, L.length = n := ⟨_, rfl⟩
  have H : Hid (SeqV w (.slice A n c) L) := Lib.hid (by rw [← hl]; exact h)
  have HL := Lib.hid hl; have HFF := Lib.hid HF
  obtain ⟨ans, hans⟩ : ∃ z, L.any f = z := ⟨_, rfl⟩
  have HA := Lib.hid hans
  rw [hl] at hn ⊢
  rw [hans]
  clear h hl HF hans
  go_enter Try.func59, Try.ntmps59
  go_wp2_with fail
  go_loopg [8] n (fun g y wr => ∃ k d, k ≤ n ∧ g = n - k ∧ y = .int .i64 (k : Nat) ∧ (L.take k).any f = false ∧ wr = w.drewN d)
  case atStart => exact ⟨0, 0, by omega, rfl, rfl, by simp, rfl⟩
  case round =>
    obtain ⟨k, d, hk, rfl, rfl, hno, hwd⟩ := hrel
    have HNO := Lib.hid hno
    clear hno
    by_cases hlt : k < n
    · have hkL : k < L.length := by rw [HL.out]; exact hlt
      obtain ⟨b, off, rfl, hc⟩ := SeqV.pos (show SeqV wr (.slice A n c) L by rw [hwd]; exact H.out.below (below_drewN' (Below.refl _ _) d) (Nat.le_refl _)) hkL
      have hz0 : L.getD k 0 = L[k] := by simp [List.getD, hkL]
      obtain ⟨z, hz⟩ : ∃ z : Int, L[k] = z := ⟨_, rfl⟩
      rw [hz0, hz] at hc
      have hT : (L.take (k + 1)).any f = ((L.take k).any f || f z) := by rw [List.take_succ_eq_append_getElem hkL, List.any_append, hz]; simp
      have CL := HFF.out z (by rw [← hz]; exact List.getElem_mem _) d
      rw [← hwd] at CL
      have hzm : z ∈ L := by rw [← hz]; exact List.getElem_mem _
      obtain ⟨t, ht⟩ : ∃ t, f z = t := ⟨_, rfl⟩
      rw [ht] at hT CL
      have HT := Lib.hid hT; have HCL := Lib.hid CL; have HZM := Lib.hid hzm; have HT0 := Lib.hid ht; have HLT := Lib.hid hlt; have HWD := Lib.hid hwd
      have t7 : decide (k < n) = true := decide_eq_true hlt
      have i1 : (k : Int) < n := by omega
      have i2 : (0 : Int) ≤ k := by omega
      clear hz hlt hkL hT CL hzm ht hwd hz0
      cases t with
      | true =>
        have HK : Hid (ans = true) := Lib.hid (by rw [← HA.out]; exact List.any_eq_true.2 ⟨z, HZM.out, HT0.out⟩)
        go_wp2_with fail
        refine HCL.out.mono ?_; rintro e w1 ⟨rfl, d', hd'⟩
        have HD := Lib.hid hd'
        clear hd'
        go_wp2_with fail
        go_ret
        exact ⟨⟨_, rfl, by rw [HK.out]; exact decide_eq_true (by omega)⟩, d', HD.out⟩
      | false =>
        have HK : Hid ((L.take (k + 1)).any f = false) := Lib.hid (by rw [HT.out, HNO.out]; rfl)
        go_wp2_with fail
        refine HCL.out.mono ?_; rintro e w1 ⟨rfl, d', hd'⟩
        have HD := Lib.hid hd'
        clear hd'
        go_wp2_with fail
        go_roundg (n - (k + 1))
        case rel => exact ⟨k + 1, d', HLT.out, rfl, by go_num, HK.out, HD.out⟩
        case measure => have := HLT.out; omega
    · obtain rfl : n = k := by omega
      have t7 : decide (n < n) = false := by simp
      have HK : Hid (ans = false) := Lib.hid (by rw [← HA.out]; have h1 := HNO.out; rwa [List.take_of_length_le (by rw [HL.out]; exact Nat.le_refl _)] at h1)
      have HWD := Lib.hid hwd
      clear hlt hwd
      go_wp2_with fail
      go_ret
      exact ⟨⟨_, rfl, by rw [HK.out]; rfl⟩, d, HWD.out⟩

set_option maxRecDepth 100000 in
theorem containsFunc_any (L : List Int) (f : Int → Bool) (p q : Value) (v : Value) (w : World) (h : SeqV w v L) (hn : L.length ≤ 1000000000)
    (HF : ∀ x, x ∈ L → ∀ d, Calls Try.prog 38 #[.int .i64 x, p, q] (w.drewN d) fun e w' => e = .returned (.bool (f x)) ∧ ∃ d', w' = w.drewN d') :
    Calls Try.prog 37 #[v, .func (.func 38) #[] #[p, q]] w fun e w' => e = .returned (.bool (L.any f)) ∧ Drew w w' := by
  have HI := Lib.hid (indexFunc_any L f p q v w h hn HF)
  obtain ⟨A, c, rfl⟩ := IntsV.form h
  obtain ⟨z, hz⟩ : ∃ z, L.any f = z := ⟨_, rfl⟩
  rw [hz] at HI ⊢
  clear h hz HF
  go_enter Try.func37, Try.ntmps37
  go_wp2_with fail
  refine HI.out.mono ?_; rintro e w1 ⟨⟨r, rfl, hr⟩, d', hd'⟩
  have HD := Lib.hid hd'
  clear hd'
  go_wp2_with fail
  go_ret
  exact ⟨rfl, d', HD.out⟩
end Go.Proofs.Ytploaffmhemjkaa
