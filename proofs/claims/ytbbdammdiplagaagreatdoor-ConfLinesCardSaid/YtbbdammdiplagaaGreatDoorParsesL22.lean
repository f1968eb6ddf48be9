/- ConfParses: the law's walk. -/
import Derived.Test.YtbbdammdiplagaaGreatDoorConfZ
import Derived.Test.YtbbdammdiplagaaGreatDoorAlive22K
import Derived.Test.YtbbdammdiplagaaGreatDoorSame22
import Derived.Deep.DeepCutAuto
namespace Go.Proofs.YtbbdammdiplagaaGreatDoor
open Go.RowKit

theorem str_at22 (l : List UInt8) (q : Nat) (h : q < (str l).size) : (str l)[q]'h = l[q]'h := rfl
theorem headL_nil (j : Nat) : headL j [] = [] := by cases j <;> rfl
theorem nl_succ (l : List UInt8) (k : Nat) (h : k < l.length) : nlB (l.take (k + 1)) = nlB (l.take k) + (if l[k] = 10 then 1 else 0) := by
  unfold nlB
  rw [List.take_succ_eq_append_getElem h, List.count_append]
  congr 1
  rw [List.count_cons, List.count_nil]
  by_cases e : l[k] = 10
  · simp [e]
  · simp [e]
theorem head_succ {L : List UInt8} {a j k : Nat} (h : headL a L = L.take k ++ headL (a - j) (L.drop k)) (hk : k < L.length) (hj : j < a) : headL a L = L.take (k + 1) ++ headL (a - (if L[k] = 10 then j + 1 else j)) (L.drop (k + 1)) := by
  obtain ⟨d, hd⟩ : ∃ d, a - j = d + 1 := ⟨a - j - 1, by omega⟩
  rw [h, hd, List.drop_eq_getElem_cons hk, List.take_succ_eq_append_getElem hk, List.append_assoc]
  congr 1
  show L[k] :: headL (if L[k] = 10 then d else d + 1) (L.drop (k + 1)) = [L[k]] ++ _
  by_cases e : L[k] = 10
  · rw [if_pos e, if_pos e, show a - (j + 1) = d by omega]; rfl
  · rw [if_neg e, if_neg e, hd]; rfl
theorem str_take (l : List UInt8) (k : Nat) : (str l).extract 0 k = str (l.take k) := by
  apply ByteArray.ext
  rw [ByteArray.data_extract]
  show l.toArray.extract 0 k = (l.take k).toArray
  rw [List.extract_toArray]
  congr 1
theorem confT_len (kd : Int) {sz su wk cp : Nat} {O : List (Int × Int)} (b1 : sz ≤ 8) (b2 : su ≤ 1000000) (b3 : wk ≤ 64) (b4 : cp ≤ 1000000) (b5 : O.length ≤ 15) (b6 : progF O = none) : (confT ⟨⟨kd, sz, su, wk, cp⟩, O⟩).length ≤ 100000 := by
  have hd : ∀ n : Nat, n ≤ 9999999 → (decB (n : Int)).length ≤ 7 := fun n hn => by
    unfold decB
    rw [Int.toNat_natCast]
    exact (dec_len_iff n 7 (by decide)).2 (by omega)
  have hpl : (progT O).length ≤ 1000 := by
    have := joinB_le (b := 59) (P := O.map opT) (c := 13) (fun p hp => by
      obtain ⟨x, hx, rfl⟩ := List.mem_map.1 hp
      exact opT_len (by have := wrongF_zero ((progF_none.1 b6).2 x hx); omega))
    rw [List.length_map] at this
    show (joinB 59 (O.map opT)).length ≤ _
    omega
  have e1 := hd sz (by omega)
  have e2 := hd su (by omega)
  have e3 := hd wk (by omega)
  have e4 := hd cp (by omega)
  have e5 : (kname kd).length ≤ 7 := by unfold kname; split <;> simp
  unfold confT
  simp only [List.length_append, lineB_len]
  have w1 : wJob.length = 3 := rfl
  have w2 : wSize.length = 4 := rfl
  have w3 : wWork.length = 7 := rfl
  have w4 : wCap.length = 3 := rfl
  have w5 : wSup.length = 7 := rfl
  have w6 : wKeep.length = 4 := rfl
  split <;> split <;> simp only [List.length_nil, lineB_len] <;> omega
set_option maxRecDepth 100000 in
set_option maxHeartbeats 16000000 in
theorem parses22_law (L : List UInt8) (w : World) (hg : GT w) :
    Calls Tryz.prog 4 #[.string (str L)] w fun e w' => e = .returned (.bool true) ∧ Below w.heap.size w w' := by
  have AL := Lib.hid (alive_ok w hg)
  have HG := Lib.hid hg
  obtain ⟨n, hln⟩ : ∃ n, L.length = n := ⟨_, rfl⟩
  have hsz : (str L).size = n := hln
  have HPA : Hid (n ≤ 600 → ∀ W, Below w.heap.size w W → Calls Tryz.prog 13 #[.string (str L)] W (ConfK L W)) := Lib.hid (fun h W hb => confParseK_any L (by omega) W (HG.out.below hb (Nat.le_refl _)))
  have HPK : Hid (n ≤ 600 → ∀ k W, Below w.heap.size w W → Calls Tryz.prog 13 #[.string (str (L.take k))] W (ConfK (L.take k) W)) := Lib.hid (fun h k W hb => confParseK_any (L.take k) (by rw [List.length_take]; omega) W (HG.out.below hb (Nat.le_refl _)))
  have HEX : Hid (∀ k, (str L).extract 0 k = str (L.take k)) := Lib.hid (fun k => str_take L k)
  have HAT0 : Hid (∀ (k : Nat) (h : k < (str L).size), (str L)[k]'h = L.getD k 0) := Lib.hid (fun k h => by
    rw [str_at22]
    have h2 : k < L.length := h
    rw [List.getD_eq_getElem?_getD, List.getElem?_eq_getElem h2]; rfl)
  have HGD : Hid (∀ k (h : k < L.length), L[k] = L.getD k 0) := Lib.hid (fun k h => by rw [List.getD_eq_getElem?_getD, List.getElem?_eq_getElem h]; rfl)
  obtain ⟨s, hs⟩ : ∃ s, str L = s := ⟨_, rfl⟩
  rw [hs] at hsz HPA HEX HAT0 ⊢
  have HLN := Lib.hid hln
  clear hg hs hln
  go_enter Tryz.func4, Tryz.ntmps4
  go_wp2_with fail
  refine AL.out.mono ?_; rintro e w2 ⟨rfl, hb2⟩
  have HB2 := Lib.hid hb2
  clear hb2
  by_cases h6 : 600 < n
  · have t0 : decide (600 < s.size) = true := decide_eq_true (by omega)
    have t0' : decide ((600 : Int) < (s.size : Int)) = true := decide_eq_true (by omega)
    go_wp2_with fail
    go_ret
    exact ⟨rfl, HB2.out⟩
  have t0 : decide (600 < s.size) = false := decide_eq_false (by omega)
  have t0' : decide ((600 : Int) < (s.size : Int)) = false := decide_eq_false (by omega)
  have HP := Lib.hid (HPA.out (by omega) w2 HB2.out)
  have HPK2 := Lib.hid (HPK.out (by omega))
  clear HPA HPK
  go_wp2_with fail
  refine HP.out.mono ?_; rintro e w3 ⟨hb3, hor⟩
  have hb3' := HB2.out.trans (hb3.mono HB2.out.size)
  rcases hor with ⟨i, hti, u, rfl, b, sx, rfl, hf⟩ | ⟨x, kv, hti, rfl, hkv⟩
  · have HTI := Lib.hid hti; have HF := Lib.hid hf
    have hlt := hf.lt
    obtain ⟨w4, hw4⟩ : ∃ W, w3.alloc (.cells zC 29) = W := ⟨_, rfl⟩
    have hb4 : Below w3.heap.size w3 w4 := by rw [← hw4]; exact (Below.refl _ _).alloc (Nat.le_refl _) _
    have hc4 := Whole.new w3 29 zC
    rw [hw4] at hc4
    obtain ⟨cb, hcb⟩ : ∃ g, w3.heap.size = g := ⟨_, rfl⟩
    rw [hcb] at hc4
    have HC4 := Lib.hid hc4; have HW4 := Lib.hid hw4; have HCB := Lib.hid hcb
    have HF4 := Lib.hid (hf.below hb4 hlt)
    have HB4 := Lib.hid (hb3'.trans (hb4.mono hb3'.size))
    have HCD := Lib.hid (fun W (h : Below w4.heap.size w4 W) => code_hit b 12 W (HG.out.below (HB4.out.trans (h.mono HB4.out.size)) (Nat.le_refl _)).et (by rw [(HF4.out.below h HF4.out.lt).cell 0]; rfl))
    have HAT := Lib.hid (at_hit b (i : Nat) w4 (HG.out.below HB4.out (Nat.le_refl _)).et (by rw [HF4.out.cell 1]; rfl))
    have c0 : w4.cell? ⟨cb, 0, none⟩ = some (.int .i64 0) := hc4.cell 0
    obtain ⟨hil, hor⟩ := tell_head hti
    have HIL := Lib.hid hil; have HOR := Lib.hid hor
    clear hb3 hb3' hti hf hlt hw4 hb4 hc4 hcb hil hor
    dsimp only [zC]
    go_upto_region 6 with fail
    rw [show w3.alloc (.cells #[.int .i64 0, .int .i64 0, .int .i64 0, .int .i64 0, .int .i64 0, .slice none 0 0] 29) = w4 from HW4.out, HCB.out]
    go_wp2_with fail
    go_loopg [5, 6] n (fun g lv iv wr => ∃ k, k ≤ n ∧ g = n - k ∧ iv = .int .i64 (k : Nat) ∧ lv = .int .i64 (nlB (L.take k) : Nat) ∧ nlB (L.take k) ≤ k ∧ wr = w4)
    case atStart => exact ⟨0, Nat.zero_le _, rfl, rfl, rfl, Nat.le_refl _, rfl⟩
    case round =>
      obtain ⟨k, hk, rfl, rfl, rfl, hlk, hwr⟩ := hrel
      obtain rfl := hwr.symm
      clear hwr
      obtain ⟨ln, hln⟩ : ∃ q, nlB (L.take k) = q := ⟨_, rfl⟩
      rw [hln] at hlk ⊢
      by_cases hkn : k < n
      · have hkl : k < L.length := by rw [HLN.out]; exact hkn
        have hks : k < s.size := by omega
        have hsc := HAT0.out k hks
        have hsu := nl_succ L k hkl
        rw [HGD.out k hkl, hln] at hsu
        obtain ⟨c, hc⟩ : ∃ c, L.getD k 0 = c := ⟨_, rfl⟩
        rw [hc] at hsc hsu
        have t2 : decide ((k : Int) < s.size) = true := decide_eq_true (by omega)
        have t2n : decide (k < n) = true := decide_eq_true (by omega)
        have t2' : decide (k < s.size) = true := decide_eq_true (by omega)
        have i0 : (0 : Int) ≤ k := by omega
        by_cases hce : c = 10
        · subst hce
          rw [if_pos rfl] at hsu
          have t4 : (((s[k]'hks).toNat : Int) == 10) = true := by rw [hsc]; rfl
          have HSU := Lib.hid hsu
          clear hsu hln hc hsc hkl
          go_wp2_with fail
          go_roundg (n - (k + 1))
          case rel => exact ⟨k + 1, hkn, rfl, by go_num, by rw [HSU.out]; go_num, by rw [HSU.out]; omega, rfl⟩
          case measure => omega
        · rw [if_neg hce] at hsu
          have t4 : (((s[k]'hks).toNat : Int) == 10) = false := by
            rw [hsc, beq_eq_false_iff_ne]
            intro e
            exact hce (UInt8.toNat_inj.1 (by have : c.toNat = 10 := by omega
                                             rw [this]; rfl))
          have HSU := Lib.hid hsu
          clear hsu hln hc hsc hkl hce
          go_wp2_with fail
          go_roundg (n - (k + 1))
          case rel => exact ⟨k + 1, hkn, rfl, by go_num, by rw [HSU.out]; go_num, by rw [HSU.out]; omega, rfl⟩
          case measure => omega
      · obtain rfl : k = n := by omega
        have hall : L.take k = L := List.take_of_length_le (by rw [HLN.out]; omega)
        rw [hall] at hln
        have hil2 : i ≤ ln := by rw [← hln]; exact HIL.out
        have t2 : decide ((k : Int) < s.size) = false := decide_eq_false (by omega)
        have t2' : decide (k < s.size) = false := decide_eq_false (by omega)
        have t5 : decide ((i : Int) < 0) = false := decide_eq_false (by omega)
        have t6 : decide ((ln : Int) < (i : Int)) = false := decide_eq_false (by omega)
        have t6' : decide (ln < i) = false := decide_eq_false (by omega)
        have hin : i ≤ k := by omega
        clear hln hall hkn
        go_wp2_with fail
        refine HAT.out.mono ?_; rintro e w5 ⟨rfl, hb5⟩
        have HC5 := Lib.hid (HCD.out w5 hb5)
        have HB5 := Lib.hid hb5
        clear hb5 c0
        go_wp2_with fail
        refine HC5.out.mono ?_; rintro e w6 ⟨rfl, hb6⟩
        have hb46 := HB5.out.trans (hb6.mono HB5.out.size)
        have HB6 := Lib.hid (HB4.out.trans (hb46.mono HB4.out.size))
        have HF6 := Lib.hid (HF4.out.below hb46 HF4.out.lt)
        have c0 : w6.cell? ⟨cb, 0, none⟩ = some (.int .i64 0) := (HC4.out.below hb46 HC4.out.lt).cell 0
        clear hb6 hb46 t2 t2'
        go_wp2_with fail
        go_loopg [8, 9] k (fun g kv jv wr => ∃ m j, m ≤ k ∧ g = k - m ∧ kv = .int .i64 (m : Nat) ∧ jv = .int .i64 (j : Nat) ∧ j ≤ i ∧ headL i L = L.take m ++ headL (i - j) (L.drop m) ∧ wr = w6)
        case atStart => exact ⟨0, 0, Nat.zero_le _, rfl, rfl, rfl, Nat.zero_le _, rfl, rfl⟩
        case round =>
          obtain ⟨m, j, hm, rfl, rfl, rfl, hji, hhd, hwr⟩ := hrel
          obtain rfl := hwr.symm
          clear hwr
          have HHD := Lib.hid hhd
          clear hhd
          by_cases hmk : m < k
          · have t2 : decide ((m : Int) < s.size) = true := decide_eq_true (by omega)
            have t2n : decide (m < k) = true := decide_eq_true (by omega)
            have t2' : decide (m < s.size) = true := decide_eq_true (by omega)
            by_cases hjl : j < i
            · have t3 : decide ((j : Int) < (i : Int)) = true := decide_eq_true (by omega)
              have t3' : decide (j < i) = true := decide_eq_true hjl
              have hkl : m < L.length := by rw [HLN.out]; exact hmk
              have hks : m < s.size := by omega
              have hsc := HAT0.out m hks
              have hsu := head_succ HHD.out hkl hjl
              rw [HGD.out m hkl] at hsu
              obtain ⟨c, hc⟩ : ∃ c, L.getD m 0 = c := ⟨_, rfl⟩
              rw [hc] at hsc hsu
              have i0 : (0 : Int) ≤ m := by omega
              by_cases hce : c = 10
              · subst hce
                rw [if_pos rfl] at hsu
                have t4 : (((s[m]'hks).toNat : Int) == 10) = true := by rw [hsc]; rfl
                have HSU := Lib.hid hsu
                clear hsu hc hsc hkl
                go_wp2_with fail
                go_roundg (k - (m + 1))
                case rel => exact ⟨m + 1, j + 1, hmk, rfl, by go_num, by go_num, hjl, HSU.out, rfl⟩
                case measure => omega
              · rw [if_neg hce] at hsu
                have t4 : (((s[m]'hks).toNat : Int) == 10) = false := by
                  rw [hsc, beq_eq_false_iff_ne]
                  intro e
                  exact hce (UInt8.toNat_inj.1 (by have : c.toNat = 10 := by omega
                                                   rw [this]; rfl))
                have HSU := Lib.hid hsu
                clear hsu hc hsc hkl hce
                go_wp2_with fail
                go_roundg (k - (m + 1))
                case rel => exact ⟨m + 1, j, hmk, rfl, by go_num, rfl, hji, HSU.out, rfl⟩
                case measure => omega
            · obtain rfl : j = i := by omega
              have t3 : decide ((j : Int) < (j : Int)) = false := by simp
              have t3' : decide (j < j) = false := by simp
              have hpre : headL j L = L.take m := by
                have h := HHD.out
                rw [Nat.sub_self, headL_zero, List.append_nil] at h
                exact h
              have hxt := HEX.out m
              have HPQ := HPK2.out m w6 HB6.out
              rw [← hpre] at hxt HPQ
              obtain ⟨T, hT⟩ : ∃ T, str (headL j L) = T := ⟨_, rfl⟩
              rw [hT] at hxt HPQ
              have HPQ := Lib.hid HPQ
              have i0 : (0 : Int) ≤ m := by omega
              have i1 : (m : Int) ≤ s.size := by omega
              have i1' : m ≤ s.size := by omega
              clear hpre hT
              go_wp2_with fail
              refine HPQ.out.mono ?_; rintro e w7 ⟨hb7, hor7⟩
              have hb7' := HB6.out.trans (hb7.mono HB6.out.size)
              rcases hor7 with ⟨i', hti, u, rfl, b', sx', rfl, hf7⟩ | ⟨x, kv, hti, rfl, hkv⟩
              · have hii : i' = j := by
                  rcases HOR.out with ⟨y, hy⟩ | hy
                  · rw [hy] at hti; cases hti
                  · rw [hy] at hti; injection hti with hti; exact hti.symm
                subst hii
                have hb8 : Below w7.heap.size w7 (w7.alloc (.cells zC 29)) := (Below.refl _ _).alloc (Nat.le_refl _) _
                have hb8' := hb7'.trans (hb8.mono hb7'.size)
                have HA8 := Lib.hid (at_hit b' (i' : Nat) (w7.alloc (.cells zC 29)) (HG.out.below hb8' (Nat.le_refl _)).et (by rw [(hf7.below hb8 hf7.lt).cell 1]; rfl))
                have HB8 := Lib.hid hb8'
                have te : ((i' : Int) == (i' : Int)) = true := by simp
                have te' : (i' == i') = true := by simp
                clear hb7 hb7' hti hf7 hb8 hb8'
                dsimp only [zC]
                go_wp2_with fail
                refine HA8.out.mono ?_; rintro e w9 ⟨rfl, hb9⟩
                have HB9 := Lib.hid (HB8.out.trans (hb9.mono HB8.out.size))
                clear hb9
                go_wp2_with fail
                go_ret
                exact ⟨rfl, HB9.out⟩
              · obtain ⟨Ak, ck, rfl⟩ := hkv.form
                have HB8 := Lib.hid (hb7'.trans (((Below.refl w7.heap.size w7).alloc (Nat.le_refl _) (.cells (cV x.c (.slice Ak x.o.length ck)) 29)).mono hb7'.size))
                clear hb7 hb7' hti hkv
                unfold cV at HB8 ⊢
                go_wp2_with fail
                go_ret
                exact ⟨rfl, HB8.out⟩
          · obtain rfl : m = k := by omega
            have t2 : decide ((m : Int) < s.size) = false := decide_eq_false (by omega)
            have t2' : decide (m < s.size) = false := decide_eq_false (by omega)
            have hpre : headL i L = L.take m := by
              have h := HHD.out
              rw [List.drop_of_length_le (by rw [HLN.out]; omega), headL_nil, List.append_nil] at h
              exact h
            have hxt := HEX.out m
            have HPQ := HPK2.out m w6 HB6.out
            rw [← hpre] at hxt HPQ
            obtain ⟨T, hT⟩ : ∃ T, str (headL i L) = T := ⟨_, rfl⟩
            rw [hT] at hxt HPQ
            have HPQ := Lib.hid HPQ
            have i0 : (0 : Int) ≤ m := by omega
            have i1 : (m : Int) ≤ s.size := by omega
            have i1' : m ≤ s.size := by omega
            clear hpre hT
            go_wp2_with fail
            refine HPQ.out.mono ?_; rintro e w7 ⟨hb7, hor7⟩
            have hb7' := HB6.out.trans (hb7.mono HB6.out.size)
            rcases hor7 with ⟨i', hti, u, rfl, b', sx', rfl, hf7⟩ | ⟨x, kv, hti, rfl, hkv⟩
            · have hii : i' = i := by
                rcases HOR.out with ⟨y, hy⟩ | hy
                · rw [hy] at hti; cases hti
                · rw [hy] at hti; injection hti with hti; exact hti.symm
              subst hii
              have hb8 : Below w7.heap.size w7 (w7.alloc (.cells zC 29)) := (Below.refl _ _).alloc (Nat.le_refl _) _
              have hb8' := hb7'.trans (hb8.mono hb7'.size)
              have HA8 := Lib.hid (at_hit b' (i' : Nat) (w7.alloc (.cells zC 29)) (HG.out.below hb8' (Nat.le_refl _)).et (by rw [(hf7.below hb8 hf7.lt).cell 1]; rfl))
              have HB8 := Lib.hid hb8'
              have te : ((i' : Int) == (i' : Int)) = true := by simp
              have te' : (i' == i') = true := by simp
              clear hb7 hb7' hti hf7 hb8 hb8'
              dsimp only [zC]
              go_wp2_with fail
              refine HA8.out.mono ?_; rintro e w9 ⟨rfl, hb9⟩
              have HB9 := Lib.hid (HB8.out.trans (hb9.mono HB8.out.size))
              clear hb9
              go_wp2_with fail
              go_ret
              exact ⟨rfl, HB9.out⟩
            · obtain ⟨Ak, ck, rfl⟩ := hkv.form
              have HB8 := Lib.hid (hb7'.trans (((Below.refl w7.heap.size w7).alloc (Nat.le_refl _) (.cells (cV x.c (.slice Ak x.o.length ck)) 29)).mono hb7'.size))
              clear hb7 hb7' hti hkv
              unfold cV at HB8 ⊢
              go_wp2_with fail
              go_ret
              exact ⟨rfl, HB8.out⟩
  · obtain ⟨kd, sz, su, wk, cp, O, rfl, hr, hkd, b1, b2, b3, b4, b5, b6⟩ := tell_nat hti
    obtain ⟨Ak, ck, rfl⟩ := hkv.form
    have htt := tell_text hr
    have htl := confT_len kd b1 b2 b3 b4 b5 b6
    have HTT := Lib.hid htt; have HTL := Lib.hid htl; have HR := Lib.hid hr
    have HLC : Hid (∀ W, Below w.heap.size w W → EdgesV W (.slice Ak O.length ck) O → Calls Tryz.prog 12 #[.agg #[.int .i64 kd, .int .i64 (sz : Nat), .int .i64 (su : Nat), .int .i64 (wk : Nat), .int .i64 (cp : Nat), .slice Ak O.length ck]] W fun e w' => e = .returned (.string (str (confT ⟨⟨kd, sz, su, wk, cp⟩, O⟩))) ∧ Below W.heap.size W w') := Lib.hid (fun W hb hk => confText_any kd sz su wk cp O (.slice Ak O.length ck) W (HG.out.below hb (Nat.le_refl _)) hk hr hkd b1 b2 b3 b4 b5 b6)
    have HRT : Hid (∀ W, EdgesV W (.slice Ak O.length ck) O → Calls Tryz.prog 9 #[.agg #[.int .i64 kd, .int .i64 (sz : Nat), .int .i64 (su : Nat), .int .i64 (wk : Nat), .int .i64 (cp : Nat), .slice Ak O.length ck]] W (ErrTo none W)) := Lib.hid (fun W hk => by
      have h := confRight_any ⟨⟨kd, sz, su, wk, cp⟩, O⟩ (.slice Ak O.length ck) W hk (by show O.length ≤ _; omega)
      rw [rightC_yes hr] at h
      exact h)
    have HSM : Hid (∀ W v', Below w.heap.size w W → EdgesV W (.slice Ak O.length ck) O → EdgesV W v' O → Calls Tryz.prog 16 #[.agg #[.int .i64 kd, .int .i64 (sz : Nat), .int .i64 (su : Nat), .int .i64 (wk : Nat), .int .i64 (cp : Nat), .slice Ak O.length ck], .agg #[.int .i64 kd, .int .i64 (sz : Nat), .int .i64 (su : Nat), .int .i64 (wk : Nat), .int .i64 (cp : Nat), v']] W fun e w' => e = .returned (.bool true) ∧ Below W.heap.size W w') := Lib.hid (fun W v' hb h1 h2 => same22_yes kd sz su wk cp O (.slice Ak O.length ck) v' W (HG.out.below hb (Nat.le_refl _)) h1 h2 b5 b6)
    generalize O.length = q at *
    obtain ⟨w4, hw4⟩ : ∃ W, w3.alloc (.cells #[.int .i64 kd, .int .i64 (sz : Nat), .int .i64 (su : Nat), .int .i64 (wk : Nat), .int .i64 (cp : Nat), .slice Ak q ck] 29) = W := ⟨_, rfl⟩
    have hb4 : Below w3.heap.size w3 w4 := by rw [← hw4]; exact (Below.refl _ _).alloc (Nat.le_refl _) _
    have hc4 := Whole.new w3 29 #[.int .i64 kd, .int .i64 (sz : Nat), .int .i64 (su : Nat), .int .i64 (wk : Nat), .int .i64 (cp : Nat), .slice Ak q ck]
    rw [hw4] at hc4
    obtain ⟨cb, hcb⟩ : ∃ g, w3.heap.size = g := ⟨_, rfl⟩
    rw [hcb] at hc4
    have HC4 := Lib.hid hc4; have HW4 := Lib.hid hw4; have HCB := Lib.hid hcb
    have HB4 := Lib.hid (hb3'.trans (hb4.mono hb3'.size))
    have HK4 := Lib.hid (hkv.below hb4 (Nat.le_refl _))
    have HTX := Lib.hid (HLC.out w4 HB4.out HK4.out)
    have c0 : w4.cell? ⟨cb, 0, none⟩ = some (.int .i64 kd) := hc4.cell 0
    have c1 : w4.cell? ⟨cb, 1, none⟩ = some (.int .i64 (sz : Nat)) := hc4.cell 1
    have c2 : w4.cell? ⟨cb, 2, none⟩ = some (.int .i64 (su : Nat)) := hc4.cell 2
    have c3 : w4.cell? ⟨cb, 3, none⟩ = some (.int .i64 (wk : Nat)) := hc4.cell 3
    have c4 : w4.cell? ⟨cb, 4, none⟩ = some (.int .i64 (cp : Nat)) := hc4.cell 4
    have c5 : w4.cell? ⟨cb, 5, none⟩ = some (.slice Ak q ck) := hc4.cell 5
    clear hb3 hb3' hti hw4 hb4 hc4 hcb hkv htt htl hr hkd b1 b2 b3 b4 b5 b6
    unfold cV
    go_upto_region 6 with fail
    rw [HW4.out, HCB.out]
    go_wp2_with fail
    go_loopg [5, 6] n (fun g lv iv wr => ∃ k ln : Nat, k ≤ n ∧ g = n - k ∧ iv = .int .i64 (k : Nat) ∧ lv = .int .i64 (ln : Nat) ∧ ln ≤ k ∧ wr = w4)
    case atStart => exact ⟨0, 0, Nat.zero_le _, rfl, rfl, rfl, Nat.le_refl _, rfl⟩
    case round =>
      obtain ⟨k, ln, hk, rfl, rfl, rfl, hlk, hwr⟩ := hrel
      obtain rfl := hwr.symm
      clear hwr
      by_cases hkn : k < n
      · have hks : k < s.size := by omega
        have t2 : decide ((k : Int) < s.size) = true := decide_eq_true (by omega)
        have t2n : decide (k < n) = true := decide_eq_true (by omega)
        have t2' : decide (k < s.size) = true := decide_eq_true (by omega)
        have i0 : (0 : Int) ≤ k := by omega
        obtain ⟨z, hz⟩ : ∃ z, (((s[k]'hks).toNat : Int) == 10) = z := ⟨_, rfl⟩
        cases z with
        | true =>
          go_wp2_with fail
          go_roundg (n - (k + 1))
          case rel => exact ⟨k + 1, ln + 1, hkn, rfl, by go_num, by go_num, by omega, rfl⟩
          case measure => omega
        | false =>
          go_wp2_with fail
          go_roundg (n - (k + 1))
          case rel => exact ⟨k + 1, ln, hkn, rfl, by go_num, rfl, by omega, rfl⟩
          case measure => omega
      · obtain rfl : k = n := by omega
        have t2 : decide ((k : Int) < s.size) = false := decide_eq_false (by omega)
        have t2' : decide (k < s.size) = false := decide_eq_false (by omega)
        clear hkn
        go_wp2_with fail
        refine HTX.out.mono ?_; rintro e w5 ⟨rfl, hb5⟩
        have HB5 := Lib.hid hb5
        have hb5' := HB4.out.trans (hb5.mono HB4.out.size)
        have HPX := Lib.hid (confParseK_any (confT ⟨⟨kd, sz, su, wk, cp⟩, O⟩) HTL.out w5 (HG.out.below hb5' (Nat.le_refl _)))
        clear hb5 hb5' c0 c1 c2 c3 c4 c5
        go_wp2_with fail
        refine HPX.out.mono ?_; rintro e w6 ⟨hb6, ⟨i', hti, _⟩ | ⟨x, kv', hti, rfl, hkv'⟩⟩
        · rw [HTT.out] at hti; cases hti
        rw [HTT.out] at hti
        injection hti with hti
        subst hti
        obtain ⟨A2, c2, rfl⟩ := hkv'.form
        have hb46 := HB5.out.trans (hb6.mono HB5.out.size)
        have hb7 : Below w6.heap.size w6 (w6.alloc (.cells #[.int .i64 kd, .int .i64 (sz : Nat), .int .i64 (su : Nat), .int .i64 (wk : Nat), .int .i64 (cp : Nat), .slice A2 O.length c2] 29)) := (Below.refl _ _).alloc (Nat.le_refl _) _
        have hd7 := Whole.new w6 29 #[.int .i64 kd, .int .i64 (sz : Nat), .int .i64 (su : Nat), .int .i64 (wk : Nat), .int .i64 (cp : Nat), .slice A2 O.length c2]
        obtain ⟨w7, hw7⟩ : ∃ W, w6.alloc (.cells #[.int .i64 kd, .int .i64 (sz : Nat), .int .i64 (su : Nat), .int .i64 (wk : Nat), .int .i64 (cp : Nat), .slice A2 O.length c2] 29) = W := ⟨_, rfl⟩
        obtain ⟨db, hdb⟩ : ∃ g, w6.heap.size = g := ⟨_, rfl⟩
        rw [hw7] at hb7 hd7
        rw [hdb] at hd7
        have hb47 := hb46.trans (hb7.mono hb46.size)
        have hc7 := HC4.out.below hb47 HC4.out.lt
        have HB7 := Lib.hid (HB4.out.trans (hb47.mono HB4.out.size))
        have HK7 := Lib.hid (HK4.out.below hb47 (Nat.le_refl _))
        have HJ7 := Lib.hid (hkv'.below hb7 (Nat.le_refl _))
        have HC7 := Lib.hid hc7; have HD7 := Lib.hid hd7; have HW7 := Lib.hid hw7; have HDB := Lib.hid hdb
        have HRR := Lib.hid (HRT.out w7 HK7.out)
        clear hb6 hb46 hb7 hd7 hw7 hdb hb47 hc7 hkv'
        obtain ⟨c0, c1, c2', c3, c4, c5⟩ := (⟨HC7.out.cell 0, HC7.out.cell 1, HC7.out.cell 2, HC7.out.cell 3, HC7.out.cell 4, HC7.out.cell 5⟩ : w7.cell? ⟨cb, 0, none⟩ = some (.int .i64 kd) ∧ w7.cell? ⟨cb, 1, none⟩ = some (.int .i64 (sz : Nat)) ∧ w7.cell? ⟨cb, 2, none⟩ = some (.int .i64 (su : Nat)) ∧ w7.cell? ⟨cb, 3, none⟩ = some (.int .i64 (wk : Nat)) ∧ w7.cell? ⟨cb, 4, none⟩ = some (.int .i64 (cp : Nat)) ∧ w7.cell? ⟨cb, 5, none⟩ = some (.slice Ak q ck))
        unfold cV
        go_upto_region 24 with fail
        rw [HW7.out, HDB.out]
        go_wp2_with fail
        refine HRR.out.mono ?_; rintro e w8 hto
        obtain ⟨rfl, hb8⟩ := hto.nil rfl
        have HB8 := Lib.hid (HB7.out.trans (hb8.mono HB7.out.size))
        have hc8 := HC7.out.below hb8 HC7.out.lt
        have hd8 := HD7.out.below hb8 HD7.out.lt
        have HSS := Lib.hid (HSM.out w8 (.slice A2 O.length c2) HB8.out (HK7.out.below hb8 (Nat.le_refl _)) (HJ7.out.below hb8 (Nat.le_refl _)))
        clear c0 c1 c2' c3 c4 c5 hto hb8
        have c0 : w8.cell? ⟨cb, 0, none⟩ = some (.int .i64 kd) := hc8.cell 0
        have c1 : w8.cell? ⟨cb, 1, none⟩ = some (.int .i64 (sz : Nat)) := hc8.cell 1
        have c2' : w8.cell? ⟨cb, 2, none⟩ = some (.int .i64 (su : Nat)) := hc8.cell 2
        have c3 : w8.cell? ⟨cb, 3, none⟩ = some (.int .i64 (wk : Nat)) := hc8.cell 3
        have c4 : w8.cell? ⟨cb, 4, none⟩ = some (.int .i64 (cp : Nat)) := hc8.cell 4
        have c5 : w8.cell? ⟨cb, 5, none⟩ = some (.slice Ak q ck) := hc8.cell 5
        have d0 : w8.cell? ⟨db, 0, none⟩ = some (.int .i64 kd) := hd8.cell 0
        have d1 : w8.cell? ⟨db, 1, none⟩ = some (.int .i64 (sz : Nat)) := hd8.cell 1
        have d2 : w8.cell? ⟨db, 2, none⟩ = some (.int .i64 (su : Nat)) := hd8.cell 2
        have d3 : w8.cell? ⟨db, 3, none⟩ = some (.int .i64 (wk : Nat)) := hd8.cell 3
        have d4 : w8.cell? ⟨db, 4, none⟩ = some (.int .i64 (cp : Nat)) := hd8.cell 4
        have d5 : w8.cell? ⟨db, 5, none⟩ = some (.slice A2 O.length c2) := hd8.cell 5
        clear hc8 hd8
        go_wp2_with fail
        refine HSS.out.mono ?_; rintro e w9 ⟨rfl, hb9⟩
        have HB9 := Lib.hid (HB8.out.trans (hb9.mono HB8.out.size))
        clear hb9
        go_wp2_with fail
        go_ret
        exact ⟨rfl, HB9.out⟩
end Go.Proofs.YtbbdammdiplagaaGreatDoor
