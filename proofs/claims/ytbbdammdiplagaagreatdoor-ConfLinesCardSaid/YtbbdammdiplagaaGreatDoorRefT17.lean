/- The document's text of tests. -/
import Derived.Test.YtbbdammdiplagaaGreatDoorRef17
namespace Go.Proofs.YtbbdammdiplagaaGreatDoor
open Go.RowKit

theorem name_cells {w : World} {g : Nat} (h : Whole w g 9 #[.string ⟨#[]⟩, .string ⟨#[99, 108, 105, 113, 117, 101]⟩, .string ⟨#[108, 97, 98, 101, 108, 115]⟩, .string ⟨#[100, 101, 103, 114, 101, 101]⟩, .string ⟨#[115, 105, 122, 101]⟩, .string ⟨#[101, 100, 103, 101, 115]⟩, .string ⟨#[117, 110, 108, 105, 107, 101]⟩, .string ⟨#[111, 110, 108, 121]⟩, .string ⟨#[102, 114, 101, 101]⟩]) (i : Nat) (hi : i ≤ 8) : w.cell? ⟨g, i, none⟩ = some (.string (str (nameB (i : Nat)))) := by
  have e : i = 0 ∨ i = 1 ∨ i = 2 ∨ i = 3 ∨ i = 4 ∨ i = 5 ∨ i = 6 ∨ i = 7 ∨ i = 8 := by omega
  rcases e with rfl | rfl | rfl | rfl | rfl | rfl | rfl | rfl | rfl <;> exact h.cell _
theorem joinB_next {P : List (List UInt8)} {k : Nat} (h : k < P.length) : joinB 59 (P.take (k + 1)) = (if k = 0 then [] else joinB 59 (P.take k) ++ [59]) ++ P.getD k [] := by
  rw [List.take_succ_eq_append_getElem h]
  have e : P.getD k [] = P[k] := by simp [List.getD, h]
  rw [e]
  by_cases hk : k = 0
  · subst hk
    rw [if_pos rfl]
    rfl
  · rw [if_neg hk, joinB_snoc (fun e => by have h2 := congrArg List.length e; rw [List.length_take, List.length_nil] at h2; omega)]
    simp
set_option maxRecDepth 100000 in
set_option maxHeartbeats 8000000 in
theorem refText17_any {w : World} {v : Value} {O : List (Int × Int)} (hO : EdgesV w v O) (k1 : O.length ≤ 100) (hs : ∀ o ∈ O, wrongF o = 0) :
    Calls Tryz.prog 39 #[v] w fun e w' => e = .returned (.string (str (progT O))) ∧ Below w.heap.size w w' := by
  have HSM := Lib.hid hs
  obtain ⟨Ao, co, rfl⟩ := hO.form
  obtain ⟨n, hn⟩ : ∃ n, O.length = n := ⟨_, rfl⟩
  rw [hn] at hO k1 ⊢
  have hb1 : Below w.heap.size w (w.alloc (.cells #[.string ⟨#[]⟩, .string ⟨#[99, 108, 105, 113, 117, 101]⟩, .string ⟨#[108, 97, 98, 101, 108, 115]⟩, .string ⟨#[100, 101, 103, 114, 101, 101]⟩, .string ⟨#[115, 105, 122, 101]⟩, .string ⟨#[101, 100, 103, 101, 115]⟩, .string ⟨#[117, 110, 108, 105, 107, 101]⟩, .string ⟨#[111, 110, 108, 121]⟩, .string ⟨#[102, 114, 101, 101]⟩] 9)) := (Below.refl _ _).alloc (Nat.le_refl _) _
  have hx := Whole.new w 9 #[.string ⟨#[]⟩, .string ⟨#[99, 108, 105, 113, 117, 101]⟩, .string ⟨#[108, 97, 98, 101, 108, 115]⟩, .string ⟨#[100, 101, 103, 114, 101, 101]⟩, .string ⟨#[115, 105, 122, 101]⟩, .string ⟨#[101, 100, 103, 101, 115]⟩, .string ⟨#[117, 110, 108, 105, 107, 101]⟩, .string ⟨#[111, 110, 108, 121]⟩, .string ⟨#[102, 114, 101, 101]⟩]
  obtain ⟨w1, hw1⟩ : ∃ W, w.alloc (.cells #[.string ⟨#[]⟩, .string ⟨#[99, 108, 105, 113, 117, 101]⟩, .string ⟨#[108, 97, 98, 101, 108, 115]⟩, .string ⟨#[100, 101, 103, 114, 101, 101]⟩, .string ⟨#[115, 105, 122, 101]⟩, .string ⟨#[101, 100, 103, 101, 115]⟩, .string ⟨#[117, 110, 108, 105, 107, 101]⟩, .string ⟨#[111, 110, 108, 121]⟩, .string ⟨#[102, 114, 101, 101]⟩] 9) = W := ⟨_, rfl⟩
  obtain ⟨ob, hob⟩ : ∃ g, w.heap.size = g := ⟨_, rfl⟩
  rw [hw1] at hb1 hx
  rw [hob] at hx
  have HO := Lib.hid hO; have HN := Lib.hid hn; have HB1 := Lib.hid hb1; have HW1 := Lib.hid hw1; have HOB := Lib.hid hob
  have HNC := Lib.hid (fun (W : World) (hb : Below w1.heap.size w1 W) => name_cells (hx.below hb hx.lt))
  have HTK := Lib.hid (fun k W => takes_any k W)
  have HNM := Lib.hid (fun (q : Nat) (hq : q ≤ 9999999) (W : World) => num_any q hq W)
  have HL14 : Hid (∀ k, (joinB 59 ((O.map opT).take k)).length ≤ 14 * 100) := Lib.hid (fun k => by
    have h1 := joinB_le (b := 59) (P := (O.map opT).take k) (c := 13) (fun p hp => by
      obtain ⟨x, hx, rfl⟩ := List.mem_map.1 (List.mem_of_mem_take hp)
      have := wrongF_zero (hs x hx)
      exact opT_len ⟨by omega, by omega⟩)
    have h2 : ((O.map opT).take k).length ≤ 100 := by rw [List.length_take, List.length_map]; omega
    omega)
  clear hO hn hs hb1 hx hw1 hob
  go_enter Tryz.func39, Tryz.ntmps39
  go_upto_region 2 with fail
  rw [HW1.out, HOB.out]
  go_wp2_with fail
  go_loopg [4, 5] n (fun g sv y wr => ∃ k, k ≤ n ∧ g = n - k ∧ y = .int .i64 (k : Nat) ∧ sv = .string (str (joinB 59 ((O.map opT).take k))) ∧ Below w1.heap.size w1 wr)
  case atStart => exact ⟨0, Nat.zero_le _, rfl, rfl, rfl, Below.refl _ _⟩
  case round =>
    obtain ⟨k, hk, rfl, rfl, rfl, hB⟩ := hrel
    by_cases hlt : k < n
    · have hkE : k < O.length := by rw [HN.out]; exact hlt
      obtain ⟨b, off, rfl, d0, d1⟩ := (HO.out.below (HB1.out.trans (hB.mono HB1.out.size)) (Nat.le_refl _)).pos (i := k) hkE
      obtain ⟨o, ho⟩ : ∃ o, O.getD k (0, 0) = o := ⟨_, rfl⟩
      have hsm := wrongF_zero (HSM.out o (by rw [← ho]; exact getD_memE hkE))
      have hPk : (O.map opT).getD k [] = opT o := by rw [← ho]; simp [List.getD, hkE]
      have hJ := joinB_next (P := O.map opT) (k := k) (by rw [List.length_map]; exact hkE)
      rw [hPk] at hJ
      rw [ho] at d0 d1
      obtain ⟨a', q'⟩ := o
      simp only at hsm d0 d1
      obtain ⟨a, rfl⟩ : ∃ a : Nat, a' = a := ⟨a'.toNat, by omega⟩
      obtain ⟨q, rfl⟩ : ∃ q : Nat, q' = q := ⟨q'.toNat, by omega⟩
      have hTC : takesB (a : Nat) = countsB (a : Nat) := takes_counts (by omega) (by omega)
      obtain ⟨cb, hcb⟩ : ∃ z, countsB (a : Nat) = z := ⟨_, rfl⟩
      have cn := HNC.out wr hB a (by omega)
      have hnl : (str (nameB (a : Nat))).size ≤ 6 := nameB_len _
      have hop : opT ((a : Nat), (q : Nat)) = nameB (a : Nat) ++ (if cb = true then 32 :: Lib.decDigits q else []) := by unfold opT decI; rw [Int.toNat_natCast, hcb]
      have hl1 := HL14.out k
      have hdl : (str (Lib.decDigits q)).size ≤ 6 := dec_len6 (by omega)
      have HNQ := HNM.out q (by omega)
      have HTQ := HTK.out (a : Nat)
      rw [hTC, hcb] at HTQ
      have hJk : Hid (str (joinB 59 ((O.map opT).take (k + 1))) = (if k = 0 then str [] else str (joinB 59 ((O.map opT).take k)) ++ str [59]) ++ (str (nameB (a : Nat)) ++ (if cb = true then str [32] ++ str (Lib.decDigits q) else str []))) := Lib.hid (by
        rw [hJ, hop]
        by_cases h0 : k = 0
        · rw [if_pos h0, if_pos h0]
          cases cb <;> simp [str_append]
        · rw [if_neg h0, if_neg h0]
          cases cb <;> simp [str_append])
      have hk0 : k = 0 → str (joinB 59 ((O.map opT).take k)) = str [] := fun h => by subst h; rfl
      have hskz : (str (joinB 59 ((O.map opT).take k))).size ≤ 1400 := hl1
      obtain ⟨sk, hsk⟩ : ∃ s, str (joinB 59 ((O.map opT).take k)) = s := ⟨_, rfl⟩
      obtain ⟨nm, hnm⟩ : ∃ s, str (nameB (a : Nat)) = s := ⟨_, rfl⟩
      obtain ⟨D, hD⟩ : ∃ s, str (Lib.decDigits q) = s := ⟨_, rfl⟩
      rw [hsk, hnm, hD] at hJk
      rw [hsk] at hk0 hskz ⊢
      rw [hnm] at cn hnl
      rw [hD] at hdl HNQ
      have t3 : decide (k < n) = true := decide_eq_true hlt
      have j1 : (k : Int) < n := by omega
      have j2 : (0 : Int) ≤ k := by omega
      have a1 : (a : Int) < 9 := by omega
      have a2 : (0 : Int) ≤ a := by omega
      have HK0 := Lib.hid hk0; have HNQ := Lib.hid HNQ; have HTQ := Lib.hid HTQ; have HLT := Lib.hid hlt; have HB := Lib.hid hB
      have hbl := World.block_lt_of_cell? _ _ d0
      have HD := Lib.hid (fun (W : World) (hb : Below wr.heap.size wr W) => (show W.cell? ⟨b, off + k * 2, none⟩ = some (.int .i64 (a : Nat)) ∧ W.cell? ⟨b, off + k * 2 + 1, none⟩ = some (.int .i64 (q : Nat)) from
        ⟨(hb.cell (p := ⟨b, off + k * 2, none⟩) hbl).trans d0, (hb.cell (p := ⟨b, off + k * 2 + 1, none⟩) hbl).trans d1⟩))
      clear hlt hkE ho hsm hPk hJ hTC hcb hop hl1 hsk hnm hD hk0 hB hbl
      by_cases hk0 : k = 0
      · have t4 : decide (0 < k) = false := decide_eq_false (by omega)
        have t4' : decide ((0 : Int) < (k : Int)) = false := decide_eq_false (by omega)
        have HPR : Hid ((if k = 0 then str [] else sk ++ str [59]) = sk) := Lib.hid (by rw [if_pos hk0, HK0.out hk0])
        clear hk0
        have y3 : ¬ 9223372036854775807 < sk.size + nm.size := by omega
        have hqz : (sk ++ nm).size ≤ 1407 := by rw [ByteArray.size_append]; omega
        go_upto_region 9 with fail
        obtain ⟨pq, hpq⟩ : ∃ p, sk ++ nm = p := ⟨_, rfl⟩
        rw [hpq] at hqz ⊢
        have HPQ := Lib.hid hpq
        clear hpq y3 cn
        go_wp2_with fail
        refine (HTQ.out _).mono ?_; rintro e w5 ⟨rfl, hw⟩; obtain rfl := hw.symm
        clear hw
        cases cb with
        | false =>
          have HF : Hid (pq = str (joinB 59 ((O.map opT).take (k + 1)))) := Lib.hid (by rw [hJk.out, HPR.out, ← HPQ.out, if_neg (by decide), ← ByteArray.append_assoc, show str [] = ByteArray.empty from rfl, ByteArray.append_empty])
          clear d0 d1
          go_wp2_with fail
          go_roundg (n - (k + 1))
          case rel => exact ⟨k + 1, HLT.out, rfl, by go_num, by rw [HF.out], HB.out⟩
          case measure => have := HLT.out; omega
        | true =>
          have y4 : ¬ 9223372036854775807 < pq.size + 1 := by omega
          have y5 : ¬ 9223372036854775807 < pq.size + (⟨#[32]⟩ : ByteArray).size := by show ¬ _ < _ + 1; omega
          have y6 : ¬ 9223372036854775807 < pq.size + 1 + D.size := by omega
          have y7 : ¬ 9223372036854775807 < (pq ++ (⟨#[32]⟩ : ByteArray)).size + D.size := by rw [ByteArray.size_append]; show ¬ _ < _ + 1 + _; omega
          have HF : Hid ((pq ++ ⟨#[32]⟩) ++ D = str (joinB 59 ((O.map opT).take (k + 1)))) := Lib.hid (by rw [hJk.out, HPR.out, ← HPQ.out, if_pos rfl, ByteArray.append_assoc, ByteArray.append_assoc]; rfl)
          go_wp2_with fail
          refine (HNQ.out _).mono ?_; rintro e w6 ⟨rfl, hb6⟩
          have HB6 := Lib.hid (HB.out.trans (hb6.mono HB.out.size))
          clear hb6 d0 d1
          go_wp2_with fail
          go_roundg (n - (k + 1))
          case rel => exact ⟨k + 1, HLT.out, rfl, by go_num, by rw [← HF.out], HB6.out⟩
          case measure => have := HLT.out; omega
      · have t4 : decide (0 < k) = true := decide_eq_true (by omega)
        have t4' : decide ((0 : Int) < (k : Int)) = true := decide_eq_true (by omega)
        have HPR0 : (if k = 0 then str [] else sk ++ str [59]) = sk ++ ⟨#[59]⟩ := by rw [if_neg hk0]; rfl
        have y1 : ¬ 9223372036854775807 < sk.size + 1 := by omega
        have y2 : ¬ 9223372036854775807 < sk.size + (⟨#[59]⟩ : ByteArray).size := by show ¬ _ < _ + 1; omega
        have hpz : (sk ++ (⟨#[59]⟩ : ByteArray)).size ≤ 1401 := by rw [ByteArray.size_append]; show _ + 1 ≤ _; omega
        clear hk0
        go_upto_region 8 with fail
        obtain ⟨pre, hpre⟩ : ∃ p, sk ++ (⟨#[59]⟩ : ByteArray) = p := ⟨_, rfl⟩
        rw [hpre] at hpz HPR0 ⊢
        have HPR := Lib.hid HPR0
        clear hpre HPR0 y1 y2
        have y3 : ¬ 9223372036854775807 < pre.size + nm.size := by omega
        have hqz : (pre ++ nm).size ≤ 1407 := by rw [ByteArray.size_append]; omega
        go_upto_region 9 with fail
        obtain ⟨pq, hpq⟩ : ∃ p, pre ++ nm = p := ⟨_, rfl⟩
        rw [hpq] at hqz ⊢
        have HPQ := Lib.hid hpq
        clear hpq y3 cn
        go_wp2_with fail
        refine (HTQ.out _).mono ?_; rintro e w5 ⟨rfl, hw⟩; obtain rfl := hw.symm
        clear hw
        cases cb with
        | false =>
          have HF : Hid (pq = str (joinB 59 ((O.map opT).take (k + 1)))) := Lib.hid (by rw [hJk.out, HPR.out, ← HPQ.out, if_neg (by decide), ← ByteArray.append_assoc, show str [] = ByteArray.empty from rfl, ByteArray.append_empty])
          clear d0 d1
          go_wp2_with fail
          go_roundg (n - (k + 1))
          case rel => exact ⟨k + 1, HLT.out, rfl, by go_num, by rw [HF.out], HB.out⟩
          case measure => have := HLT.out; omega
        | true =>
          have y4 : ¬ 9223372036854775807 < pq.size + 1 := by omega
          have y5 : ¬ 9223372036854775807 < pq.size + (⟨#[32]⟩ : ByteArray).size := by show ¬ _ < _ + 1; omega
          have y6 : ¬ 9223372036854775807 < pq.size + 1 + D.size := by omega
          have y7 : ¬ 9223372036854775807 < (pq ++ (⟨#[32]⟩ : ByteArray)).size + D.size := by rw [ByteArray.size_append]; show ¬ _ < _ + 1 + _; omega
          have HF : Hid ((pq ++ ⟨#[32]⟩) ++ D = str (joinB 59 ((O.map opT).take (k + 1)))) := Lib.hid (by rw [hJk.out, HPR.out, ← HPQ.out, if_pos rfl, ByteArray.append_assoc, ByteArray.append_assoc]; rfl)
          go_wp2_with fail
          refine (HNQ.out _).mono ?_; rintro e w6 ⟨rfl, hb6⟩
          have HB6 := Lib.hid (HB.out.trans (hb6.mono HB.out.size))
          clear hb6 d0 d1
          go_wp2_with fail
          go_roundg (n - (k + 1))
          case rel => exact ⟨k + 1, HLT.out, rfl, by go_num, by rw [← HF.out], HB6.out⟩
          case measure => have := HLT.out; omega
    · obtain rfl : k = n := by omega
      have t3 : decide (k < k) = false := by simp
      have HF : Hid (str (joinB 59 ((O.map opT).take k)) = str (progT O)) := Lib.hid (by rw [List.take_of_length_le (by rw [List.length_map, HN.out]; omega)]; rfl)
      have HB := Lib.hid (HB1.out.trans (hB.mono HB1.out.size))
      clear hlt hB
      go_wp2_with fail
      go_ret
      exact ⟨by rw [← HF.out]; rfl, HB.out⟩
end Go.Proofs.YtbbdammdiplagaaGreatDoor
