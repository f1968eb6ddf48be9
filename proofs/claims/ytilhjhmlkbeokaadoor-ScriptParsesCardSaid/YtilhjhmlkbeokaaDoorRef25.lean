/- The document's numbers, lines and texts of acts. -/
import Derived.Test.YtilhjhmlkbeokaaDoorScript5
namespace Go.Proofs.YtilhjhmlkbeokaaDoor
open Go.RowKit

theorem conv1 (w : World) (n : Nat) (hn : n ≤ 9) : (convert 58 9 (.slice (some ⟨w.heap.size, 0, none⟩) 1 1)).run Tryd.prog (w.alloc (.cells #[.int .u8 (48 + (n : Int))] 5)) = .ok (.string (str [UInt8.ofNat (48 + n)])) (w.alloc (.cells #[.int .u8 (48 + (n : Int))] 5)) := by
  refine run_convert_bytes_back _ 58 9 5 ⟨w.heap.size, 0, none⟩ 1 [UInt8.ofNat (48 + n)] Tryd.underlying58 Tryd.underlying5 Tryd.underlying9 (fun j hj => ?_)
  obtain rfl : j = 0 := by simpa using hj
  have e : (([UInt8.ofNat (48 + n)] : List UInt8)[0]).toNat = 48 + n := by
    show (UInt8.ofNat (48 + n)).toNat = _
    rw [UInt8.toNat_ofNat']
    omega
  have hc : (w.alloc (.cells #[.int .u8 (48 + (n : Int))] 5)).cell? ⟨w.heap.size, 0, none⟩ = _ := (Whole.new w 5 #[.int .u8 (48 + (n : Int))]).cell 0
  rw [e]
  exact hc
set_option maxRecDepth 100000 in
set_option maxHeartbeats 4000000 in
theorem num_any : ∀ (n : Nat), n ≤ 9999999 → ∀ (w : World), Calls Tryd.prog 32 #[.int .i64 n] w fun e w' => e = .returned (.string (str (Lib.decDigits n))) ∧ Below w.heap.size w w' := by
  intro n
  induction n using Nat.strongRecOn with
  | _ n ih =>
    intro hn w
    by_cases h9 : n ≤ 9
    · have HB : Hid (Below w.heap.size w (w.alloc (.cells #[.int .u8 (48 + (n : Int))] 5))) := Lib.hid ((Below.refl _ _).alloc (Nat.le_refl _) _)
      have cv := conv1 w n h9
      have t1 : decide ((9 : Int) < n) = false := decide_eq_false (by omega)
      have t1' : decide (9 < n) = false := decide_eq_false (by omega)
      have hd1 := Lib.decDigits_one (show n < 10 by omega)
      obtain ⟨u, hu⟩ : ∃ u, UInt8.ofNat (48 + n) = u := ⟨_, rfl⟩
      rw [hu] at cv hd1
      have HD := Lib.hid hd1
      clear hu hd1
      clear ih
      go_enter Tryd.func32, Tryd.ntmps32
      go_wp2_with fail
      go_ret
      exact ⟨by rw [HD.out]; rfl, HB.out⟩
    · have H1 := Lib.hid (ih (n / 10) (by omega) (by omega))
      have H2 := Lib.hid (ih (n % 10) (by omega) (by omega))
      have hdec : Lib.decDigits n = Lib.decDigits (n / 10) ++ Lib.decDigits (n % 10) := by
        rw [Lib.decDigits, dif_neg (by omega), Lib.decDigits_one (Nat.mod_lt n (by decide))]
      have HD := Lib.hid hdec
      have q1 : Int.tdiv (n : Int) 10 = ((n / 10 : Nat) : Int) := rfl
      have q2 : Int.tmod (n : Int) 10 = ((n % 10 : Nat) : Int) := rfl
      obtain ⟨a, ha⟩ : ∃ a, n / 10 = a := ⟨_, rfl⟩
      obtain ⟨b, hb⟩ : ∃ b, n % 10 = b := ⟨_, rfl⟩
      have ha7 : a ≤ 999999 := by omega
      have hb7 : b ≤ 9 := by omega
      have hl1 := (dec_len_iff a 7 (by decide)).2 (by omega)
      have hl2 := (dec_len_iff b 7 (by decide)).2 (by omega)
      rw [ha] at q1 H1 HD
      rw [hb] at q2 H2 HD
      obtain ⟨da, hda⟩ : ∃ d, Lib.decDigits a = d := ⟨_, rfl⟩
      obtain ⟨db, hdb⟩ : ∃ d, Lib.decDigits b = d := ⟨_, rfl⟩
      rw [hda] at H1 HD hl1
      rw [hdb] at H2 HD hl2
      have s1 : (str da).size ≤ 7 := hl1
      have s2 : (str db).size ≤ 7 := hl2
      have t1 : decide ((9 : Int) < n) = true := decide_eq_true (by omega)
      have t1' : decide (9 < n) = true := decide_eq_true (by omega)
      clear ih hdec ha hb hda hdb hl1 hl2
      go_enter Tryd.func32, Tryd.ntmps32
      go_wp2_with fail
      refine (H1.out w).mono ?_; rintro e w1 ⟨rfl, hb1⟩
      have HB1 := Lib.hid hb1
      clear hb1
      go_wp2_with fail
      refine (H2.out w1).mono ?_; rintro e w2 ⟨rfl, hb2⟩
      have HB2 := Lib.hid (HB1.out.trans (hb2.mono HB1.out.size))
      clear hb2
      go_wp2_with fail
      go_ret
      exact ⟨by rw [HD.out, ← str_append]; rfl, HB2.out⟩
theorem cat4 (a b : List UInt8) : ((str a ++ str [32]) ++ str b) ++ str [10] = str ((a ++ 32 :: b) ++ [10]) := by
  rw [str_append, str_append, str_append]
  simp
set_option maxRecDepth 100000 in
set_option maxHeartbeats 4000000 in
theorem line_any (x y : Int) (hga : goodA (x, y) = true ∨ (0 ≤ x ∧ x ≤ 5 ∧ 0 ≤ y ∧ y ≤ 999999)) (w : World) :
    Calls Tryd.prog 22 #[.agg #[.int .i64 x, .int .i64 y]] w fun e w' => e = .returned (.string (str (lineB (x, y) ++ [10]))) ∧ Below w.heap.size w w' := by
  have hxy : 0 ≤ x ∧ x ≤ 5 ∧ 0 ≤ y ∧ y ≤ 999999 := by
    rcases hga with h | h
    · obtain ⟨h0, h5, h2, h3, _⟩ := good_iff.1 h
      exact ⟨h0, h5, h2, h3⟩
    · exact h
  obtain ⟨y', rfl⟩ : ∃ y' : Nat, y = y' := ⟨y.toNat, by omega⟩
  have hb1 : Below w.heap.size w (w.alloc (.cells #[.int .i64 x, .int .i64 (y' : Nat)] 35)) := (Below.refl _ _).alloc (Nat.le_refl _) _
  have hb2 := hb1.alloc hb1.size (.cells #[.string (str (wordB 0)), .string (str (wordB 1)), .string (str (wordB 2)), .string (str (wordB 3)), .string (str (wordB 4)), .string (str (wordB 5))] 9)
  have HB2 := Lib.hid hb2
  have HN := Lib.hid (num_any y' (by omega))
  have hdl := (dec_len_iff y' 6 (by decide)).2 (by omega)
  have hsp : ∀ k, lineB (k, (y' : Int)) = wordB k ++ (if k ≤ 3 then 32 :: Lib.decDigits y' else []) := fun k => rfl
  obtain ⟨dk, hdk⟩ : ∃ d, Lib.decDigits y' = d := ⟨_, rfl⟩
  rw [hdk] at HN hdl
  have hdz : (str dk).size ≤ 6 := hdl
  have HSP : Hid (∀ k, lineB (k, (y' : Int)) = wordB k ++ (if k ≤ 3 then 32 :: dk else [])) := by
    rw [← hdk]
    exact Lib.hid hsp
  obtain ⟨x0, x5, _⟩ := hxy
  clear hga hdk hdl hsp hb1 hb2
  rcases kind_cases x0 x5 with rfl | rfl | rfl | rfl | rfl | rfl
  · clear x0 x5
    go_enter Tryd.func22, Tryd.ntmps22
    go_wp2_with fail
    refine (HN.out _).mono ?_; rintro e w3 ⟨rfl, hb3⟩
    have HB3 := Lib.hid (HB2.out.trans (hb3.mono HB2.out.size))
    clear hb3
    go_wp2_with fail
    go_ret
    refine ⟨?_, HB3.out⟩
    rw [HSP.out, if_pos (by decide)]
    exact congrArg (fun s => Ending.returned (.string s)) (cat4 (wordB 0) dk)
  · clear x0 x5
    go_enter Tryd.func22, Tryd.ntmps22
    go_wp2_with fail
    refine (HN.out _).mono ?_; rintro e w3 ⟨rfl, hb3⟩
    have HB3 := Lib.hid (HB2.out.trans (hb3.mono HB2.out.size))
    clear hb3
    go_wp2_with fail
    go_ret
    refine ⟨?_, HB3.out⟩
    rw [HSP.out, if_pos (by decide)]
    exact congrArg (fun s => Ending.returned (.string s)) (cat4 (wordB 1) dk)
  · clear x0 x5
    go_enter Tryd.func22, Tryd.ntmps22
    go_wp2_with fail
    refine (HN.out _).mono ?_; rintro e w3 ⟨rfl, hb3⟩
    have HB3 := Lib.hid (HB2.out.trans (hb3.mono HB2.out.size))
    clear hb3
    go_wp2_with fail
    go_ret
    refine ⟨?_, HB3.out⟩
    rw [HSP.out, if_pos (by decide)]
    exact congrArg (fun s => Ending.returned (.string s)) (cat4 (wordB 2) dk)
  · clear x0 x5
    go_enter Tryd.func22, Tryd.ntmps22
    go_wp2_with fail
    refine (HN.out _).mono ?_; rintro e w3 ⟨rfl, hb3⟩
    have HB3 := Lib.hid (HB2.out.trans (hb3.mono HB2.out.size))
    clear hb3
    go_wp2_with fail
    go_ret
    refine ⟨?_, HB3.out⟩
    rw [HSP.out, if_pos (by decide)]
    exact congrArg (fun s => Ending.returned (.string s)) (cat4 (wordB 3) dk)
  · clear x0 x5
    go_enter Tryd.func22, Tryd.ntmps22
    go_wp2_with fail
    go_ret
    refine ⟨?_, HB2.out⟩
    rw [HSP.out, if_neg (by decide), List.append_nil]
    exact congrArg (fun s => Ending.returned (.string s)) (str_append (wordB 4) [10])
  · clear x0 x5
    go_enter Tryd.func22, Tryd.ntmps22
    go_wp2_with fail
    go_ret
    refine ⟨?_, HB2.out⟩
    rw [HSP.out, if_neg (by decide), List.append_nil]
    exact congrArg (fun s => Ending.returned (.string s)) (str_append (wordB 5) [10])
set_option maxRecDepth 100000 in
set_option maxHeartbeats 4000000 in
theorem refText_any (L : List (Int × Int)) (v : Value) (w : World) (h : EdgesV w v L) (hL : L.length ≤ 100000) (hgood : ∀ a ∈ L, goodA a = true) :
    Calls Tryd.prog 17 #[v] w fun e w' => e = .returned (.string (str (textB L))) ∧ Below w.heap.size w w' := by
  obtain ⟨A, c, rfl⟩ := h.form
  obtain ⟨m, hm⟩ : ∃ m, L.length = m := ⟨_, rfl⟩
  have HS := Lib.hid h
  rw [hm] at HS hL ⊢
  have HM := Lib.hid hm; have HGD := Lib.hid hgood
  clear h hm hgood
  go_enter Tryd.func17, Tryd.ntmps17
  go_wp2_with fail
  go_loopg [3, 4] m (fun g sv iv wr => ∃ k, k ≤ m ∧ g = m - k ∧ iv = .int .i64 (k : Nat) ∧ sv = .string (str (textB (L.take k))) ∧ Below w.heap.size w wr)
  case atStart => exact ⟨0, Nat.zero_le _, rfl, rfl, rfl, Below.refl _ _⟩
  case round =>
    obtain ⟨k, hk, rfl, rfl, rfl, hB⟩ := hrel
    by_cases hlt : k < m
    · have hkL : k < L.length := by rw [HM.out]; exact hlt
      obtain ⟨b, off, rfl, d0, d1⟩ := (HS.out.below hB (Nat.le_refl _)).pos hkL
      obtain ⟨e, he⟩ : ∃ e, L.getD k (0, 0) = e := ⟨_, rfl⟩
      have hga : goodA e = true := HGD.out e (by rw [← he, getD_at hkL]; exact List.getElem_mem _)
      have hstep := text_step hkL he
      rw [he] at d0 d1
      have hbl : (textB (L.take k)).length ≤ 15 * 100000 := by
        have := text_len (L.take k) (fun a ha => HGD.out a (List.mem_of_mem_take ha))
        rw [List.length_take] at this
        omega
      have hll := line_len hga
      obtain ⟨x, y⟩ := e
      simp only at d0 d1
      have t3 : decide (k < m) = true := decide_eq_true hlt
      have i1 : (k : Int) < m := by omega
      have i2 : (0 : Int) ≤ k := by omega
      have HLN := Lib.hid (line_any x y (Or.inl hga) wr)
      obtain ⟨T, hT⟩ : ∃ T, textB (L.take k) = T := ⟨_, rfl⟩
      obtain ⟨U, hU⟩ : ∃ U, lineB (x, y) ++ [10] = U := ⟨_, rfl⟩
      have hUl : (str U).size ≤ 15 := by rw [← hU, str_size, List.length_append]; simp; omega
      rw [hU] at HLN hstep
      rw [hT] at hstep hbl ⊢
      have hTl : (str T).size ≤ 1500000 := hbl
      have HLT := Lib.hid hlt; have HSTEP := Lib.hid hstep; have HB := Lib.hid hB
      clear hB he hkL hga hstep hbl hll hT hU
      go_wp2_with fail
      refine HLN.out.mono ?_; rintro e w3 ⟨rfl, hb3⟩
      have HB3 := Lib.hid (HB.out.trans (hb3.mono HB.out.size))
      clear hb3
      go_wp2_with fail
      go_roundg (m - (k + 1))
      case rel => exact ⟨k + 1, HLT.out, rfl, by go_num, by rw [HSTEP.out, ← str_append], HB3.out⟩
      case measure => have := HLT.out; omega
    · obtain rfl : k = m := by omega
      have t3 : decide (k < k) = false := by simp
      rw [List.take_of_length_le (by rw [HM.out]; omega)]
      have HB := Lib.hid hB
      clear hB hlt
      go_wp2_with fail
      go_ret
      exact ⟨rfl, HB.out⟩
end Go.Proofs.YtilhjhmlkbeokaaDoor
