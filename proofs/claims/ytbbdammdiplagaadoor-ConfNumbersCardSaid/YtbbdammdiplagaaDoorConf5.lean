/- ConfNumbers. -/
import Derived.Test.YtbbdammdiplagaaDoorConf4
namespace Go.Proofs.YtbbdammdiplagaaDoor
open Go.RowKit

theorem conv1 (w : World) (n : Nat) (hn : n ≤ 9) : (convert 25 9 (.slice (some ⟨w.heap.size, 0, none⟩) 1 1)).run Tryd.prog (w.alloc (.cells #[.int .u8 (48 + (n : Int))] 5)) = .ok (.string (str [UInt8.ofNat (48 + n)])) (w.alloc (.cells #[.int .u8 (48 + (n : Int))] 5)) := by
  refine run_convert_bytes_back _ 25 9 5 ⟨w.heap.size, 0, none⟩ 1 [UInt8.ofNat (48 + n)] Tryd.underlying25 Tryd.underlying5 Tryd.underlying9 (fun j hj => ?_)
  obtain rfl : j = 0 := by simpa using hj
  have e : (([UInt8.ofNat (48 + n)] : List UInt8)[0]).toNat = 48 + n := by
    show (UInt8.ofNat (48 + n)).toNat = _
    rw [UInt8.toNat_ofNat']
    omega
  have hc : (w.alloc (.cells #[.int .u8 (48 + (n : Int))] 5)).cell? ⟨w.heap.size, 0, none⟩ = _ := (Whole.new w 5 #[.int .u8 (48 + (n : Int))]).cell 0
  rw [e]
  exact hc
/-- A number's digits, taken from its end. -/
def PR (M m : Nat) (t : List UInt8) : Prop := m ≤ M ∧ (0 < m → Lib.decDigits m ++ t = Lib.decDigits M) ∧ (m = 0 → t = if M = 0 then [] else Lib.decDigits M)
theorem PR.start (M : Nat) : PR M M [] := ⟨Nat.le_refl _, fun _ => List.append_nil _, fun h => by rw [if_pos h]⟩
theorem PR.step {M m : Nat} {t : List UInt8} (h : PR M m t) (hm : 0 < m) : PR M (m / 10) (UInt8.ofNat (48 + m % 10) :: t) := by
  obtain ⟨h1, h2, _⟩ := h
  have e := h2 hm
  refine ⟨by omega, fun h' => ?_, fun h' => ?_⟩
  · rw [← e]
    have hd : Lib.decDigits m = Lib.decDigits (m / 10) ++ [UInt8.ofNat (48 + m % 10)] := by
      conv => lhs; rw [Lib.decDigits, dif_neg (by omega)]
    rw [hd, List.append_assoc]
    rfl
  · rw [if_neg (by omega), ← e, Lib.decDigits_one (show m < 10 by omega), Nat.mod_eq_of_lt (show m < 10 by omega)]
    rfl
theorem PR.len {M m : Nat} {t : List UInt8} (h : PR M m t) (hM : M ≤ 9223372036854775807) : t.length ≤ 19 := by
  have hl := (dec_len_iff M 19 (by decide)).2 (by omega)
  obtain ⟨_, h2, h3⟩ := h
  by_cases hm : 0 < m
  · have e := congrArg List.length (h2 hm)
    rw [List.length_append] at e
    omega
  · rw [h3 (by omega)]
    split
    · exact Nat.zero_le _
    · exact hl
theorem num_neg : ∀ x, numB [45, 48] ≠ some x := fun x h => by
  obtain ⟨_, _, e⟩ := numB_some h
  have := dec_digit x.toNat 45 (by rw [e]; simp)
  exact absurd this.1 (by decide)
theorem num_zero : numB [48] = some 0 := numB_one 0 (by decide)
theorem num_is {M : Nat} (hM : M ≤ 9223372036854775807) {x : Int} (h : numB (Lib.decDigits M) = some x) : x = M := by
  obtain ⟨h0, h1, e⟩ := numB_some h
  have := dec_inj (by omega) (by omega) e
  omega

theorem cat_0 (s : List UInt8) : (((((str [106, 111, 98, 32, 102, 115, 109, 10] ++ str [115, 105, 122, 101]) ++ str [32]) ++ str s) ++ str [10]) ++ str [115, 117, 112, 112, 111, 114, 116, 32, 49, 10]) = str (linesB (LK 0 s)) := by
  simp only [str_append]
  refine congrArg str ?_
  show _ = linesB [(wJob, kname 3), (wSize, s), (wSup, [49])]
  simp [linesB, wJob, wSize, wSup, kname]
theorem cat_1 (s : List UInt8) : (((((str [106, 111, 98, 32, 102, 115, 109, 10] ++ str [115, 117, 112, 112, 111, 114, 116]) ++ str [32]) ++ str s) ++ str [10]) ++ str [115, 105, 122, 101, 32, 49, 10]) = str (linesB (LK 1 s)) := by
  simp only [str_append]
  refine congrArg str ?_
  show _ = linesB [(wJob, kname 3), (wSup, s), (wSize, [49])]
  simp [linesB, wJob, wSize, wSup, kname]
theorem cat_2 (s : List UInt8) : ((((((str [106, 111, 98, 32, 102, 115, 109, 10] ++ str [119, 111, 114, 107, 101, 114, 115]) ++ str [32]) ++ str s) ++ str [10]) ++ str [115, 105, 122, 101, 32, 49, 10]) ++ str [115, 117, 112, 112, 111, 114, 116, 32, 49, 10]) = str (linesB (LK 2 s)) := by
  simp only [str_append]
  refine congrArg str ?_
  show _ = linesB [(wJob, kname 3), (wWork, s), (wSize, [49]), (wSup, [49])]
  simp [linesB, wJob, wSize, wSup, wWork, kname]
theorem cat_3 (s : List UInt8) : ((((((str [106, 111, 98, 32, 102, 115, 109, 10] ++ str [99, 97, 112]) ++ str [32]) ++ str s) ++ str [10]) ++ str [115, 105, 122, 101, 32, 49, 10]) ++ str [115, 117, 112, 112, 111, 114, 116, 32, 49, 10]) = str (linesB (LK 3 s)) := by
  simp only [str_append]
  refine congrArg str ?_
  show _ = linesB [(wJob, kname 3), (wCap, s), (wSize, [49]), (wSup, [49])]
  simp [linesB, wJob, wSize, wSup, wCap, kname]
set_option maxRecDepth 100000 in
set_option maxHeartbeats 4000000 in
theorem numbers_0 (a n : Int) (ha0 : 0 ≤ a) (ha : a ≤ 255) (hq : Int.tmod a 4 = 0) (hn0 : -9223372036854775808 ≤ n) (hn : n ≤ 9223372036854775807) (w : World) (hg : GT w) :
    Calls Tryd.prog 3 #[.int .i64 n, .int .u8 a] w fun e w' => e = .returned (.bool true) ∧ Below w.heap.size w w' := by
  have AL := Lib.hid (alive_ok w hg)
  have HG := Lib.hid hg
  clear hg
  obtain ⟨M, hM⟩ : ∃ M : Nat, (if n < 0 then 0 else n.toNat) = M := ⟨_, rfl⟩
  have hc : (n < 0 ∧ M = 0) ∨ (n = (M : Int)) := by
    by_cases h : n < 0
    · rw [if_pos h] at hM
      exact Or.inl ⟨h, hM.symm⟩
    · rw [if_neg h] at hM
      exact Or.inr (by omega)
  have hMM : M ≤ 9223372036854775807 := by rcases hc with ⟨_, h⟩ | h <;> omega
  clear hM
  have HMM := Lib.hid hMM
  rcases hc with ⟨hneg, rfl⟩ | rfl
  · go_enter Tryd.func3, Tryd.ntmps3
    go_wp2_with fail
    refine AL.out.mono ?_; rintro e w1 ⟨rfl, hb1⟩
    have hb2 := (hb1.alloc hb1.size (.cells #[.string ⟨#[115, 105, 122, 101]⟩, .string ⟨#[115, 117, 112, 112, 111, 114, 116]⟩, .string ⟨#[119, 111, 114, 107, 101, 114, 115]⟩, .string ⟨#[99, 97, 112]⟩] 9)).alloc (by rw [World.size_alloc]; have := hb1.size; omega) (.cells #[.int .i64 8, .int .i64 1000000, .int .i64 64, .int .i64 1000000] 2)
    have hws := (Whole.new w1 9 #[.string ⟨#[115, 105, 122, 101]⟩, .string ⟨#[115, 117, 112, 112, 111, 114, 116]⟩, .string ⟨#[119, 111, 114, 107, 101, 114, 115]⟩, .string ⟨#[99, 97, 112]⟩]).alloc (.cells #[.int .i64 8, .int .i64 1000000, .int .i64 64, .int .i64 1000000] 2)
    have hms := Whole.new (w1.alloc (.cells #[.string ⟨#[115, 105, 122, 101]⟩, .string ⟨#[115, 117, 112, 112, 111, 114, 116]⟩, .string ⟨#[119, 111, 114, 107, 101, 114, 115]⟩, .string ⟨#[99, 97, 112]⟩] 9)) 2 #[.int .i64 8, .int .i64 1000000, .int .i64 64, .int .i64 1000000]
    rw [World.size_alloc] at hms
    have HB2 := Lib.hid hb2; have HWS := Lib.hid hws; have HMS := Lib.hid hms
    have hs1 := hb1.size
    clear hb1 hb2 hws hms
    go_wp2_with fail
    go_loopg [8, 9] 0 (fun g sv mv wr => ∃ (m : Nat) (t : List UInt8), m = g ∧ sv = .string (str t) ∧ mv = .int .i64 (m : Nat) ∧ PR 0 m t ∧ Below w.heap.size w wr ∧ Whole wr w1.heap.size 9 #[.string ⟨#[115, 105, 122, 101]⟩, .string ⟨#[115, 117, 112, 112, 111, 114, 116]⟩, .string ⟨#[119, 111, 114, 107, 101, 114, 115]⟩, .string ⟨#[99, 97, 112]⟩] ∧ Whole wr (w1.heap.size + 1) 2 #[.int .i64 8, .int .i64 1000000, .int .i64 64, .int .i64 1000000])
    case atStart => exact ⟨0, [], rfl, rfl, rfl, PR.start 0, HB2.out, HWS.out, HMS.out⟩
    case round =>
      obtain ⟨m, t, rfl, rfl, rfl, hpr, hbr, hws, hms⟩ := hrel
      have htl := hpr.len HMM.out
      have hmM : m ≤ 9223372036854775807 := Nat.le_trans hpr.1 HMM.out
      have HPR := Lib.hid hpr; have HBR := Lib.hid hbr; have HWS := Lib.hid hws; have HMS := Lib.hid hms
      have hbs := hbr.size; have hmlt := hms.lt
      have htz : (str t).size ≤ 19 := htl
      clear hpr hbr htl
      by_cases hm : 0 < m
      · have t1 : decide ((0 : Int) < m) = true := decide_eq_true (by omega)
        have t1' : decide (0 < m) = true := decide_eq_true hm
        have q1 : Int.tdiv (m : Int) 10 = ((m / 10 : Nat) : Int) := rfl
        have q2 : Int.tmod (m : Int) 10 = ((m % 10 : Nat) : Int) := rfl
        have hst := HPR.out.step hm
        have HM1 : Hid (m / 10 < m) := Lib.hid (by omega)
        have hd9 : m % 10 ≤ 9 := by omega
        have hp9 : m / 10 ≤ 9223372036854775807 := by omega
        have cv := conv1 wr (m % 10) hd9
        obtain ⟨d, hd⟩ : ∃ d, m % 10 = d := ⟨_, rfl⟩
        obtain ⟨p, hp⟩ : ∃ p, m / 10 = p := ⟨_, rfl⟩
        rw [hd] at q2 hst hd9 cv
        rw [hp] at q1 hst HM1 hp9
        obtain ⟨u, hu⟩ : ∃ u, UInt8.ofNat (48 + d) = u := ⟨_, rfl⟩
        rw [hu] at cv hst
        have hu1 : (str [u]).size = 1 := rfl
        have HST := Lib.hid hst
        have HBW := Lib.hid (HBR.out.alloc HBR.out.size (.cells #[.int .u8 (48 + (d : Int))] 5)); have HWW := Lib.hid (HWS.out.alloc (.cells #[.int .u8 (48 + (d : Int))] 5)); have HMW := Lib.hid (HMS.out.alloc (.cells #[.int .u8 (48 + (d : Int))] 5))
        clear hst hu hd hp hws hms
        go_wp2_with fail
        go_roundg p
        case rel => exact ⟨p, u :: t, rfl, by rw [str_append]; rfl, rfl, HST.out, HBW.out, HWW.out, HMW.out⟩
        case measure => exact HM1.out
      · obtain rfl : m = 0 := by omega
        have ht := HPR.out.2.2 rfl
        have cw : wr.cell? ⟨w1.heap.size, 0, none⟩ = some (.string ⟨#[115, 105, 122, 101]⟩) := hws.cell 0
        clear hms hws hm hmM
        rw [if_pos rfl] at ht
        subst ht
        have te : ((str ([] : List UInt8)).toList == []) = true := by rw [str_toList]; rfl
        obtain ⟨es, hes⟩ : ∃ s, str ([] : List UInt8) = s := ⟨_, rfl⟩
        rw [hes] at te htz ⊢
        clear hes
        have HP := Lib.hid (fun (X : ByteArray) (hX : X = str (linesB (LK 0 [45, 48]))) => parse_no (lk_fine (by decide) (by decide)) (lk_len (by decide) (by decide)) (lk_bad (by decide) (fun x hx => absurd hx (num_neg x))) hX wr (HG.out.below HBR.out (Nat.le_refl _)))
        go_wp2_with fail
        refine (HP.out _ (by kernel_rfl)).mono ?_
        rintro e w5 ⟨hb5, b, fs, rfl, hf⟩
        have hb6 := HBR.out.trans (hb5.mono HBR.out.size)
        have hb7 := hb6.alloc hb6.size (.cells #[.int .i64 0, .int .i64 0, .int .i64 0, .int .i64 0, .int .i64 0, .slice none 0 0] 29)
        have hf7 := hf.alloc (.cells #[.int .i64 0, .int .i64 0, .int .i64 0, .int .i64 0, .int .i64 0, .slice none 0 0] 29)
        have hm7 := (HMS.out.below hb5 HMS.out.lt).alloc (.cells #[.int .i64 0, .int .i64 0, .int .i64 0, .int .i64 0, .int .i64 0, .slice none 0 0] 29)
        have cm : (w5.alloc (.cells #[.int .i64 0, .int .i64 0, .int .i64 0, .int .i64 0, .int .i64 0, .slice none 0 0] 29)).cell? ⟨w1.heap.size + 1, 0, none⟩ = some (.int .i64 8) := hm7.cell 0
        have HCD := Lib.hid (code_hit b 12 _ (HG.out.below hb7 (Nat.le_refl _)).et (by rw [hf7.cell 0]; rfl))
        have HB7 := Lib.hid hb7; have HF7 := Lib.hid hf7
        have hlt := hm7.lt
        clear hb5 hb6 hb7 hf hf7 hm7
        go_wp2_with fail
        refine HCD.out.mono ?_; rintro e w8 ⟨rfl, hb8⟩
        have hb9 := HB7.out.trans (hb8.mono HB7.out.size)
        have HB9 := Lib.hid hb9
        have HAT := Lib.hid (at_hit b ((1 : Nat) : Int) w8 (HG.out.below hb9 (Nat.le_refl _)).et (by rw [(HF7.out.below hb8 HF7.out.lt).cell 1]; rfl))
        clear hb8 hb9
        go_wp2_with fail
        refine HAT.out.mono ?_; rintro e w10 ⟨rfl, hb10⟩
        have HB10 := Lib.hid (HB9.out.trans (hb10.mono HB9.out.size))
        clear hb10
        go_wp2_with fail
        go_ret
        exact ⟨rfl, HB10.out⟩
  · go_enter Tryd.func3, Tryd.ntmps3
    go_wp2_with fail
    refine AL.out.mono ?_; rintro e w1 ⟨rfl, hb1⟩
    have hb2 := (hb1.alloc hb1.size (.cells #[.string ⟨#[115, 105, 122, 101]⟩, .string ⟨#[115, 117, 112, 112, 111, 114, 116]⟩, .string ⟨#[119, 111, 114, 107, 101, 114, 115]⟩, .string ⟨#[99, 97, 112]⟩] 9)).alloc (by rw [World.size_alloc]; have := hb1.size; omega) (.cells #[.int .i64 8, .int .i64 1000000, .int .i64 64, .int .i64 1000000] 2)
    have hws := (Whole.new w1 9 #[.string ⟨#[115, 105, 122, 101]⟩, .string ⟨#[115, 117, 112, 112, 111, 114, 116]⟩, .string ⟨#[119, 111, 114, 107, 101, 114, 115]⟩, .string ⟨#[99, 97, 112]⟩]).alloc (.cells #[.int .i64 8, .int .i64 1000000, .int .i64 64, .int .i64 1000000] 2)
    have hms := Whole.new (w1.alloc (.cells #[.string ⟨#[115, 105, 122, 101]⟩, .string ⟨#[115, 117, 112, 112, 111, 114, 116]⟩, .string ⟨#[119, 111, 114, 107, 101, 114, 115]⟩, .string ⟨#[99, 97, 112]⟩] 9)) 2 #[.int .i64 8, .int .i64 1000000, .int .i64 64, .int .i64 1000000]
    rw [World.size_alloc] at hms
    have HB2 := Lib.hid hb2; have HWS := Lib.hid hws; have HMS := Lib.hid hms
    have hs1 := hb1.size
    clear hb1 hb2 hws hms
    go_wp2_with fail
    go_loopg [8, 9] M (fun g sv mv wr => ∃ (m : Nat) (t : List UInt8), m = g ∧ sv = .string (str t) ∧ mv = .int .i64 (m : Nat) ∧ PR M m t ∧ Below w.heap.size w wr ∧ Whole wr w1.heap.size 9 #[.string ⟨#[115, 105, 122, 101]⟩, .string ⟨#[115, 117, 112, 112, 111, 114, 116]⟩, .string ⟨#[119, 111, 114, 107, 101, 114, 115]⟩, .string ⟨#[99, 97, 112]⟩] ∧ Whole wr (w1.heap.size + 1) 2 #[.int .i64 8, .int .i64 1000000, .int .i64 64, .int .i64 1000000])
    case atStart => exact ⟨M, [], rfl, rfl, rfl, PR.start M, HB2.out, HWS.out, HMS.out⟩
    case round =>
      obtain ⟨m, t, rfl, rfl, rfl, hpr, hbr, hws, hms⟩ := hrel
      have htl := hpr.len HMM.out
      have hmM : m ≤ 9223372036854775807 := Nat.le_trans hpr.1 HMM.out
      have HPR := Lib.hid hpr; have HBR := Lib.hid hbr; have HWS := Lib.hid hws; have HMS := Lib.hid hms
      have hbs := hbr.size; have hmlt := hms.lt
      have htz : (str t).size ≤ 19 := htl
      clear hpr hbr htl
      by_cases hm : 0 < m
      · have t1 : decide ((0 : Int) < m) = true := decide_eq_true (by omega)
        have t1' : decide (0 < m) = true := decide_eq_true hm
        have q1 : Int.tdiv (m : Int) 10 = ((m / 10 : Nat) : Int) := rfl
        have q2 : Int.tmod (m : Int) 10 = ((m % 10 : Nat) : Int) := rfl
        have hst := HPR.out.step hm
        have HM1 : Hid (m / 10 < m) := Lib.hid (by omega)
        have hd9 : m % 10 ≤ 9 := by omega
        have hp9 : m / 10 ≤ 9223372036854775807 := by omega
        have cv := conv1 wr (m % 10) hd9
        obtain ⟨d, hd⟩ : ∃ d, m % 10 = d := ⟨_, rfl⟩
        obtain ⟨p, hp⟩ : ∃ p, m / 10 = p := ⟨_, rfl⟩
        rw [hd] at q2 hst hd9 cv
        rw [hp] at q1 hst HM1 hp9
        obtain ⟨u, hu⟩ : ∃ u, UInt8.ofNat (48 + d) = u := ⟨_, rfl⟩
        rw [hu] at cv hst
        have hu1 : (str [u]).size = 1 := rfl
        have HST := Lib.hid hst
        have HBW := Lib.hid (HBR.out.alloc HBR.out.size (.cells #[.int .u8 (48 + (d : Int))] 5)); have HWW := Lib.hid (HWS.out.alloc (.cells #[.int .u8 (48 + (d : Int))] 5)); have HMW := Lib.hid (HMS.out.alloc (.cells #[.int .u8 (48 + (d : Int))] 5))
        clear hst hu hd hp hws hms
        go_wp2_with fail
        go_roundg p
        case rel => exact ⟨p, u :: t, rfl, by rw [str_append]; rfl, rfl, HST.out, HBW.out, HWW.out, HMW.out⟩
        case measure => exact HM1.out
      · obtain rfl : m = 0 := by omega
        have ht := HPR.out.2.2 rfl
        have cw : wr.cell? ⟨w1.heap.size, 0, none⟩ = some (.string ⟨#[115, 105, 122, 101]⟩) := hws.cell 0
        clear hms hws hm hmM
        by_cases hM0 : M = 0
        · subst hM0
          rw [if_pos rfl] at ht
          subst ht
          have te : ((str ([] : List UInt8)).toList == []) = true := by rw [str_toList]; rfl
          obtain ⟨es, hes⟩ : ∃ s, str ([] : List UInt8) = s := ⟨_, rfl⟩
          rw [hes] at te htz ⊢
          clear hes
          have HP := Lib.hid (fun (X : ByteArray) (hX : X = str (linesB (LK 0 [48]))) => parse_no (lk_fine (by decide) (by decide)) (lk_len (by decide) (by decide)) (lk_bad (by decide) (fun x hx => by rw [num_zero] at hx; cases hx; exact fun h => absurd h.1 (by decide))) hX wr (HG.out.below HBR.out (Nat.le_refl _)))
          go_wp2_with fail
          refine (HP.out _ (by kernel_rfl)).mono ?_
          rintro e w5 ⟨hb5, b, fs, rfl, hf⟩
          have hb6 := HBR.out.trans (hb5.mono HBR.out.size)
          have hb7 := hb6.alloc hb6.size (.cells #[.int .i64 0, .int .i64 0, .int .i64 0, .int .i64 0, .int .i64 0, .slice none 0 0] 29)
          have hf7 := hf.alloc (.cells #[.int .i64 0, .int .i64 0, .int .i64 0, .int .i64 0, .int .i64 0, .slice none 0 0] 29)
          have hm7 := (HMS.out.below hb5 HMS.out.lt).alloc (.cells #[.int .i64 0, .int .i64 0, .int .i64 0, .int .i64 0, .int .i64 0, .slice none 0 0] 29)
          have cm : (w5.alloc (.cells #[.int .i64 0, .int .i64 0, .int .i64 0, .int .i64 0, .int .i64 0, .slice none 0 0] 29)).cell? ⟨w1.heap.size + 1, 0, none⟩ = some (.int .i64 8) := hm7.cell 0
          have HCD := Lib.hid (code_hit b 12 _ (HG.out.below hb7 (Nat.le_refl _)).et (by rw [hf7.cell 0]; rfl))
          have HB7 := Lib.hid hb7; have HF7 := Lib.hid hf7
          have hlt := hm7.lt
          clear hb5 hb6 hb7 hf hf7 hm7
          go_wp2_with fail
          refine HCD.out.mono ?_; rintro e w8 ⟨rfl, hb8⟩
          have hb9 := HB7.out.trans (hb8.mono HB7.out.size)
          have HB9 := Lib.hid hb9
          have HAT := Lib.hid (at_hit b ((1 : Nat) : Int) w8 (HG.out.below hb9 (Nat.le_refl _)).et (by rw [(HF7.out.below hb8 HF7.out.lt).cell 1]; rfl))
          clear hb8 hb9
          go_wp2_with fail
          refine HAT.out.mono ?_; rintro e w10 ⟨rfl, hb10⟩
          have HB10 := Lib.hid (HB9.out.trans (hb10.mono HB9.out.size))
          clear hb10
          go_wp2_with fail
          go_ret
          exact ⟨rfl, HB10.out⟩
        · rw [if_neg hM0] at ht
          have te : ((str t).toList == []) = false := by rw [str_toList, ht, beq_eq_false_iff_ne]; exact dec_ne M
          have hno : (10 : UInt8) ∉ t := by rw [ht]; exact no_end M
          have hlen : t.length ≤ 1000 := by have h : t.length ≤ 19 := htz; omega
          have tn : decide ((M : Int) < 0) = false := decide_eq_false (by omega)
          have tn1 : decide ((M : Int) < 1) = false := decide_eq_false (by omega)
          have tn2 : decide (M < 1) = false := decide_eq_false (by omega)
          by_cases hgd : M ≤ 8
          · have tm : decide ((8 : Int) < M) = false := decide_eq_false (by omega)
            have tm' : decide (8 < M) = false := decide_eq_false (by omega)
            have HP := Lib.hid (fun (X : ByteArray) (hX : X = str (linesB (LK 0 t))) => parse_yes (lk_fine (by decide) hno) (lk_len (by decide) hlen) (lk_good (by decide) (n := (M : Int)) (by rw [ht]; exact numB_dec (by omega)) (by omega) (by show (M : Int) ≤ 8; omega)) hX wr (HG.out.below HBR.out (Nat.le_refl _)))
            clear ht hno hlen hM0 hgd
            go_wp2_with fail
            refine (HP.out _ (cat_0 t)).mono ?_
            rintro e w5 ⟨hb5, he⟩
            obtain rfl := (show e = .returned (.tuple #[.agg #[.int .i64 3, .int .i64 (M : Int), .int .i64 1, .int .i64 1, .int .i64 1000000, .slice none 0 0], .nilIface]) from he)
            clear he
            have hb6 := HBR.out.trans (hb5.mono HBR.out.size)
            have hb7 := hb6.alloc hb6.size (.cells #[.int .i64 3, .int .i64 (M : Int), .int .i64 1, .int .i64 1, .int .i64 1000000, .slice none 0 0] 29)
            have hm7 := (HMS.out.below hb5 HMS.out.lt).alloc (.cells #[.int .i64 3, .int .i64 (M : Int), .int .i64 1, .int .i64 1, .int .i64 1000000, .slice none 0 0] 29)
            have cm : (w5.alloc (.cells #[.int .i64 3, .int .i64 (M : Int), .int .i64 1, .int .i64 1, .int .i64 1000000, .slice none 0 0] 29)).cell? ⟨w1.heap.size + 1, 0, none⟩ = some (.int .i64 8) := hm7.cell 0
            have HB7 := Lib.hid hb7
            have HB8 := Lib.hid (hb7.alloc hb7.size (.cells #[.int .i64 (M : Int), .int .i64 1, .int .i64 1, .int .i64 1000000] 3))
            have hlt := hm7.lt
            clear hb5 hb6 hb7 hm7
            go_wp2_with fail
            go_ret
            exact ⟨rfl, HB8.out⟩
          · have tm : decide ((8 : Int) < M) = true := decide_eq_true (by omega)
            have tm' : decide (8 < M) = true := decide_eq_true (by omega)
            have HP := Lib.hid (fun (X : ByteArray) (hX : X = str (linesB (LK 0 t))) => parse_no (lk_fine (by decide) hno) (lk_len (by decide) hlen) (lk_bad (by decide) (fun x hx => by rw [ht] at hx; have := num_is HMM.out hx; intro h; have h2 : x ≤ 8 := h.2; omega)) hX wr (HG.out.below HBR.out (Nat.le_refl _)))
            clear ht hno hlen hM0 hgd
            go_wp2_with fail
            refine (HP.out _ (cat_0 t)).mono ?_
            rintro e w5 ⟨hb5, b, fs, rfl, hf⟩
            have hb6 := HBR.out.trans (hb5.mono HBR.out.size)
            have hb7 := hb6.alloc hb6.size (.cells #[.int .i64 0, .int .i64 0, .int .i64 0, .int .i64 0, .int .i64 0, .slice none 0 0] 29)
            have hf7 := hf.alloc (.cells #[.int .i64 0, .int .i64 0, .int .i64 0, .int .i64 0, .int .i64 0, .slice none 0 0] 29)
            have hm7 := (HMS.out.below hb5 HMS.out.lt).alloc (.cells #[.int .i64 0, .int .i64 0, .int .i64 0, .int .i64 0, .int .i64 0, .slice none 0 0] 29)
            have cm : (w5.alloc (.cells #[.int .i64 0, .int .i64 0, .int .i64 0, .int .i64 0, .int .i64 0, .slice none 0 0] 29)).cell? ⟨w1.heap.size + 1, 0, none⟩ = some (.int .i64 8) := hm7.cell 0
            have HCD := Lib.hid (code_hit b 12 _ (HG.out.below hb7 (Nat.le_refl _)).et (by rw [hf7.cell 0]; rfl))
            have HB7 := Lib.hid hb7; have HF7 := Lib.hid hf7
            have hlt := hm7.lt
            clear hb5 hb6 hb7 hf hf7 hm7
            go_wp2_with fail
            refine HCD.out.mono ?_; rintro e w8 ⟨rfl, hb8⟩
            have hb9 := HB7.out.trans (hb8.mono HB7.out.size)
            have HB9 := Lib.hid hb9
            have HAT := Lib.hid (at_hit b ((1 : Nat) : Int) w8 (HG.out.below hb9 (Nat.le_refl _)).et (by rw [(HF7.out.below hb8 HF7.out.lt).cell 1]; rfl))
            clear hb8 hb9
            go_wp2_with fail
            refine HAT.out.mono ?_; rintro e w10 ⟨rfl, hb10⟩
            have HB10 := Lib.hid (HB9.out.trans (hb10.mono HB9.out.size))
            clear hb10
            go_wp2_with fail
            go_ret
            exact ⟨rfl, HB10.out⟩
set_option maxRecDepth 100000 in
set_option maxHeartbeats 4000000 in
theorem numbers_1 (a n : Int) (ha0 : 0 ≤ a) (ha : a ≤ 255) (hq : Int.tmod a 4 = 1) (hn0 : -9223372036854775808 ≤ n) (hn : n ≤ 9223372036854775807) (w : World) (hg : GT w) :
    Calls Tryd.prog 3 #[.int .i64 n, .int .u8 a] w fun e w' => e = .returned (.bool true) ∧ Below w.heap.size w w' := by
  have AL := Lib.hid (alive_ok w hg)
  have HG := Lib.hid hg
  clear hg
  obtain ⟨M, hM⟩ : ∃ M : Nat, (if n < 0 then 0 else n.toNat) = M := ⟨_, rfl⟩
  have hc : (n < 0 ∧ M = 0) ∨ (n = (M : Int)) := by
    by_cases h : n < 0
    · rw [if_pos h] at hM
      exact Or.inl ⟨h, hM.symm⟩
    · rw [if_neg h] at hM
      exact Or.inr (by omega)
  have hMM : M ≤ 9223372036854775807 := by rcases hc with ⟨_, h⟩ | h <;> omega
  clear hM
  have HMM := Lib.hid hMM
  rcases hc with ⟨hneg, rfl⟩ | rfl
  · go_enter Tryd.func3, Tryd.ntmps3
    go_wp2_with fail
    refine AL.out.mono ?_; rintro e w1 ⟨rfl, hb1⟩
    have hb2 := (hb1.alloc hb1.size (.cells #[.string ⟨#[115, 105, 122, 101]⟩, .string ⟨#[115, 117, 112, 112, 111, 114, 116]⟩, .string ⟨#[119, 111, 114, 107, 101, 114, 115]⟩, .string ⟨#[99, 97, 112]⟩] 9)).alloc (by rw [World.size_alloc]; have := hb1.size; omega) (.cells #[.int .i64 8, .int .i64 1000000, .int .i64 64, .int .i64 1000000] 2)
    have hws := (Whole.new w1 9 #[.string ⟨#[115, 105, 122, 101]⟩, .string ⟨#[115, 117, 112, 112, 111, 114, 116]⟩, .string ⟨#[119, 111, 114, 107, 101, 114, 115]⟩, .string ⟨#[99, 97, 112]⟩]).alloc (.cells #[.int .i64 8, .int .i64 1000000, .int .i64 64, .int .i64 1000000] 2)
    have hms := Whole.new (w1.alloc (.cells #[.string ⟨#[115, 105, 122, 101]⟩, .string ⟨#[115, 117, 112, 112, 111, 114, 116]⟩, .string ⟨#[119, 111, 114, 107, 101, 114, 115]⟩, .string ⟨#[99, 97, 112]⟩] 9)) 2 #[.int .i64 8, .int .i64 1000000, .int .i64 64, .int .i64 1000000]
    rw [World.size_alloc] at hms
    have HB2 := Lib.hid hb2; have HWS := Lib.hid hws; have HMS := Lib.hid hms
    have hs1 := hb1.size
    clear hb1 hb2 hws hms
    go_wp2_with fail
    go_loopg [8, 9] 0 (fun g sv mv wr => ∃ (m : Nat) (t : List UInt8), m = g ∧ sv = .string (str t) ∧ mv = .int .i64 (m : Nat) ∧ PR 0 m t ∧ Below w.heap.size w wr ∧ Whole wr w1.heap.size 9 #[.string ⟨#[115, 105, 122, 101]⟩, .string ⟨#[115, 117, 112, 112, 111, 114, 116]⟩, .string ⟨#[119, 111, 114, 107, 101, 114, 115]⟩, .string ⟨#[99, 97, 112]⟩] ∧ Whole wr (w1.heap.size + 1) 2 #[.int .i64 8, .int .i64 1000000, .int .i64 64, .int .i64 1000000])
    case atStart => exact ⟨0, [], rfl, rfl, rfl, PR.start 0, HB2.out, HWS.out, HMS.out⟩
    case round =>
      obtain ⟨m, t, rfl, rfl, rfl, hpr, hbr, hws, hms⟩ := hrel
      have htl := hpr.len HMM.out
      have hmM : m ≤ 9223372036854775807 := Nat.le_trans hpr.1 HMM.out
      have HPR := Lib.hid hpr; have HBR := Lib.hid hbr; have HWS := Lib.hid hws; have HMS := Lib.hid hms
      have hbs := hbr.size; have hmlt := hms.lt
      have htz : (str t).size ≤ 19 := htl
      clear hpr hbr htl
      by_cases hm : 0 < m
      · have t1 : decide ((0 : Int) < m) = true := decide_eq_true (by omega)
        have t1' : decide (0 < m) = true := decide_eq_true hm
        have q1 : Int.tdiv (m : Int) 10 = ((m / 10 : Nat) : Int) := rfl
        have q2 : Int.tmod (m : Int) 10 = ((m % 10 : Nat) : Int) := rfl
        have hst := HPR.out.step hm
        have HM1 : Hid (m / 10 < m) := Lib.hid (by omega)
        have hd9 : m % 10 ≤ 9 := by omega
        have hp9 : m / 10 ≤ 9223372036854775807 := by omega
        have cv := conv1 wr (m % 10) hd9
        obtain ⟨d, hd⟩ : ∃ d, m % 10 = d := ⟨_, rfl⟩
        obtain ⟨p, hp⟩ : ∃ p, m / 10 = p := ⟨_, rfl⟩
        rw [hd] at q2 hst hd9 cv
        rw [hp] at q1 hst HM1 hp9
        obtain ⟨u, hu⟩ : ∃ u, UInt8.ofNat (48 + d) = u := ⟨_, rfl⟩
        rw [hu] at cv hst
        have hu1 : (str [u]).size = 1 := rfl
        have HST := Lib.hid hst
        have HBW := Lib.hid (HBR.out.alloc HBR.out.size (.cells #[.int .u8 (48 + (d : Int))] 5)); have HWW := Lib.hid (HWS.out.alloc (.cells #[.int .u8 (48 + (d : Int))] 5)); have HMW := Lib.hid (HMS.out.alloc (.cells #[.int .u8 (48 + (d : Int))] 5))
        clear hst hu hd hp hws hms
        go_wp2_with fail
        go_roundg p
        case rel => exact ⟨p, u :: t, rfl, by rw [str_append]; rfl, rfl, HST.out, HBW.out, HWW.out, HMW.out⟩
        case measure => exact HM1.out
      · obtain rfl : m = 0 := by omega
        have ht := HPR.out.2.2 rfl
        have cw : wr.cell? ⟨w1.heap.size, 1, none⟩ = some (.string ⟨#[115, 117, 112, 112, 111, 114, 116]⟩) := hws.cell 1
        clear hms hws hm hmM
        rw [if_pos rfl] at ht
        subst ht
        have te : ((str ([] : List UInt8)).toList == []) = true := by rw [str_toList]; rfl
        obtain ⟨es, hes⟩ : ∃ s, str ([] : List UInt8) = s := ⟨_, rfl⟩
        rw [hes] at te htz ⊢
        clear hes
        have HP := Lib.hid (fun (X : ByteArray) (hX : X = str (linesB (LK 1 [45, 48]))) => parse_no (lk_fine (by decide) (by decide)) (lk_len (by decide) (by decide)) (lk_bad (by decide) (fun x hx => absurd hx (num_neg x))) hX wr (HG.out.below HBR.out (Nat.le_refl _)))
        go_wp2_with fail
        refine (HP.out _ (by kernel_rfl)).mono ?_
        rintro e w5 ⟨hb5, b, fs, rfl, hf⟩
        have hb6 := HBR.out.trans (hb5.mono HBR.out.size)
        have hb7 := hb6.alloc hb6.size (.cells #[.int .i64 0, .int .i64 0, .int .i64 0, .int .i64 0, .int .i64 0, .slice none 0 0] 29)
        have hf7 := hf.alloc (.cells #[.int .i64 0, .int .i64 0, .int .i64 0, .int .i64 0, .int .i64 0, .slice none 0 0] 29)
        have hm7 := (HMS.out.below hb5 HMS.out.lt).alloc (.cells #[.int .i64 0, .int .i64 0, .int .i64 0, .int .i64 0, .int .i64 0, .slice none 0 0] 29)
        have cm : (w5.alloc (.cells #[.int .i64 0, .int .i64 0, .int .i64 0, .int .i64 0, .int .i64 0, .slice none 0 0] 29)).cell? ⟨w1.heap.size + 1, 1, none⟩ = some (.int .i64 1000000) := hm7.cell 1
        have HCD := Lib.hid (code_hit b 12 _ (HG.out.below hb7 (Nat.le_refl _)).et (by rw [hf7.cell 0]; rfl))
        have HB7 := Lib.hid hb7; have HF7 := Lib.hid hf7
        have hlt := hm7.lt
        clear hb5 hb6 hb7 hf hf7 hm7
        go_wp2_with fail
        refine HCD.out.mono ?_; rintro e w8 ⟨rfl, hb8⟩
        have hb9 := HB7.out.trans (hb8.mono HB7.out.size)
        have HB9 := Lib.hid hb9
        have HAT := Lib.hid (at_hit b ((1 : Nat) : Int) w8 (HG.out.below hb9 (Nat.le_refl _)).et (by rw [(HF7.out.below hb8 HF7.out.lt).cell 1]; rfl))
        clear hb8 hb9
        go_wp2_with fail
        refine HAT.out.mono ?_; rintro e w10 ⟨rfl, hb10⟩
        have HB10 := Lib.hid (HB9.out.trans (hb10.mono HB9.out.size))
        clear hb10
        go_wp2_with fail
        go_ret
        exact ⟨rfl, HB10.out⟩
  · go_enter Tryd.func3, Tryd.ntmps3
    go_wp2_with fail
    refine AL.out.mono ?_; rintro e w1 ⟨rfl, hb1⟩
    have hb2 := (hb1.alloc hb1.size (.cells #[.string ⟨#[115, 105, 122, 101]⟩, .string ⟨#[115, 117, 112, 112, 111, 114, 116]⟩, .string ⟨#[119, 111, 114, 107, 101, 114, 115]⟩, .string ⟨#[99, 97, 112]⟩] 9)).alloc (by rw [World.size_alloc]; have := hb1.size; omega) (.cells #[.int .i64 8, .int .i64 1000000, .int .i64 64, .int .i64 1000000] 2)
    have hws := (Whole.new w1 9 #[.string ⟨#[115, 105, 122, 101]⟩, .string ⟨#[115, 117, 112, 112, 111, 114, 116]⟩, .string ⟨#[119, 111, 114, 107, 101, 114, 115]⟩, .string ⟨#[99, 97, 112]⟩]).alloc (.cells #[.int .i64 8, .int .i64 1000000, .int .i64 64, .int .i64 1000000] 2)
    have hms := Whole.new (w1.alloc (.cells #[.string ⟨#[115, 105, 122, 101]⟩, .string ⟨#[115, 117, 112, 112, 111, 114, 116]⟩, .string ⟨#[119, 111, 114, 107, 101, 114, 115]⟩, .string ⟨#[99, 97, 112]⟩] 9)) 2 #[.int .i64 8, .int .i64 1000000, .int .i64 64, .int .i64 1000000]
    rw [World.size_alloc] at hms
    have HB2 := Lib.hid hb2; have HWS := Lib.hid hws; have HMS := Lib.hid hms
    have hs1 := hb1.size
    clear hb1 hb2 hws hms
    go_wp2_with fail
    go_loopg [8, 9] M (fun g sv mv wr => ∃ (m : Nat) (t : List UInt8), m = g ∧ sv = .string (str t) ∧ mv = .int .i64 (m : Nat) ∧ PR M m t ∧ Below w.heap.size w wr ∧ Whole wr w1.heap.size 9 #[.string ⟨#[115, 105, 122, 101]⟩, .string ⟨#[115, 117, 112, 112, 111, 114, 116]⟩, .string ⟨#[119, 111, 114, 107, 101, 114, 115]⟩, .string ⟨#[99, 97, 112]⟩] ∧ Whole wr (w1.heap.size + 1) 2 #[.int .i64 8, .int .i64 1000000, .int .i64 64, .int .i64 1000000])
    case atStart => exact ⟨M, [], rfl, rfl, rfl, PR.start M, HB2.out, HWS.out, HMS.out⟩
    case round =>
      obtain ⟨m, t, rfl, rfl, rfl, hpr, hbr, hws, hms⟩ := hrel
      have htl := hpr.len HMM.out
      have hmM : m ≤ 9223372036854775807 := Nat.le_trans hpr.1 HMM.out
      have HPR := Lib.hid hpr; have HBR := Lib.hid hbr; have HWS := Lib.hid hws; have HMS := Lib.hid hms
      have hbs := hbr.size; have hmlt := hms.lt
      have htz : (str t).size ≤ 19 := htl
      clear hpr hbr htl
      by_cases hm : 0 < m
      · have t1 : decide ((0 : Int) < m) = true := decide_eq_true (by omega)
        have t1' : decide (0 < m) = true := decide_eq_true hm
        have q1 : Int.tdiv (m : Int) 10 = ((m / 10 : Nat) : Int) := rfl
        have q2 : Int.tmod (m : Int) 10 = ((m % 10 : Nat) : Int) := rfl
        have hst := HPR.out.step hm
        have HM1 : Hid (m / 10 < m) := Lib.hid (by omega)
        have hd9 : m % 10 ≤ 9 := by omega
        have hp9 : m / 10 ≤ 9223372036854775807 := by omega
        have cv := conv1 wr (m % 10) hd9
        obtain ⟨d, hd⟩ : ∃ d, m % 10 = d := ⟨_, rfl⟩
        obtain ⟨p, hp⟩ : ∃ p, m / 10 = p := ⟨_, rfl⟩
        rw [hd] at q2 hst hd9 cv
        rw [hp] at q1 hst HM1 hp9
        obtain ⟨u, hu⟩ : ∃ u, UInt8.ofNat (48 + d) = u := ⟨_, rfl⟩
        rw [hu] at cv hst
        have hu1 : (str [u]).size = 1 := rfl
        have HST := Lib.hid hst
        have HBW := Lib.hid (HBR.out.alloc HBR.out.size (.cells #[.int .u8 (48 + (d : Int))] 5)); have HWW := Lib.hid (HWS.out.alloc (.cells #[.int .u8 (48 + (d : Int))] 5)); have HMW := Lib.hid (HMS.out.alloc (.cells #[.int .u8 (48 + (d : Int))] 5))
        clear hst hu hd hp hws hms
        go_wp2_with fail
        go_roundg p
        case rel => exact ⟨p, u :: t, rfl, by rw [str_append]; rfl, rfl, HST.out, HBW.out, HWW.out, HMW.out⟩
        case measure => exact HM1.out
      · obtain rfl : m = 0 := by omega
        have ht := HPR.out.2.2 rfl
        have cw : wr.cell? ⟨w1.heap.size, 1, none⟩ = some (.string ⟨#[115, 117, 112, 112, 111, 114, 116]⟩) := hws.cell 1
        clear hms hws hm hmM
        by_cases hM0 : M = 0
        · subst hM0
          rw [if_pos rfl] at ht
          subst ht
          have te : ((str ([] : List UInt8)).toList == []) = true := by rw [str_toList]; rfl
          obtain ⟨es, hes⟩ : ∃ s, str ([] : List UInt8) = s := ⟨_, rfl⟩
          rw [hes] at te htz ⊢
          clear hes
          have HP := Lib.hid (fun (X : ByteArray) (hX : X = str (linesB (LK 1 [48]))) => parse_no (lk_fine (by decide) (by decide)) (lk_len (by decide) (by decide)) (lk_bad (by decide) (fun x hx => by rw [num_zero] at hx; cases hx; exact fun h => absurd h.1 (by decide))) hX wr (HG.out.below HBR.out (Nat.le_refl _)))
          go_wp2_with fail
          refine (HP.out _ (by kernel_rfl)).mono ?_
          rintro e w5 ⟨hb5, b, fs, rfl, hf⟩
          have hb6 := HBR.out.trans (hb5.mono HBR.out.size)
          have hb7 := hb6.alloc hb6.size (.cells #[.int .i64 0, .int .i64 0, .int .i64 0, .int .i64 0, .int .i64 0, .slice none 0 0] 29)
          have hf7 := hf.alloc (.cells #[.int .i64 0, .int .i64 0, .int .i64 0, .int .i64 0, .int .i64 0, .slice none 0 0] 29)
          have hm7 := (HMS.out.below hb5 HMS.out.lt).alloc (.cells #[.int .i64 0, .int .i64 0, .int .i64 0, .int .i64 0, .int .i64 0, .slice none 0 0] 29)
          have cm : (w5.alloc (.cells #[.int .i64 0, .int .i64 0, .int .i64 0, .int .i64 0, .int .i64 0, .slice none 0 0] 29)).cell? ⟨w1.heap.size + 1, 1, none⟩ = some (.int .i64 1000000) := hm7.cell 1
          have HCD := Lib.hid (code_hit b 12 _ (HG.out.below hb7 (Nat.le_refl _)).et (by rw [hf7.cell 0]; rfl))
          have HB7 := Lib.hid hb7; have HF7 := Lib.hid hf7
          have hlt := hm7.lt
          clear hb5 hb6 hb7 hf hf7 hm7
          go_wp2_with fail
          refine HCD.out.mono ?_; rintro e w8 ⟨rfl, hb8⟩
          have hb9 := HB7.out.trans (hb8.mono HB7.out.size)
          have HB9 := Lib.hid hb9
          have HAT := Lib.hid (at_hit b ((1 : Nat) : Int) w8 (HG.out.below hb9 (Nat.le_refl _)).et (by rw [(HF7.out.below hb8 HF7.out.lt).cell 1]; rfl))
          clear hb8 hb9
          go_wp2_with fail
          refine HAT.out.mono ?_; rintro e w10 ⟨rfl, hb10⟩
          have HB10 := Lib.hid (HB9.out.trans (hb10.mono HB9.out.size))
          clear hb10
          go_wp2_with fail
          go_ret
          exact ⟨rfl, HB10.out⟩
        · rw [if_neg hM0] at ht
          have te : ((str t).toList == []) = false := by rw [str_toList, ht, beq_eq_false_iff_ne]; exact dec_ne M
          have hno : (10 : UInt8) ∉ t := by rw [ht]; exact no_end M
          have hlen : t.length ≤ 1000 := by have h : t.length ≤ 19 := htz; omega
          have tn : decide ((M : Int) < 0) = false := decide_eq_false (by omega)
          have tn1 : decide ((M : Int) < 1) = false := decide_eq_false (by omega)
          have tn2 : decide (M < 1) = false := decide_eq_false (by omega)
          by_cases hgd : M ≤ 1000000
          · have tm : decide ((1000000 : Int) < M) = false := decide_eq_false (by omega)
            have tm' : decide (1000000 < M) = false := decide_eq_false (by omega)
            have HP := Lib.hid (fun (X : ByteArray) (hX : X = str (linesB (LK 1 t))) => parse_yes (lk_fine (by decide) hno) (lk_len (by decide) hlen) (lk_good (by decide) (n := (M : Int)) (by rw [ht]; exact numB_dec (by omega)) (by omega) (by show (M : Int) ≤ 1000000; omega)) hX wr (HG.out.below HBR.out (Nat.le_refl _)))
            clear ht hno hlen hM0 hgd
            go_wp2_with fail
            refine (HP.out _ (cat_1 t)).mono ?_
            rintro e w5 ⟨hb5, he⟩
            obtain rfl := (show e = .returned (.tuple #[.agg #[.int .i64 3, .int .i64 1, .int .i64 (M : Int), .int .i64 1, .int .i64 1000000, .slice none 0 0], .nilIface]) from he)
            clear he
            have hb6 := HBR.out.trans (hb5.mono HBR.out.size)
            have hb7 := hb6.alloc hb6.size (.cells #[.int .i64 3, .int .i64 1, .int .i64 (M : Int), .int .i64 1, .int .i64 1000000, .slice none 0 0] 29)
            have hm7 := (HMS.out.below hb5 HMS.out.lt).alloc (.cells #[.int .i64 3, .int .i64 1, .int .i64 (M : Int), .int .i64 1, .int .i64 1000000, .slice none 0 0] 29)
            have cm : (w5.alloc (.cells #[.int .i64 3, .int .i64 1, .int .i64 (M : Int), .int .i64 1, .int .i64 1000000, .slice none 0 0] 29)).cell? ⟨w1.heap.size + 1, 1, none⟩ = some (.int .i64 1000000) := hm7.cell 1
            have HB7 := Lib.hid hb7
            have HB8 := Lib.hid (hb7.alloc hb7.size (.cells #[.int .i64 1, .int .i64 (M : Int), .int .i64 1, .int .i64 1000000] 3))
            have hlt := hm7.lt
            clear hb5 hb6 hb7 hm7
            go_wp2_with fail
            go_ret
            exact ⟨rfl, HB8.out⟩
          · have tm : decide ((1000000 : Int) < M) = true := decide_eq_true (by omega)
            have tm' : decide (1000000 < M) = true := decide_eq_true (by omega)
            have HP := Lib.hid (fun (X : ByteArray) (hX : X = str (linesB (LK 1 t))) => parse_no (lk_fine (by decide) hno) (lk_len (by decide) hlen) (lk_bad (by decide) (fun x hx => by rw [ht] at hx; have := num_is HMM.out hx; intro h; have h2 : x ≤ 1000000 := h.2; omega)) hX wr (HG.out.below HBR.out (Nat.le_refl _)))
            clear ht hno hlen hM0 hgd
            go_wp2_with fail
            refine (HP.out _ (cat_1 t)).mono ?_
            rintro e w5 ⟨hb5, b, fs, rfl, hf⟩
            have hb6 := HBR.out.trans (hb5.mono HBR.out.size)
            have hb7 := hb6.alloc hb6.size (.cells #[.int .i64 0, .int .i64 0, .int .i64 0, .int .i64 0, .int .i64 0, .slice none 0 0] 29)
            have hf7 := hf.alloc (.cells #[.int .i64 0, .int .i64 0, .int .i64 0, .int .i64 0, .int .i64 0, .slice none 0 0] 29)
            have hm7 := (HMS.out.below hb5 HMS.out.lt).alloc (.cells #[.int .i64 0, .int .i64 0, .int .i64 0, .int .i64 0, .int .i64 0, .slice none 0 0] 29)
            have cm : (w5.alloc (.cells #[.int .i64 0, .int .i64 0, .int .i64 0, .int .i64 0, .int .i64 0, .slice none 0 0] 29)).cell? ⟨w1.heap.size + 1, 1, none⟩ = some (.int .i64 1000000) := hm7.cell 1
            have HCD := Lib.hid (code_hit b 12 _ (HG.out.below hb7 (Nat.le_refl _)).et (by rw [hf7.cell 0]; rfl))
            have HB7 := Lib.hid hb7; have HF7 := Lib.hid hf7
            have hlt := hm7.lt
            clear hb5 hb6 hb7 hf hf7 hm7
            go_wp2_with fail
            refine HCD.out.mono ?_; rintro e w8 ⟨rfl, hb8⟩
            have hb9 := HB7.out.trans (hb8.mono HB7.out.size)
            have HB9 := Lib.hid hb9
            have HAT := Lib.hid (at_hit b ((1 : Nat) : Int) w8 (HG.out.below hb9 (Nat.le_refl _)).et (by rw [(HF7.out.below hb8 HF7.out.lt).cell 1]; rfl))
            clear hb8 hb9
            go_wp2_with fail
            refine HAT.out.mono ?_; rintro e w10 ⟨rfl, hb10⟩
            have HB10 := Lib.hid (HB9.out.trans (hb10.mono HB9.out.size))
            clear hb10
            go_wp2_with fail
            go_ret
            exact ⟨rfl, HB10.out⟩
set_option maxRecDepth 100000 in
set_option maxHeartbeats 4000000 in
theorem numbers_2 (a n : Int) (ha0 : 0 ≤ a) (ha : a ≤ 255) (hq : Int.tmod a 4 = 2) (hn0 : -9223372036854775808 ≤ n) (hn : n ≤ 9223372036854775807) (w : World) (hg : GT w) :
    Calls Tryd.prog 3 #[.int .i64 n, .int .u8 a] w fun e w' => e = .returned (.bool true) ∧ Below w.heap.size w w' := by
  have AL := Lib.hid (alive_ok w hg)
  have HG := Lib.hid hg
  clear hg
  obtain ⟨M, hM⟩ : ∃ M : Nat, (if n < 0 then 0 else n.toNat) = M := ⟨_, rfl⟩
  have hc : (n < 0 ∧ M = 0) ∨ (n = (M : Int)) := by
    by_cases h : n < 0
    · rw [if_pos h] at hM
      exact Or.inl ⟨h, hM.symm⟩
    · rw [if_neg h] at hM
      exact Or.inr (by omega)
  have hMM : M ≤ 9223372036854775807 := by rcases hc with ⟨_, h⟩ | h <;> omega
  clear hM
  have HMM := Lib.hid hMM
  rcases hc with ⟨hneg, rfl⟩ | rfl
  · go_enter Tryd.func3, Tryd.ntmps3
    go_wp2_with fail
    refine AL.out.mono ?_; rintro e w1 ⟨rfl, hb1⟩
    have hb2 := (hb1.alloc hb1.size (.cells #[.string ⟨#[115, 105, 122, 101]⟩, .string ⟨#[115, 117, 112, 112, 111, 114, 116]⟩, .string ⟨#[119, 111, 114, 107, 101, 114, 115]⟩, .string ⟨#[99, 97, 112]⟩] 9)).alloc (by rw [World.size_alloc]; have := hb1.size; omega) (.cells #[.int .i64 8, .int .i64 1000000, .int .i64 64, .int .i64 1000000] 2)
    have hws := (Whole.new w1 9 #[.string ⟨#[115, 105, 122, 101]⟩, .string ⟨#[115, 117, 112, 112, 111, 114, 116]⟩, .string ⟨#[119, 111, 114, 107, 101, 114, 115]⟩, .string ⟨#[99, 97, 112]⟩]).alloc (.cells #[.int .i64 8, .int .i64 1000000, .int .i64 64, .int .i64 1000000] 2)
    have hms := Whole.new (w1.alloc (.cells #[.string ⟨#[115, 105, 122, 101]⟩, .string ⟨#[115, 117, 112, 112, 111, 114, 116]⟩, .string ⟨#[119, 111, 114, 107, 101, 114, 115]⟩, .string ⟨#[99, 97, 112]⟩] 9)) 2 #[.int .i64 8, .int .i64 1000000, .int .i64 64, .int .i64 1000000]
    rw [World.size_alloc] at hms
    have HB2 := Lib.hid hb2; have HWS := Lib.hid hws; have HMS := Lib.hid hms
    have hs1 := hb1.size
    clear hb1 hb2 hws hms
    go_wp2_with fail
    go_loopg [8, 9] 0 (fun g sv mv wr => ∃ (m : Nat) (t : List UInt8), m = g ∧ sv = .string (str t) ∧ mv = .int .i64 (m : Nat) ∧ PR 0 m t ∧ Below w.heap.size w wr ∧ Whole wr w1.heap.size 9 #[.string ⟨#[115, 105, 122, 101]⟩, .string ⟨#[115, 117, 112, 112, 111, 114, 116]⟩, .string ⟨#[119, 111, 114, 107, 101, 114, 115]⟩, .string ⟨#[99, 97, 112]⟩] ∧ Whole wr (w1.heap.size + 1) 2 #[.int .i64 8, .int .i64 1000000, .int .i64 64, .int .i64 1000000])
    case atStart => exact ⟨0, [], rfl, rfl, rfl, PR.start 0, HB2.out, HWS.out, HMS.out⟩
    case round =>
      obtain ⟨m, t, rfl, rfl, rfl, hpr, hbr, hws, hms⟩ := hrel
      have htl := hpr.len HMM.out
      have hmM : m ≤ 9223372036854775807 := Nat.le_trans hpr.1 HMM.out
      have HPR := Lib.hid hpr; have HBR := Lib.hid hbr; have HWS := Lib.hid hws; have HMS := Lib.hid hms
      have hbs := hbr.size; have hmlt := hms.lt
      have htz : (str t).size ≤ 19 := htl
      clear hpr hbr htl
      by_cases hm : 0 < m
      · have t1 : decide ((0 : Int) < m) = true := decide_eq_true (by omega)
        have t1' : decide (0 < m) = true := decide_eq_true hm
        have q1 : Int.tdiv (m : Int) 10 = ((m / 10 : Nat) : Int) := rfl
        have q2 : Int.tmod (m : Int) 10 = ((m % 10 : Nat) : Int) := rfl
        have hst := HPR.out.step hm
        have HM1 : Hid (m / 10 < m) := Lib.hid (by omega)
        have hd9 : m % 10 ≤ 9 := by omega
        have hp9 : m / 10 ≤ 9223372036854775807 := by omega
        have cv := conv1 wr (m % 10) hd9
        obtain ⟨d, hd⟩ : ∃ d, m % 10 = d := ⟨_, rfl⟩
        obtain ⟨p, hp⟩ : ∃ p, m / 10 = p := ⟨_, rfl⟩
        rw [hd] at q2 hst hd9 cv
        rw [hp] at q1 hst HM1 hp9
        obtain ⟨u, hu⟩ : ∃ u, UInt8.ofNat (48 + d) = u := ⟨_, rfl⟩
        rw [hu] at cv hst
        have hu1 : (str [u]).size = 1 := rfl
        have HST := Lib.hid hst
        have HBW := Lib.hid (HBR.out.alloc HBR.out.size (.cells #[.int .u8 (48 + (d : Int))] 5)); have HWW := Lib.hid (HWS.out.alloc (.cells #[.int .u8 (48 + (d : Int))] 5)); have HMW := Lib.hid (HMS.out.alloc (.cells #[.int .u8 (48 + (d : Int))] 5))
        clear hst hu hd hp hws hms
        go_wp2_with fail
        go_roundg p
        case rel => exact ⟨p, u :: t, rfl, by rw [str_append]; rfl, rfl, HST.out, HBW.out, HWW.out, HMW.out⟩
        case measure => exact HM1.out
      · obtain rfl : m = 0 := by omega
        have ht := HPR.out.2.2 rfl
        have cw : wr.cell? ⟨w1.heap.size, 2, none⟩ = some (.string ⟨#[119, 111, 114, 107, 101, 114, 115]⟩) := hws.cell 2
        clear hms hws hm hmM
        rw [if_pos rfl] at ht
        subst ht
        have te : ((str ([] : List UInt8)).toList == []) = true := by rw [str_toList]; rfl
        obtain ⟨es, hes⟩ : ∃ s, str ([] : List UInt8) = s := ⟨_, rfl⟩
        rw [hes] at te htz ⊢
        clear hes
        have HP := Lib.hid (fun (X : ByteArray) (hX : X = str (linesB (LK 2 [45, 48]))) => parse_no (lk_fine (by decide) (by decide)) (lk_len (by decide) (by decide)) (lk_bad (by decide) (fun x hx => absurd hx (num_neg x))) hX wr (HG.out.below HBR.out (Nat.le_refl _)))
        go_wp2_with fail
        refine (HP.out _ (by kernel_rfl)).mono ?_
        rintro e w5 ⟨hb5, b, fs, rfl, hf⟩
        have hb6 := HBR.out.trans (hb5.mono HBR.out.size)
        have hb7 := hb6.alloc hb6.size (.cells #[.int .i64 0, .int .i64 0, .int .i64 0, .int .i64 0, .int .i64 0, .slice none 0 0] 29)
        have hf7 := hf.alloc (.cells #[.int .i64 0, .int .i64 0, .int .i64 0, .int .i64 0, .int .i64 0, .slice none 0 0] 29)
        have hm7 := (HMS.out.below hb5 HMS.out.lt).alloc (.cells #[.int .i64 0, .int .i64 0, .int .i64 0, .int .i64 0, .int .i64 0, .slice none 0 0] 29)
        have cm : (w5.alloc (.cells #[.int .i64 0, .int .i64 0, .int .i64 0, .int .i64 0, .int .i64 0, .slice none 0 0] 29)).cell? ⟨w1.heap.size + 1, 2, none⟩ = some (.int .i64 64) := hm7.cell 2
        have HCD := Lib.hid (code_hit b 12 _ (HG.out.below hb7 (Nat.le_refl _)).et (by rw [hf7.cell 0]; rfl))
        have HB7 := Lib.hid hb7; have HF7 := Lib.hid hf7
        have hlt := hm7.lt
        clear hb5 hb6 hb7 hf hf7 hm7
        go_wp2_with fail
        refine HCD.out.mono ?_; rintro e w8 ⟨rfl, hb8⟩
        have hb9 := HB7.out.trans (hb8.mono HB7.out.size)
        have HB9 := Lib.hid hb9
        have HAT := Lib.hid (at_hit b ((1 : Nat) : Int) w8 (HG.out.below hb9 (Nat.le_refl _)).et (by rw [(HF7.out.below hb8 HF7.out.lt).cell 1]; rfl))
        clear hb8 hb9
        go_wp2_with fail
        refine HAT.out.mono ?_; rintro e w10 ⟨rfl, hb10⟩
        have HB10 := Lib.hid (HB9.out.trans (hb10.mono HB9.out.size))
        clear hb10
        go_wp2_with fail
        go_ret
        exact ⟨rfl, HB10.out⟩
  · go_enter Tryd.func3, Tryd.ntmps3
    go_wp2_with fail
    refine AL.out.mono ?_; rintro e w1 ⟨rfl, hb1⟩
    have hb2 := (hb1.alloc hb1.size (.cells #[.string ⟨#[115, 105, 122, 101]⟩, .string ⟨#[115, 117, 112, 112, 111, 114, 116]⟩, .string ⟨#[119, 111, 114, 107, 101, 114, 115]⟩, .string ⟨#[99, 97, 112]⟩] 9)).alloc (by rw [World.size_alloc]; have := hb1.size; omega) (.cells #[.int .i64 8, .int .i64 1000000, .int .i64 64, .int .i64 1000000] 2)
    have hws := (Whole.new w1 9 #[.string ⟨#[115, 105, 122, 101]⟩, .string ⟨#[115, 117, 112, 112, 111, 114, 116]⟩, .string ⟨#[119, 111, 114, 107, 101, 114, 115]⟩, .string ⟨#[99, 97, 112]⟩]).alloc (.cells #[.int .i64 8, .int .i64 1000000, .int .i64 64, .int .i64 1000000] 2)
    have hms := Whole.new (w1.alloc (.cells #[.string ⟨#[115, 105, 122, 101]⟩, .string ⟨#[115, 117, 112, 112, 111, 114, 116]⟩, .string ⟨#[119, 111, 114, 107, 101, 114, 115]⟩, .string ⟨#[99, 97, 112]⟩] 9)) 2 #[.int .i64 8, .int .i64 1000000, .int .i64 64, .int .i64 1000000]
    rw [World.size_alloc] at hms
    have HB2 := Lib.hid hb2; have HWS := Lib.hid hws; have HMS := Lib.hid hms
    have hs1 := hb1.size
    clear hb1 hb2 hws hms
    go_wp2_with fail
    go_loopg [8, 9] M (fun g sv mv wr => ∃ (m : Nat) (t : List UInt8), m = g ∧ sv = .string (str t) ∧ mv = .int .i64 (m : Nat) ∧ PR M m t ∧ Below w.heap.size w wr ∧ Whole wr w1.heap.size 9 #[.string ⟨#[115, 105, 122, 101]⟩, .string ⟨#[115, 117, 112, 112, 111, 114, 116]⟩, .string ⟨#[119, 111, 114, 107, 101, 114, 115]⟩, .string ⟨#[99, 97, 112]⟩] ∧ Whole wr (w1.heap.size + 1) 2 #[.int .i64 8, .int .i64 1000000, .int .i64 64, .int .i64 1000000])
    case atStart => exact ⟨M, [], rfl, rfl, rfl, PR.start M, HB2.out, HWS.out, HMS.out⟩
    case round =>
      obtain ⟨m, t, rfl, rfl, rfl, hpr, hbr, hws, hms⟩ := hrel
      have htl := hpr.len HMM.out
      have hmM : m ≤ 9223372036854775807 := Nat.le_trans hpr.1 HMM.out
      have HPR := Lib.hid hpr; have HBR := Lib.hid hbr; have HWS := Lib.hid hws; have HMS := Lib.hid hms
      have hbs := hbr.size; have hmlt := hms.lt
      have htz : (str t).size ≤ 19 := htl
      clear hpr hbr htl
      by_cases hm : 0 < m
      · have t1 : decide ((0 : Int) < m) = true := decide_eq_true (by omega)
        have t1' : decide (0 < m) = true := decide_eq_true hm
        have q1 : Int.tdiv (m : Int) 10 = ((m / 10 : Nat) : Int) := rfl
        have q2 : Int.tmod (m : Int) 10 = ((m % 10 : Nat) : Int) := rfl
        have hst := HPR.out.step hm
        have HM1 : Hid (m / 10 < m) := Lib.hid (by omega)
        have hd9 : m % 10 ≤ 9 := by omega
        have hp9 : m / 10 ≤ 9223372036854775807 := by omega
        have cv := conv1 wr (m % 10) hd9
        obtain ⟨d, hd⟩ : ∃ d, m % 10 = d := ⟨_, rfl⟩
        obtain ⟨p, hp⟩ : ∃ p, m / 10 = p := ⟨_, rfl⟩
        rw [hd] at q2 hst hd9 cv
        rw [hp] at q1 hst HM1 hp9
        obtain ⟨u, hu⟩ : ∃ u, UInt8.ofNat (48 + d) = u := ⟨_, rfl⟩
        rw [hu] at cv hst
        have hu1 : (str [u]).size = 1 := rfl
        have HST := Lib.hid hst
        have HBW := Lib.hid (HBR.out.alloc HBR.out.size (.cells #[.int .u8 (48 + (d : Int))] 5)); have HWW := Lib.hid (HWS.out.alloc (.cells #[.int .u8 (48 + (d : Int))] 5)); have HMW := Lib.hid (HMS.out.alloc (.cells #[.int .u8 (48 + (d : Int))] 5))
        clear hst hu hd hp hws hms
        go_wp2_with fail
        go_roundg p
        case rel => exact ⟨p, u :: t, rfl, by rw [str_append]; rfl, rfl, HST.out, HBW.out, HWW.out, HMW.out⟩
        case measure => exact HM1.out
      · obtain rfl : m = 0 := by omega
        have ht := HPR.out.2.2 rfl
        have cw : wr.cell? ⟨w1.heap.size, 2, none⟩ = some (.string ⟨#[119, 111, 114, 107, 101, 114, 115]⟩) := hws.cell 2
        clear hms hws hm hmM
        by_cases hM0 : M = 0
        · subst hM0
          rw [if_pos rfl] at ht
          subst ht
          have te : ((str ([] : List UInt8)).toList == []) = true := by rw [str_toList]; rfl
          obtain ⟨es, hes⟩ : ∃ s, str ([] : List UInt8) = s := ⟨_, rfl⟩
          rw [hes] at te htz ⊢
          clear hes
          have HP := Lib.hid (fun (X : ByteArray) (hX : X = str (linesB (LK 2 [48]))) => parse_no (lk_fine (by decide) (by decide)) (lk_len (by decide) (by decide)) (lk_bad (by decide) (fun x hx => by rw [num_zero] at hx; cases hx; exact fun h => absurd h.1 (by decide))) hX wr (HG.out.below HBR.out (Nat.le_refl _)))
          go_wp2_with fail
          refine (HP.out _ (by kernel_rfl)).mono ?_
          rintro e w5 ⟨hb5, b, fs, rfl, hf⟩
          have hb6 := HBR.out.trans (hb5.mono HBR.out.size)
          have hb7 := hb6.alloc hb6.size (.cells #[.int .i64 0, .int .i64 0, .int .i64 0, .int .i64 0, .int .i64 0, .slice none 0 0] 29)
          have hf7 := hf.alloc (.cells #[.int .i64 0, .int .i64 0, .int .i64 0, .int .i64 0, .int .i64 0, .slice none 0 0] 29)
          have hm7 := (HMS.out.below hb5 HMS.out.lt).alloc (.cells #[.int .i64 0, .int .i64 0, .int .i64 0, .int .i64 0, .int .i64 0, .slice none 0 0] 29)
          have cm : (w5.alloc (.cells #[.int .i64 0, .int .i64 0, .int .i64 0, .int .i64 0, .int .i64 0, .slice none 0 0] 29)).cell? ⟨w1.heap.size + 1, 2, none⟩ = some (.int .i64 64) := hm7.cell 2
          have HCD := Lib.hid (code_hit b 12 _ (HG.out.below hb7 (Nat.le_refl _)).et (by rw [hf7.cell 0]; rfl))
          have HB7 := Lib.hid hb7; have HF7 := Lib.hid hf7
          have hlt := hm7.lt
          clear hb5 hb6 hb7 hf hf7 hm7
          go_wp2_with fail
          refine HCD.out.mono ?_; rintro e w8 ⟨rfl, hb8⟩
          have hb9 := HB7.out.trans (hb8.mono HB7.out.size)
          have HB9 := Lib.hid hb9
          have HAT := Lib.hid (at_hit b ((1 : Nat) : Int) w8 (HG.out.below hb9 (Nat.le_refl _)).et (by rw [(HF7.out.below hb8 HF7.out.lt).cell 1]; rfl))
          clear hb8 hb9
          go_wp2_with fail
          refine HAT.out.mono ?_; rintro e w10 ⟨rfl, hb10⟩
          have HB10 := Lib.hid (HB9.out.trans (hb10.mono HB9.out.size))
          clear hb10
          go_wp2_with fail
          go_ret
          exact ⟨rfl, HB10.out⟩
        · rw [if_neg hM0] at ht
          have te : ((str t).toList == []) = false := by rw [str_toList, ht, beq_eq_false_iff_ne]; exact dec_ne M
          have hno : (10 : UInt8) ∉ t := by rw [ht]; exact no_end M
          have hlen : t.length ≤ 1000 := by have h : t.length ≤ 19 := htz; omega
          have tn : decide ((M : Int) < 0) = false := decide_eq_false (by omega)
          have tn1 : decide ((M : Int) < 1) = false := decide_eq_false (by omega)
          have tn2 : decide (M < 1) = false := decide_eq_false (by omega)
          by_cases hgd : M ≤ 64
          · have tm : decide ((64 : Int) < M) = false := decide_eq_false (by omega)
            have tm' : decide (64 < M) = false := decide_eq_false (by omega)
            have HP := Lib.hid (fun (X : ByteArray) (hX : X = str (linesB (LK 2 t))) => parse_yes (lk_fine (by decide) hno) (lk_len (by decide) hlen) (lk_good (by decide) (n := (M : Int)) (by rw [ht]; exact numB_dec (by omega)) (by omega) (by show (M : Int) ≤ 64; omega)) hX wr (HG.out.below HBR.out (Nat.le_refl _)))
            clear ht hno hlen hM0 hgd
            go_wp2_with fail
            refine (HP.out _ (cat_2 t)).mono ?_
            rintro e w5 ⟨hb5, he⟩
            obtain rfl := (show e = .returned (.tuple #[.agg #[.int .i64 3, .int .i64 1, .int .i64 1, .int .i64 (M : Int), .int .i64 1000000, .slice none 0 0], .nilIface]) from he)
            clear he
            have hb6 := HBR.out.trans (hb5.mono HBR.out.size)
            have hb7 := hb6.alloc hb6.size (.cells #[.int .i64 3, .int .i64 1, .int .i64 1, .int .i64 (M : Int), .int .i64 1000000, .slice none 0 0] 29)
            have hm7 := (HMS.out.below hb5 HMS.out.lt).alloc (.cells #[.int .i64 3, .int .i64 1, .int .i64 1, .int .i64 (M : Int), .int .i64 1000000, .slice none 0 0] 29)
            have cm : (w5.alloc (.cells #[.int .i64 3, .int .i64 1, .int .i64 1, .int .i64 (M : Int), .int .i64 1000000, .slice none 0 0] 29)).cell? ⟨w1.heap.size + 1, 2, none⟩ = some (.int .i64 64) := hm7.cell 2
            have HB7 := Lib.hid hb7
            have HB8 := Lib.hid (hb7.alloc hb7.size (.cells #[.int .i64 1, .int .i64 1, .int .i64 (M : Int), .int .i64 1000000] 3))
            have hlt := hm7.lt
            clear hb5 hb6 hb7 hm7
            go_wp2_with fail
            go_ret
            exact ⟨rfl, HB8.out⟩
          · have tm : decide ((64 : Int) < M) = true := decide_eq_true (by omega)
            have tm' : decide (64 < M) = true := decide_eq_true (by omega)
            have HP := Lib.hid (fun (X : ByteArray) (hX : X = str (linesB (LK 2 t))) => parse_no (lk_fine (by decide) hno) (lk_len (by decide) hlen) (lk_bad (by decide) (fun x hx => by rw [ht] at hx; have := num_is HMM.out hx; intro h; have h2 : x ≤ 64 := h.2; omega)) hX wr (HG.out.below HBR.out (Nat.le_refl _)))
            clear ht hno hlen hM0 hgd
            go_wp2_with fail
            refine (HP.out _ (cat_2 t)).mono ?_
            rintro e w5 ⟨hb5, b, fs, rfl, hf⟩
            have hb6 := HBR.out.trans (hb5.mono HBR.out.size)
            have hb7 := hb6.alloc hb6.size (.cells #[.int .i64 0, .int .i64 0, .int .i64 0, .int .i64 0, .int .i64 0, .slice none 0 0] 29)
            have hf7 := hf.alloc (.cells #[.int .i64 0, .int .i64 0, .int .i64 0, .int .i64 0, .int .i64 0, .slice none 0 0] 29)
            have hm7 := (HMS.out.below hb5 HMS.out.lt).alloc (.cells #[.int .i64 0, .int .i64 0, .int .i64 0, .int .i64 0, .int .i64 0, .slice none 0 0] 29)
            have cm : (w5.alloc (.cells #[.int .i64 0, .int .i64 0, .int .i64 0, .int .i64 0, .int .i64 0, .slice none 0 0] 29)).cell? ⟨w1.heap.size + 1, 2, none⟩ = some (.int .i64 64) := hm7.cell 2
            have HCD := Lib.hid (code_hit b 12 _ (HG.out.below hb7 (Nat.le_refl _)).et (by rw [hf7.cell 0]; rfl))
            have HB7 := Lib.hid hb7; have HF7 := Lib.hid hf7
            have hlt := hm7.lt
            clear hb5 hb6 hb7 hf hf7 hm7
            go_wp2_with fail
            refine HCD.out.mono ?_; rintro e w8 ⟨rfl, hb8⟩
            have hb9 := HB7.out.trans (hb8.mono HB7.out.size)
            have HB9 := Lib.hid hb9
            have HAT := Lib.hid (at_hit b ((1 : Nat) : Int) w8 (HG.out.below hb9 (Nat.le_refl _)).et (by rw [(HF7.out.below hb8 HF7.out.lt).cell 1]; rfl))
            clear hb8 hb9
            go_wp2_with fail
            refine HAT.out.mono ?_; rintro e w10 ⟨rfl, hb10⟩
            have HB10 := Lib.hid (HB9.out.trans (hb10.mono HB9.out.size))
            clear hb10
            go_wp2_with fail
            go_ret
            exact ⟨rfl, HB10.out⟩
set_option maxRecDepth 100000 in
set_option maxHeartbeats 4000000 in
theorem numbers_3 (a n : Int) (ha0 : 0 ≤ a) (ha : a ≤ 255) (hq : Int.tmod a 4 = 3) (hn0 : -9223372036854775808 ≤ n) (hn : n ≤ 9223372036854775807) (w : World) (hg : GT w) :
    Calls Tryd.prog 3 #[.int .i64 n, .int .u8 a] w fun e w' => e = .returned (.bool true) ∧ Below w.heap.size w w' := by
  have AL := Lib.hid (alive_ok w hg)
  have HG := Lib.hid hg
  clear hg
  obtain ⟨M, hM⟩ : ∃ M : Nat, (if n < 0 then 0 else n.toNat) = M := ⟨_, rfl⟩
  have hc : (n < 0 ∧ M = 0) ∨ (n = (M : Int)) := by
    by_cases h : n < 0
    · rw [if_pos h] at hM
      exact Or.inl ⟨h, hM.symm⟩
    · rw [if_neg h] at hM
      exact Or.inr (by omega)
  have hMM : M ≤ 9223372036854775807 := by rcases hc with ⟨_, h⟩ | h <;> omega
  clear hM
  have HMM := Lib.hid hMM
  rcases hc with ⟨hneg, rfl⟩ | rfl
  · go_enter Tryd.func3, Tryd.ntmps3
    go_wp2_with fail
    refine AL.out.mono ?_; rintro e w1 ⟨rfl, hb1⟩
    have hb2 := (hb1.alloc hb1.size (.cells #[.string ⟨#[115, 105, 122, 101]⟩, .string ⟨#[115, 117, 112, 112, 111, 114, 116]⟩, .string ⟨#[119, 111, 114, 107, 101, 114, 115]⟩, .string ⟨#[99, 97, 112]⟩] 9)).alloc (by rw [World.size_alloc]; have := hb1.size; omega) (.cells #[.int .i64 8, .int .i64 1000000, .int .i64 64, .int .i64 1000000] 2)
    have hws := (Whole.new w1 9 #[.string ⟨#[115, 105, 122, 101]⟩, .string ⟨#[115, 117, 112, 112, 111, 114, 116]⟩, .string ⟨#[119, 111, 114, 107, 101, 114, 115]⟩, .string ⟨#[99, 97, 112]⟩]).alloc (.cells #[.int .i64 8, .int .i64 1000000, .int .i64 64, .int .i64 1000000] 2)
    have hms := Whole.new (w1.alloc (.cells #[.string ⟨#[115, 105, 122, 101]⟩, .string ⟨#[115, 117, 112, 112, 111, 114, 116]⟩, .string ⟨#[119, 111, 114, 107, 101, 114, 115]⟩, .string ⟨#[99, 97, 112]⟩] 9)) 2 #[.int .i64 8, .int .i64 1000000, .int .i64 64, .int .i64 1000000]
    rw [World.size_alloc] at hms
    have HB2 := Lib.hid hb2; have HWS := Lib.hid hws; have HMS := Lib.hid hms
    have hs1 := hb1.size
    clear hb1 hb2 hws hms
    go_wp2_with fail
    go_loopg [8, 9] 0 (fun g sv mv wr => ∃ (m : Nat) (t : List UInt8), m = g ∧ sv = .string (str t) ∧ mv = .int .i64 (m : Nat) ∧ PR 0 m t ∧ Below w.heap.size w wr ∧ Whole wr w1.heap.size 9 #[.string ⟨#[115, 105, 122, 101]⟩, .string ⟨#[115, 117, 112, 112, 111, 114, 116]⟩, .string ⟨#[119, 111, 114, 107, 101, 114, 115]⟩, .string ⟨#[99, 97, 112]⟩] ∧ Whole wr (w1.heap.size + 1) 2 #[.int .i64 8, .int .i64 1000000, .int .i64 64, .int .i64 1000000])
    case atStart => exact ⟨0, [], rfl, rfl, rfl, PR.start 0, HB2.out, HWS.out, HMS.out⟩
    case round =>
      obtain ⟨m, t, rfl, rfl, rfl, hpr, hbr, hws, hms⟩ := hrel
      have htl := hpr.len HMM.out
      have hmM : m ≤ 9223372036854775807 := Nat.le_trans hpr.1 HMM.out
      have HPR := Lib.hid hpr; have HBR := Lib.hid hbr; have HWS := Lib.hid hws; have HMS := Lib.hid hms
      have hbs := hbr.size; have hmlt := hms.lt
      have htz : (str t).size ≤ 19 := htl
      clear hpr hbr htl
      by_cases hm : 0 < m
      · have t1 : decide ((0 : Int) < m) = true := decide_eq_true (by omega)
        have t1' : decide (0 < m) = true := decide_eq_true hm
        have q1 : Int.tdiv (m : Int) 10 = ((m / 10 : Nat) : Int) := rfl
        have q2 : Int.tmod (m : Int) 10 = ((m % 10 : Nat) : Int) := rfl
        have hst := HPR.out.step hm
        have HM1 : Hid (m / 10 < m) := Lib.hid (by omega)
        have hd9 : m % 10 ≤ 9 := by omega
        have hp9 : m / 10 ≤ 9223372036854775807 := by omega
        have cv := conv1 wr (m % 10) hd9
        obtain ⟨d, hd⟩ : ∃ d, m % 10 = d := ⟨_, rfl⟩
        obtain ⟨p, hp⟩ : ∃ p, m / 10 = p := ⟨_, rfl⟩
        rw [hd] at q2 hst hd9 cv
        rw [hp] at q1 hst HM1 hp9
        obtain ⟨u, hu⟩ : ∃ u, UInt8.ofNat (48 + d) = u := ⟨_, rfl⟩
        rw [hu] at cv hst
        have hu1 : (str [u]).size = 1 := rfl
        have HST := Lib.hid hst
        have HBW := Lib.hid (HBR.out.alloc HBR.out.size (.cells #[.int .u8 (48 + (d : Int))] 5)); have HWW := Lib.hid (HWS.out.alloc (.cells #[.int .u8 (48 + (d : Int))] 5)); have HMW := Lib.hid (HMS.out.alloc (.cells #[.int .u8 (48 + (d : Int))] 5))
        clear hst hu hd hp hws hms
        go_wp2_with fail
        go_roundg p
        case rel => exact ⟨p, u :: t, rfl, by rw [str_append]; rfl, rfl, HST.out, HBW.out, HWW.out, HMW.out⟩
        case measure => exact HM1.out
      · obtain rfl : m = 0 := by omega
        have ht := HPR.out.2.2 rfl
        have cw : wr.cell? ⟨w1.heap.size, 3, none⟩ = some (.string ⟨#[99, 97, 112]⟩) := hws.cell 3
        clear hms hws hm hmM
        rw [if_pos rfl] at ht
        subst ht
        have te : ((str ([] : List UInt8)).toList == []) = true := by rw [str_toList]; rfl
        obtain ⟨es, hes⟩ : ∃ s, str ([] : List UInt8) = s := ⟨_, rfl⟩
        rw [hes] at te htz ⊢
        clear hes
        have HP := Lib.hid (fun (X : ByteArray) (hX : X = str (linesB (LK 3 [45, 48]))) => parse_no (lk_fine (by decide) (by decide)) (lk_len (by decide) (by decide)) (lk_bad (by decide) (fun x hx => absurd hx (num_neg x))) hX wr (HG.out.below HBR.out (Nat.le_refl _)))
        go_wp2_with fail
        refine (HP.out _ (by kernel_rfl)).mono ?_
        rintro e w5 ⟨hb5, b, fs, rfl, hf⟩
        have hb6 := HBR.out.trans (hb5.mono HBR.out.size)
        have hb7 := hb6.alloc hb6.size (.cells #[.int .i64 0, .int .i64 0, .int .i64 0, .int .i64 0, .int .i64 0, .slice none 0 0] 29)
        have hf7 := hf.alloc (.cells #[.int .i64 0, .int .i64 0, .int .i64 0, .int .i64 0, .int .i64 0, .slice none 0 0] 29)
        have hm7 := (HMS.out.below hb5 HMS.out.lt).alloc (.cells #[.int .i64 0, .int .i64 0, .int .i64 0, .int .i64 0, .int .i64 0, .slice none 0 0] 29)
        have cm : (w5.alloc (.cells #[.int .i64 0, .int .i64 0, .int .i64 0, .int .i64 0, .int .i64 0, .slice none 0 0] 29)).cell? ⟨w1.heap.size + 1, 3, none⟩ = some (.int .i64 1000000) := hm7.cell 3
        have HCD := Lib.hid (code_hit b 12 _ (HG.out.below hb7 (Nat.le_refl _)).et (by rw [hf7.cell 0]; rfl))
        have HB7 := Lib.hid hb7; have HF7 := Lib.hid hf7
        have hlt := hm7.lt
        clear hb5 hb6 hb7 hf hf7 hm7
        go_wp2_with fail
        refine HCD.out.mono ?_; rintro e w8 ⟨rfl, hb8⟩
        have hb9 := HB7.out.trans (hb8.mono HB7.out.size)
        have HB9 := Lib.hid hb9
        have HAT := Lib.hid (at_hit b ((1 : Nat) : Int) w8 (HG.out.below hb9 (Nat.le_refl _)).et (by rw [(HF7.out.below hb8 HF7.out.lt).cell 1]; rfl))
        clear hb8 hb9
        go_wp2_with fail
        refine HAT.out.mono ?_; rintro e w10 ⟨rfl, hb10⟩
        have HB10 := Lib.hid (HB9.out.trans (hb10.mono HB9.out.size))
        clear hb10
        go_wp2_with fail
        go_ret
        exact ⟨rfl, HB10.out⟩
  · go_enter Tryd.func3, Tryd.ntmps3
    go_wp2_with fail
    refine AL.out.mono ?_; rintro e w1 ⟨rfl, hb1⟩
    have hb2 := (hb1.alloc hb1.size (.cells #[.string ⟨#[115, 105, 122, 101]⟩, .string ⟨#[115, 117, 112, 112, 111, 114, 116]⟩, .string ⟨#[119, 111, 114, 107, 101, 114, 115]⟩, .string ⟨#[99, 97, 112]⟩] 9)).alloc (by rw [World.size_alloc]; have := hb1.size; omega) (.cells #[.int .i64 8, .int .i64 1000000, .int .i64 64, .int .i64 1000000] 2)
    have hws := (Whole.new w1 9 #[.string ⟨#[115, 105, 122, 101]⟩, .string ⟨#[115, 117, 112, 112, 111, 114, 116]⟩, .string ⟨#[119, 111, 114, 107, 101, 114, 115]⟩, .string ⟨#[99, 97, 112]⟩]).alloc (.cells #[.int .i64 8, .int .i64 1000000, .int .i64 64, .int .i64 1000000] 2)
    have hms := Whole.new (w1.alloc (.cells #[.string ⟨#[115, 105, 122, 101]⟩, .string ⟨#[115, 117, 112, 112, 111, 114, 116]⟩, .string ⟨#[119, 111, 114, 107, 101, 114, 115]⟩, .string ⟨#[99, 97, 112]⟩] 9)) 2 #[.int .i64 8, .int .i64 1000000, .int .i64 64, .int .i64 1000000]
    rw [World.size_alloc] at hms
    have HB2 := Lib.hid hb2; have HWS := Lib.hid hws; have HMS := Lib.hid hms
    have hs1 := hb1.size
    clear hb1 hb2 hws hms
    go_wp2_with fail
    go_loopg [8, 9] M (fun g sv mv wr => ∃ (m : Nat) (t : List UInt8), m = g ∧ sv = .string (str t) ∧ mv = .int .i64 (m : Nat) ∧ PR M m t ∧ Below w.heap.size w wr ∧ Whole wr w1.heap.size 9 #[.string ⟨#[115, 105, 122, 101]⟩, .string ⟨#[115, 117, 112, 112, 111, 114, 116]⟩, .string ⟨#[119, 111, 114, 107, 101, 114, 115]⟩, .string ⟨#[99, 97, 112]⟩] ∧ Whole wr (w1.heap.size + 1) 2 #[.int .i64 8, .int .i64 1000000, .int .i64 64, .int .i64 1000000])
    case atStart => exact ⟨M, [], rfl, rfl, rfl, PR.start M, HB2.out, HWS.out, HMS.out⟩
    case round =>
      obtain ⟨m, t, rfl, rfl, rfl, hpr, hbr, hws, hms⟩ := hrel
      have htl := hpr.len HMM.out
      have hmM : m ≤ 9223372036854775807 := Nat.le_trans hpr.1 HMM.out
      have HPR := Lib.hid hpr; have HBR := Lib.hid hbr; have HWS := Lib.hid hws; have HMS := Lib.hid hms
      have hbs := hbr.size; have hmlt := hms.lt
      have htz : (str t).size ≤ 19 := htl
      clear hpr hbr htl
      by_cases hm : 0 < m
      · have t1 : decide ((0 : Int) < m) = true := decide_eq_true (by omega)
        have t1' : decide (0 < m) = true := decide_eq_true hm
        have q1 : Int.tdiv (m : Int) 10 = ((m / 10 : Nat) : Int) := rfl
        have q2 : Int.tmod (m : Int) 10 = ((m % 10 : Nat) : Int) := rfl
        have hst := HPR.out.step hm
        have HM1 : Hid (m / 10 < m) := Lib.hid (by omega)
        have hd9 : m % 10 ≤ 9 := by omega
        have hp9 : m / 10 ≤ 9223372036854775807 := by omega
        have cv := conv1 wr (m % 10) hd9
        obtain ⟨d, hd⟩ : ∃ d, m % 10 = d := ⟨_, rfl⟩
        obtain ⟨p, hp⟩ : ∃ p, m / 10 = p := ⟨_, rfl⟩
        rw [hd] at q2 hst hd9 cv
        rw [hp] at q1 hst HM1 hp9
        obtain ⟨u, hu⟩ : ∃ u, UInt8.ofNat (48 + d) = u := ⟨_, rfl⟩
        rw [hu] at cv hst
        have hu1 : (str [u]).size = 1 := rfl
        have HST := Lib.hid hst
        have HBW := Lib.hid (HBR.out.alloc HBR.out.size (.cells #[.int .u8 (48 + (d : Int))] 5)); have HWW := Lib.hid (HWS.out.alloc (.cells #[.int .u8 (48 + (d : Int))] 5)); have HMW := Lib.hid (HMS.out.alloc (.cells #[.int .u8 (48 + (d : Int))] 5))
        clear hst hu hd hp hws hms
        go_wp2_with fail
        go_roundg p
        case rel => exact ⟨p, u :: t, rfl, by rw [str_append]; rfl, rfl, HST.out, HBW.out, HWW.out, HMW.out⟩
        case measure => exact HM1.out
      · obtain rfl : m = 0 := by omega
        have ht := HPR.out.2.2 rfl
        have cw : wr.cell? ⟨w1.heap.size, 3, none⟩ = some (.string ⟨#[99, 97, 112]⟩) := hws.cell 3
        clear hms hws hm hmM
        by_cases hM0 : M = 0
        · subst hM0
          rw [if_pos rfl] at ht
          subst ht
          have te : ((str ([] : List UInt8)).toList == []) = true := by rw [str_toList]; rfl
          obtain ⟨es, hes⟩ : ∃ s, str ([] : List UInt8) = s := ⟨_, rfl⟩
          rw [hes] at te htz ⊢
          clear hes
          have HP := Lib.hid (fun (X : ByteArray) (hX : X = str (linesB (LK 3 [48]))) => parse_no (lk_fine (by decide) (by decide)) (lk_len (by decide) (by decide)) (lk_bad (by decide) (fun x hx => by rw [num_zero] at hx; cases hx; exact fun h => absurd h.1 (by decide))) hX wr (HG.out.below HBR.out (Nat.le_refl _)))
          go_wp2_with fail
          refine (HP.out _ (by kernel_rfl)).mono ?_
          rintro e w5 ⟨hb5, b, fs, rfl, hf⟩
          have hb6 := HBR.out.trans (hb5.mono HBR.out.size)
          have hb7 := hb6.alloc hb6.size (.cells #[.int .i64 0, .int .i64 0, .int .i64 0, .int .i64 0, .int .i64 0, .slice none 0 0] 29)
          have hf7 := hf.alloc (.cells #[.int .i64 0, .int .i64 0, .int .i64 0, .int .i64 0, .int .i64 0, .slice none 0 0] 29)
          have hm7 := (HMS.out.below hb5 HMS.out.lt).alloc (.cells #[.int .i64 0, .int .i64 0, .int .i64 0, .int .i64 0, .int .i64 0, .slice none 0 0] 29)
          have cm : (w5.alloc (.cells #[.int .i64 0, .int .i64 0, .int .i64 0, .int .i64 0, .int .i64 0, .slice none 0 0] 29)).cell? ⟨w1.heap.size + 1, 3, none⟩ = some (.int .i64 1000000) := hm7.cell 3
          have HCD := Lib.hid (code_hit b 12 _ (HG.out.below hb7 (Nat.le_refl _)).et (by rw [hf7.cell 0]; rfl))
          have HB7 := Lib.hid hb7; have HF7 := Lib.hid hf7
          have hlt := hm7.lt
          clear hb5 hb6 hb7 hf hf7 hm7
          go_wp2_with fail
          refine HCD.out.mono ?_; rintro e w8 ⟨rfl, hb8⟩
          have hb9 := HB7.out.trans (hb8.mono HB7.out.size)
          have HB9 := Lib.hid hb9
          have HAT := Lib.hid (at_hit b ((1 : Nat) : Int) w8 (HG.out.below hb9 (Nat.le_refl _)).et (by rw [(HF7.out.below hb8 HF7.out.lt).cell 1]; rfl))
          clear hb8 hb9
          go_wp2_with fail
          refine HAT.out.mono ?_; rintro e w10 ⟨rfl, hb10⟩
          have HB10 := Lib.hid (HB9.out.trans (hb10.mono HB9.out.size))
          clear hb10
          go_wp2_with fail
          go_ret
          exact ⟨rfl, HB10.out⟩
        · rw [if_neg hM0] at ht
          have te : ((str t).toList == []) = false := by rw [str_toList, ht, beq_eq_false_iff_ne]; exact dec_ne M
          have hno : (10 : UInt8) ∉ t := by rw [ht]; exact no_end M
          have hlen : t.length ≤ 1000 := by have h : t.length ≤ 19 := htz; omega
          have tn : decide ((M : Int) < 0) = false := decide_eq_false (by omega)
          have tn1 : decide ((M : Int) < 1) = false := decide_eq_false (by omega)
          have tn2 : decide (M < 1) = false := decide_eq_false (by omega)
          by_cases hgd : M ≤ 1000000
          · have tm : decide ((1000000 : Int) < M) = false := decide_eq_false (by omega)
            have tm' : decide (1000000 < M) = false := decide_eq_false (by omega)
            have HP := Lib.hid (fun (X : ByteArray) (hX : X = str (linesB (LK 3 t))) => parse_yes (lk_fine (by decide) hno) (lk_len (by decide) hlen) (lk_good (by decide) (n := (M : Int)) (by rw [ht]; exact numB_dec (by omega)) (by omega) (by show (M : Int) ≤ 1000000; omega)) hX wr (HG.out.below HBR.out (Nat.le_refl _)))
            clear ht hno hlen hM0 hgd
            go_wp2_with fail
            refine (HP.out _ (cat_3 t)).mono ?_
            rintro e w5 ⟨hb5, he⟩
            obtain rfl := (show e = .returned (.tuple #[.agg #[.int .i64 3, .int .i64 1, .int .i64 1, .int .i64 1, .int .i64 (M : Int), .slice none 0 0], .nilIface]) from he)
            clear he
            have hb6 := HBR.out.trans (hb5.mono HBR.out.size)
            have hb7 := hb6.alloc hb6.size (.cells #[.int .i64 3, .int .i64 1, .int .i64 1, .int .i64 1, .int .i64 (M : Int), .slice none 0 0] 29)
            have hm7 := (HMS.out.below hb5 HMS.out.lt).alloc (.cells #[.int .i64 3, .int .i64 1, .int .i64 1, .int .i64 1, .int .i64 (M : Int), .slice none 0 0] 29)
            have cm : (w5.alloc (.cells #[.int .i64 3, .int .i64 1, .int .i64 1, .int .i64 1, .int .i64 (M : Int), .slice none 0 0] 29)).cell? ⟨w1.heap.size + 1, 3, none⟩ = some (.int .i64 1000000) := hm7.cell 3
            have HB7 := Lib.hid hb7
            have HB8 := Lib.hid (hb7.alloc hb7.size (.cells #[.int .i64 1, .int .i64 1, .int .i64 1, .int .i64 (M : Int)] 3))
            have hlt := hm7.lt
            clear hb5 hb6 hb7 hm7
            go_wp2_with fail
            go_ret
            exact ⟨rfl, HB8.out⟩
          · have tm : decide ((1000000 : Int) < M) = true := decide_eq_true (by omega)
            have tm' : decide (1000000 < M) = true := decide_eq_true (by omega)
            have HP := Lib.hid (fun (X : ByteArray) (hX : X = str (linesB (LK 3 t))) => parse_no (lk_fine (by decide) hno) (lk_len (by decide) hlen) (lk_bad (by decide) (fun x hx => by rw [ht] at hx; have := num_is HMM.out hx; intro h; have h2 : x ≤ 1000000 := h.2; omega)) hX wr (HG.out.below HBR.out (Nat.le_refl _)))
            clear ht hno hlen hM0 hgd
            go_wp2_with fail
            refine (HP.out _ (cat_3 t)).mono ?_
            rintro e w5 ⟨hb5, b, fs, rfl, hf⟩
            have hb6 := HBR.out.trans (hb5.mono HBR.out.size)
            have hb7 := hb6.alloc hb6.size (.cells #[.int .i64 0, .int .i64 0, .int .i64 0, .int .i64 0, .int .i64 0, .slice none 0 0] 29)
            have hf7 := hf.alloc (.cells #[.int .i64 0, .int .i64 0, .int .i64 0, .int .i64 0, .int .i64 0, .slice none 0 0] 29)
            have hm7 := (HMS.out.below hb5 HMS.out.lt).alloc (.cells #[.int .i64 0, .int .i64 0, .int .i64 0, .int .i64 0, .int .i64 0, .slice none 0 0] 29)
            have cm : (w5.alloc (.cells #[.int .i64 0, .int .i64 0, .int .i64 0, .int .i64 0, .int .i64 0, .slice none 0 0] 29)).cell? ⟨w1.heap.size + 1, 3, none⟩ = some (.int .i64 1000000) := hm7.cell 3
            have HCD := Lib.hid (code_hit b 12 _ (HG.out.below hb7 (Nat.le_refl _)).et (by rw [hf7.cell 0]; rfl))
            have HB7 := Lib.hid hb7; have HF7 := Lib.hid hf7
            have hlt := hm7.lt
            clear hb5 hb6 hb7 hf hf7 hm7
            go_wp2_with fail
            refine HCD.out.mono ?_; rintro e w8 ⟨rfl, hb8⟩
            have hb9 := HB7.out.trans (hb8.mono HB7.out.size)
            have HB9 := Lib.hid hb9
            have HAT := Lib.hid (at_hit b ((1 : Nat) : Int) w8 (HG.out.below hb9 (Nat.le_refl _)).et (by rw [(HF7.out.below hb8 HF7.out.lt).cell 1]; rfl))
            clear hb8 hb9
            go_wp2_with fail
            refine HAT.out.mono ?_; rintro e w10 ⟨rfl, hb10⟩
            have HB10 := Lib.hid (HB9.out.trans (hb10.mono HB9.out.size))
            clear hb10
            go_wp2_with fail
            go_ret
            exact ⟨rfl, HB10.out⟩
theorem numbers_law (a n : Int) (ha0 : 0 ≤ a) (ha : a ≤ 255) (hn0 : -9223372036854775808 ≤ n) (hn : n ≤ 9223372036854775807) (w : World) (hg : GT w) :
    Calls Tryd.prog 3 #[.int .i64 n, .int .u8 a] w fun e w' => e = .returned (.bool true) ∧ Below w.heap.size w w' := by
  have h : Int.tmod a 4 = 0 ∨ Int.tmod a 4 = 1 ∨ Int.tmod a 4 = 2 ∨ Int.tmod a 4 = 3 := by
    rw [Int.tmod_eq_emod_of_nonneg ha0]
    omega
  rcases h with h | h | h | h
  · exact numbers_0 a n ha0 ha h hn0 hn w hg
  · exact numbers_1 a n ha0 ha h hn0 hn w hg
  · exact numbers_2 a n ha0 ha h hn0 hn w hg
  · exact numbers_3 a n ha0 ha h hn0 hn w hg
end Go.Proofs.YtbbdammdiplagaaDoor
