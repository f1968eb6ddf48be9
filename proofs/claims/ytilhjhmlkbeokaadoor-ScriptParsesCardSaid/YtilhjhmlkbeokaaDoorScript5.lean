/- script: the text of acts that are right. -/
import Derived.Test.YtilhjhmlkbeokaaDoorScript4
namespace Go.Proofs.YtilhjhmlkbeokaaDoor
open Go.RowKit

theorem byteCells_str (l m : List UInt8) : Lib.byteCells l ++ Lib.strCells (str m) = Lib.byteCells (l ++ m) := by
  simp [Lib.byteCells, Lib.strCells, str]
theorem line_len {a : Int × Int} (h : goodA a = true) : (lineB a).length ≤ 14 := by
  obtain ⟨h0, h5, h2, h3, _⟩ := good_iff.1 h
  have hd := (dec_len_iff a.2.toNat 6 (by decide)).2 (by omega)
  have hw : (wordB a.1).length ≤ 7 := by
    rcases kind_cases h0 h5 with e | e | e | e | e | e <;> rw [e] <;> decide
  unfold lineB
  rw [List.length_append]
  split
  · rw [List.length_cons]; omega
  · simp; omega
theorem text_len (L : List (Int × Int)) (h : ∀ a ∈ L, goodA a = true) : (textB L).length ≤ 15 * L.length := by
  induction L with
  | nil => exact Nat.le_refl _
  | cons a t ih =>
    have h1 := line_len (h a (List.mem_cons_self ..))
    have h2 := ih (fun x hx => h x (List.mem_cons_of_mem _ hx))
    rw [textB_cons, List.length_append, List.length_cons, List.length_cons]
    omega
theorem text_step {L : List (Int × Int)} {k : Nat} (hk : k < L.length) {a : Int × Int} (ha : L.getD k (0, 0) = a) : textB (L.take (k + 1)) = textB (L.take k) ++ (lineB a ++ [10]) := by
  rw [List.take_succ_eq_append_getElem hk, ← getD_at hk, ha, textB_app, textB_one]
/-- The state of Text's loop. -/
def ScLoop (B : Nat) (l : List UInt8) (w wr : World) : Prop :=
  Lib.IsBuilder 60 5 B B (Lib.byteCells l) wr ∧ Below B w wr
set_option maxRecDepth 100000 in
set_option maxHeartbeats 4000000 in
theorem actsText_any (L : List (Int × Int)) (v : Value) (w : World) (h : EdgesV w v L) (hL : L.length ≤ 100000) (hgood : ∀ a ∈ L, goodA a = true) (hg : GT w) :
    Calls Tryd.prog 12 #[v] w fun e w' => e = .returned (.string (str (textB L))) ∧ Below w.heap.size w w' := by
  obtain ⟨A, c, rfl⟩ := h.form
  obtain ⟨m, hm⟩ : ∃ m, L.length = m := ⟨_, rfl⟩
  have HS := Lib.hid h
  rw [hm] at HS hL ⊢
  have HM := Lib.hid hm; have HGD := Lib.hid hgood; have HG := Lib.hid hg
  have HF := Lib.hid (Lib.fresh_isBuilder 60 5 w)
  clear h hm hgood hg
  go_enter Tryd.func12, Tryd.ntmps12
  go_wp2_with fail
  go_loopg [8] m (fun g iv wr => ∃ k, k ≤ m ∧ g = m - k ∧ iv = .int .i64 (k : Nat) ∧ ScLoop w.heap.size (textB (L.take k)) w wr)
  case atStart => exact ⟨0, Nat.zero_le _, rfl, rfl, HF.out, (Below.refl _ _).alloc (Nat.le_refl _) _⟩
  case round =>
    obtain ⟨k, hk, rfl, rfl, hI, hB⟩ := hrel
    have hs2 := hB.size
    by_cases hlt : k < m
    · have hkL : k < L.length := by rw [HM.out]; exact hlt
      obtain ⟨b, off, rfl, d0, d1⟩ := (HS.out.below hB (Nat.le_refl _)).pos hkL
      obtain ⟨e, he⟩ : ∃ e, L.getD k (0, 0) = e := ⟨_, rfl⟩
      have hga : goodA e = true := HGD.out e (by rw [← he, getD_at hkL]; exact List.getElem_mem _)
      have hstep := text_step hkL he
      rw [he] at d0 d1
      have hbl : (textB (L.take k)).length ≤ 15 * 100000 := by
        have := text_len (L.take k) (fun a ha => HGD.out a (List.mem_of_mem_take ha))
        rw [List.length_take] at this
        omega
      obtain ⟨x, y⟩ := e
      obtain ⟨x0, x5, y0, y6, _⟩ := good_iff.1 hga
      simp only at d0 d1 x0 x5 y0 y6
      obtain ⟨y', rfl⟩ : ∃ y' : Nat, y = y' := ⟨y.toNat, by omega⟩
      have t3 : decide (k < m) = true := decide_eq_true hlt
      have i1 : (k : Int) < m := by omega
      have i2 : (0 : Int) ≤ k := by omega
      have hb2 : Below wr.heap.size wr (wr.alloc (.cells #[.int .i64 x, .int .i64 (y' : Nat)] 36)) := (Below.refl _ _).alloc (Nat.le_refl _) _
      have hbx := Whole.new wr 36 #[.int .i64 x, .int .i64 (y' : Nat)]
      have hRI := right_any x y' (wr.alloc (.cells #[.int .i64 x, .int .i64 (y' : Nat)] 36))
      rw [hga] at hRI
      have HR := Lib.hid hRI
      have HI := Lib.hid (isBuilder_below hI hb2); have HB2 := Lib.hid (hB.trans (hb2.mono hs2)); have HBX := Lib.hid hbx; have HLT := Lib.hid hlt; have HSTEP := Lib.hid hstep; have HBL := Lib.hid hbl; have HGA := Lib.hid hga; have HX5 := Lib.hid x5; have HX0 := Lib.hid x0
      clear hB he hb2 hkL hga hstep hbl hI hRI hbx x5 x0
      go_wp2_with fail
      refine HR.out.mono ?_; rintro e w3 ⟨rfl, hb3⟩
      have hbx3 := HBX.out.below hb3 (by rw [World.size_alloc]; omega)
      have hI3 := isBuilder_below HI.out hb3
      have hB3 := HB2.out.trans (hb3.mono HB2.out.size)
      have c0 : w3.cell? ⟨wr.heap.size, 0, none⟩ = some (.int .i64 x) := hbx3.cell 0
      have HNM := Lib.hid (name_any x HX0.out HX5.out w3)
      have HI3 := Lib.hid hI3; have HB3 := Lib.hid hB3; have HBX3 := Lib.hid hbx3
      clear hb3 hbx3 hI3 hB3
      obtain ⟨wd, hwd⟩ : ∃ d, wordB x = d := ⟨_, rfl⟩
      have hwl : wd.length ≤ 7 := by
        rw [← hwd]
        rcases kind_cases HX0.out HX5.out with e | e | e | e | e | e <;> rw [e] <;> decide
      rw [hwd] at HNM
      have HWD := Lib.hid hwd
      have HW1 := Lib.hid (writeString_any w.heap.size w.heap.size _ (str wd) w3 HI3.out (by rw [Lib.byteCells_length, str_size]; have := HBL.out; omega) HB3.out.size)
      clear hwd
      go_wp2_with fail
      refine HNM.out.mono ?_; rintro e wz ⟨rfl, hw⟩; obtain rfl := hw.symm
      clear hw
      go_wp2_with fail
      refine HW1.out.mono ?_; rintro e w4 ⟨rfl, hI4, hb4, htf4⟩
      rw [byteCells_str] at hI4
      have hbx4 := htf4 _ _ _ (by decide) (by decide) HBX3.out
      have c0' : w4.cell? ⟨wr.heap.size, 0, none⟩ = some (.int .i64 x) := hbx4.cell 0
      have c1' : w4.cell? ⟨wr.heap.size, 1, none⟩ = some (.int .i64 (y' : Nat)) := hbx4.cell 1
      have HI4 := Lib.hid hI4; have HB4 := Lib.hid (HB3.out.trans hb4)
      have HCN := Lib.hid (counts_any x HX0.out HX5.out w4)
      clear c0 hI4 hb4 htf4 hbx4
      by_cases h3 : x ≤ 3
      · have HLN : Hid (lineB (x, (y' : Int)) = wd ++ 32 :: Lib.decDigits y') := by
          refine Lib.hid ?_
          unfold lineB
          rw [if_pos h3, HWD.out]
          rfl
        rw [decide_eq_true h3] at HCN
        have HIT := Lib.hid (itoa_at y' (by omega) w4 (HG.out.below HB4.out (Nat.le_refl _)))
        have hdl := (dec_len_iff y' 6 (by decide)).2 (by omega)
        obtain ⟨dk, hdk⟩ : ∃ d, Lib.decDigits y' = d := ⟨_, rfl⟩
        rw [hdk] at HIT hdl HLN
        have hdz : (str dk).size ≤ 6 := hdl
        have hcat : (⟨#[32]⟩ : ByteArray) ++ str dk = str (32 :: dk) := str_append [32] dk
        have HCAT := Lib.hid hcat
        have HDL := Lib.hid hdl
        clear hdk h3 hcat hdl
        go_wp2_with fail
        refine HCN.out.mono ?_; rintro e wz ⟨rfl, hw⟩; obtain rfl := hw.symm
        clear hw
        go_wp2_with fail
        refine HIT.out.mono ?_; rintro e w5 ⟨rfl, hb5⟩
        have hI5 := isBuilder_below HI4.out hb5
        have HB5 := Lib.hid (HB4.out.trans (hb5.mono HB4.out.size))
        have HW2 := writeString_any w.heap.size w.heap.size _ (str (32 :: dk)) w5 hI5 (by rw [Lib.byteCells_length, str_size, List.length_append, List.length_cons]; have := HBL.out; have := HDL.out; omega) HB5.out.size
        rw [← HCAT.out] at HW2
        have HW2 := Lib.hid HW2
        clear hb5 hI5
        go_wp2_with fail
        refine HW2.out.mono ?_; rintro e w6 ⟨rfl, hI6, hb6, _⟩
        rw [HCAT.out, byteCells_str] at hI6
        have HB6 := Lib.hid (HB5.out.trans hb6)
        have HW3 := Lib.hid (writeString_any w.heap.size w.heap.size _ (str [10]) w6 hI6 (by rw [Lib.byteCells_length, str_size, List.length_append, List.length_append, List.length_cons]; have := HBL.out; have := HDL.out; simp; omega) HB6.out.size)
        clear hI6 hb6
        go_wp2_with fail
        refine HW3.out.mono ?_; rintro e w7 ⟨rfl, hI7, hb7, _⟩
        rw [byteCells_str] at hI7
        have hE : textB (L.take k) ++ wd ++ 32 :: dk ++ [10] = textB (L.take (k + 1)) := by
          rw [HSTEP.out, HLN.out]
          simp
        rw [hE] at hI7
        have HI7 := Lib.hid hI7; have HB7 := Lib.hid (HB6.out.trans hb7)
        clear hI7 hb7 hE
        go_wp2_with fail
        go_roundg (m - (k + 1))
        case rel => exact ⟨k + 1, HLT.out, rfl, by go_num, HI7.out, HB7.out⟩
        case measure => have := HLT.out; omega
      · have HLN : Hid (lineB (x, (y' : Int)) = wd) := by
          refine Lib.hid ?_
          unfold lineB
          rw [if_neg h3, HWD.out, List.append_nil]
        rw [decide_eq_false h3] at HCN
        have HW3 := Lib.hid (writeString_any w.heap.size w.heap.size _ (str [10]) w4 HI4.out (by rw [Lib.byteCells_length, str_size, List.length_append]; have := HBL.out; simp; omega) HB4.out.size)
        clear h3
        go_wp2_with fail
        refine HCN.out.mono ?_; rintro e wz ⟨rfl, hw⟩; obtain rfl := hw.symm
        clear hw
        go_wp2_with fail
        refine HW3.out.mono ?_; rintro e w7 ⟨rfl, hI7, hb7, _⟩
        rw [byteCells_str] at hI7
        have hE : textB (L.take k) ++ wd ++ [10] = textB (L.take (k + 1)) := by
          rw [HSTEP.out, HLN.out]
          simp
        rw [hE] at hI7
        have HI7 := Lib.hid hI7; have HB7 := Lib.hid (HB4.out.trans hb7)
        clear hI7 hb7 hE
        go_wp2_with fail
        go_roundg (m - (k + 1))
        case rel => exact ⟨k + 1, HLT.out, rfl, by go_num, HI7.out, HB7.out⟩
        case measure => have := HLT.out; omega
    · obtain rfl : k = m := by omega
      have t3 : decide (k < k) = false := by simp
      rw [List.take_of_length_le (by rw [HM.out]; omega)] at hI
      have HST := Lib.hid (string_any w.heap.size w.heap.size _ wr hI hs2)
      have HB := Lib.hid hB
      clear hI hB hlt
      go_wp2_with fail
      refine HST.out.mono ?_; rintro ev w5 ⟨rfl, hb5⟩
      have HB5 := Lib.hid (HB.out.trans hb5)
      clear hb5
      go_wp2_with fail
      go_ret
      exact ⟨rfl, HB5.out⟩
end Go.Proofs.YtilhjhmlkbeokaaDoor
