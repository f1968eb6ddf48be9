/- Fine. -/
import Derived.Test.YtlopoddllfkkfaaDoorBspG
namespace Go.Proofs.YtlopoddllfkkfaaDoor
open Go.RowKit

def RowOk (n : Nat) (L : List Int) : Prop := L.length ≤ 6 ∧ ∀ t ∈ L, 0 ≤ t ∧ t < (n : Int)
def RowsOk (n : Nat) (C : List (List Int)) (i : Nat) : Prop := ∀ j, j < i → RowOk n (C.getD j [])
def NumsOk (n : Nat) (L : List Int) (i : Nat) : Prop := ∀ t ∈ L.take i, 0 ≤ t ∧ t < (n : Int)
def TxtOk (X : List ByteArray) (i : Nat) : Prop := ∀ s ∈ X.take i, s.size ≤ 60
structure FineP (X : List ByteArray) (C : List (List Int)) : Prop where
  n1 : 1 ≤ X.length
  n2 : X.length ≤ 6
  c : C.length ≤ 6
  rows : ∀ j, RowOk X.length (C.getD j [])
  txt : ∀ s ∈ X, s.size ≤ 60
def FineTo (X : List ByteArray) (C : List (List Int)) (w : World) (e : Ending) (w' : World) : Prop := (e = .returned (.bool false) ∨ e = .returned (.bool true) ∧ FineP X C) ∧ w' = w
theorem getD_mem_txt {X : List ByteArray} {i : Nat} (h : i < X.length) : X.getD i ⟨#[]⟩ ∈ X := by simp [List.getD, h]
set_option maxRecDepth 100000 in
set_option maxHeartbeats 4000000 in
theorem fine_any (X : List ByteArray) (C : List (List Int)) (vx vc : Value) (w : World) (hx : ValsV w vx (txtC X)) (hc : ListsV w vc C) :
    Calls Tryd.prog 9 #[vx, vc] w (FineTo X C w) := by
  obtain ⟨Ax, cx, rfl⟩ := txt_form hx
  obtain ⟨Ac, cc, rfl⟩ := hc.form
  obtain ⟨n, hn⟩ : ∃ n, X.length = n := ⟨_, rfl⟩
  obtain ⟨c, hcl⟩ : ∃ n, C.length = n := ⟨_, rfl⟩
  rw [hn] at hx ⊢
  rw [hcl] at hc ⊢
  have HX := Lib.hid hx; have HC := Lib.hid hc; have HN := Lib.hid hn; have HCL := Lib.hid hcl
  clear hx hc hn hcl
  by_cases h0 : 1 ≤ n ∧ n ≤ 6 ∧ c ≤ 6
  case neg =>
    have hs : decide ((n : Int) < 1) = true ∨ (decide ((n : Int) < 1) = false ∧ decide ((6 : Int) < n) = true) ∨ (decide ((n : Int) < 1) = false ∧ decide ((6 : Int) < n) = false ∧ decide ((6 : Int) < c) = true) := by
      by_cases h1 : n < 1
      · exact Or.inl (decide_eq_true (by omega))
      · by_cases h2 : 6 < n
        · exact Or.inr (Or.inl ⟨decide_eq_false (by omega), decide_eq_true (by omega)⟩)
        · exact Or.inr (Or.inr ⟨decide_eq_false (by omega), decide_eq_false (by omega), decide_eq_true (by omega)⟩)
    have hs' : decide (n < 1) = decide ((n : Int) < 1) ∧ decide (6 < n) = decide ((6 : Int) < n) ∧ decide (6 < c) = decide ((6 : Int) < c) := ⟨decide_eq_decide.2 (by omega), decide_eq_decide.2 (by omega), decide_eq_decide.2 (by omega)⟩
    obtain ⟨e1, e2, e3⟩ := hs'
    clear h0
    rcases hs with t1 | ⟨t1, t2⟩ | ⟨t1, t2, t3⟩
    · rw [t1] at e1
      clear e2 e3
      go_enter Tryd.func9, Tryd.ntmps9
      go_wp2_with fail
      go_ret
      exact ⟨Or.inl rfl, rfl⟩
    · rw [t1] at e1
      rw [t2] at e2
      clear e3
      go_enter Tryd.func9, Tryd.ntmps9
      go_wp2_with fail
      go_ret
      exact ⟨Or.inl rfl, rfl⟩
    · rw [t1] at e1
      rw [t2] at e2
      rw [t3] at e3
      go_enter Tryd.func9, Tryd.ntmps9
      go_wp2_with fail
      go_ret
      exact ⟨Or.inl rfl, rfl⟩
  obtain ⟨n1, n2, c6⟩ := h0
  have t1 : decide ((n : Int) < 1) = false := decide_eq_false (by omega)
  have t1' : decide (n < 1) = false := decide_eq_false (by omega)
  have t2 : decide ((6 : Int) < n) = false := decide_eq_false (by omega)
  have t2' : decide (6 < n) = false := decide_eq_false (by omega)
  have t3 : decide ((6 : Int) < c) = false := decide_eq_false (by omega)
  have t3' : decide (6 < c) = false := decide_eq_false (by omega)
  go_enter Tryd.func9, Tryd.ntmps9
  go_wp2_with fail
  clear t1 t1' t2 t2' t3 t3'
  go_loopg [5] c (fun g y wr => ∃ i, i ≤ c ∧ g = c - i ∧ y = .int .i64 (i : Nat) ∧ RowsOk n C i ∧ w = wr)
  case atStart => exact ⟨0, Nat.zero_le _, rfl, rfl, fun j hj => absurd hj (Nat.not_lt_zero _), rfl⟩
  case round =>
    obtain ⟨i, hi, rfl, rfl, hro, rfl⟩ := hrel
    have HRO := Lib.hid hro
    by_cases hlt : i < c
    · obtain ⟨b, off, A2, m, c2, rfl, d0, hm, hsq⟩ := lists_at HC.out (show i < C.length by rw [HCL.out]; exact hlt)
      have HM := Lib.hid hm; have HSQ := Lib.hid hsq
      have t7 : decide (i < c) = true := decide_eq_true hlt
      have t7' : decide ((i : Int) < c) = true := decide_eq_true (by omega)
      have i1 : (i : Int) < c := by omega
      have HLT := Lib.hid hlt
      clear hm hsq hro hlt hi
      by_cases h6 : 6 < m
      · have t8 : decide (6 < m) = true := decide_eq_true h6
        have t8' : decide ((6 : Int) < m) = true := decide_eq_true (by omega)
        clear h6
        go_wp2_with fail
        go_ret
        exact ⟨Or.inl rfl, rfl⟩
      · have t8 : decide (6 < m) = false := decide_eq_false h6
        have t8' : decide ((6 : Int) < m) = false := decide_eq_false (by omega)
        have hm6 : m ≤ 6 := by omega
        clear h6
        go_wp2_with fail
        go_loopg [6] m (fun g y wr => ∃ k, k ≤ m ∧ g = m - k ∧ y = .int .i64 (k : Nat) ∧ NumsOk n (C.getD i []) k ∧ w = wr)
        case atStart => exact ⟨0, Nat.zero_le _, rfl, rfl, fun t ht => by simp at ht, rfl⟩
        case round =>
          obtain ⟨k, hk, rfl, rfl, hno, rfl⟩ := hrel
          have HNO := Lib.hid hno
          by_cases hlt2 : k < m
          · obtain ⟨b2, off2, rfl, e0⟩ := seq_pos HSQ.out (show k < (C.getD i []).length by rw [HM.out]; exact hlt2)
            obtain ⟨t, ht⟩ : ∃ t, (C.getD i []).getD k 0 = t := ⟨_, rfl⟩
            rw [ht] at e0
            have HTT := Lib.hid ht
            have t9 : decide (k < m) = true := decide_eq_true hlt2
            have t9' : decide ((k : Int) < m) = true := decide_eq_true (by omega)
            have i3 : (k : Int) < m := by omega
            have HLT2 := Lib.hid hlt2
            clear ht hno hlt2 hk
            by_cases ht0 : t < 0
            · have u1 : decide (t < 0) = true := decide_eq_true ht0
              clear ht0
              go_wp2_with fail
              go_ret
              exact ⟨Or.inl rfl, rfl⟩
            · have u1 : decide (t < 0) = false := decide_eq_false ht0
              by_cases htn : (n : Int) ≤ t
              · have u2 : decide ((n : Int) ≤ t) = true := decide_eq_true htn
                clear ht0 htn
                go_wp2_with fail
                go_ret
                exact ⟨Or.inl rfl, rfl⟩
              · have u2 : decide ((n : Int) ≤ t) = false := decide_eq_false htn
                have HTK : Hid (0 ≤ t ∧ t < (n : Int)) := Lib.hid ⟨by omega, by omega⟩
                clear ht0 htn
                go_wp2_with fail
                go_roundg (m - (k + 1))
                case rel =>
                  refine ⟨k + 1, HLT2.out, rfl, rfl, fun q hq => ?_, rfl⟩
                  rw [take_snocT (d := 0) (by rw [HM.out]; exact HLT2.out), List.mem_append] at hq
                  rcases hq with hq | hq
                  · exact HNO.out q hq
                  · rw [List.mem_singleton.1 hq, HTT.out]; exact HTK.out
                case measure => have := HLT2.out; omega
          · have t9 : decide (k < m) = false := decide_eq_false hlt2
            have t9' : decide ((k : Int) < m) = false := decide_eq_false (by omega)
            have HRN : Hid (RowsOk n C (i + 1)) := Lib.hid (fun j hj => by
              by_cases hji : j = i
              · subst hji
                refine ⟨by rw [HM.out]; exact hm6, fun q hq => hno q ?_⟩
                rw [List.take_of_length_le (by rw [HM.out]; omega)]
                exact hq
              · exact HRO.out j (by omega))
            clear hlt2 hk hno
            go_wp2_with fail
            go_roundg (c - (i + 1))
            case rel => exact ⟨i + 1, HLT.out, rfl, rfl, HRN.out, rfl⟩
            case measure => have := HLT.out; omega
    · have t7 : decide (i < c) = false := decide_eq_false hlt
      have t7' : decide ((i : Int) < c) = false := decide_eq_false (by omega)
      have HRA : Hid (∀ j, RowOk n (C.getD j [])) := Lib.hid (fun j => by
        by_cases hj : j < i
        · exact hro j hj
        · have e : C.getD j [] = [] := by
            have h9 := HCL.out
            simp only [List.getD]
            rw [List.getElem?_eq_none (by omega)]
            rfl
          rw [e]
          exact ⟨Nat.zero_le _, fun t ht => by cases ht⟩)
      clear hlt hro
      go_wp2_with fail
      go_loopg [7] n (fun g y wr => ∃ k, k ≤ n ∧ g = n - k ∧ y = .int .i64 (k : Nat) ∧ TxtOk X k ∧ w = wr)
      case atStart => exact ⟨0, Nat.zero_le _, rfl, rfl, fun t ht => by simp at ht, rfl⟩
      case round =>
        obtain ⟨k, hk, rfl, rfl, hto, rfl⟩ := hrel
        have HTO := Lib.hid hto
        by_cases hlt : k < n
        · obtain ⟨b, off, rfl, _, d0⟩ := txt_pos HX.out (show k < X.length by rw [HN.out]; exact hlt)
          obtain ⟨s, hs⟩ : ∃ s, X.getD k ⟨#[]⟩ = s := ⟨_, rfl⟩
          rw [hs] at d0
          obtain ⟨sn, hsn⟩ : ∃ n, s.size = n := ⟨_, rfl⟩
          have HS := Lib.hid hs; have HSN := Lib.hid hsn
          have t9 : decide (k < n) = true := decide_eq_true hlt
          have t9' : decide ((k : Int) < n) = true := decide_eq_true (by omega)
          have i3 : (k : Int) < n := by omega
          have HLT2 := Lib.hid hlt
          clear hs hto hlt hk
          by_cases h6 : 60 < sn
          · have t8 : decide (60 < sn) = true := decide_eq_true h6
            have t8' : decide ((60 : Int) < sn) = true := decide_eq_true (by omega)
            clear h6
            go_wp2_with fail
            go_ret
            exact ⟨Or.inl rfl, rfl⟩
          · have t8 : decide (60 < sn) = false := decide_eq_false h6
            have t8' : decide ((60 : Int) < sn) = false := decide_eq_false (by omega)
            have H6 := Lib.hid h6
            clear h6
            go_wp2_with fail
            go_roundg (n - (k + 1))
            case rel =>
              refine ⟨k + 1, HLT2.out, rfl, rfl, fun q hq => ?_, rfl⟩
              rw [take_snocT (d := ⟨#[]⟩) (by rw [HN.out]; exact HLT2.out), List.mem_append] at hq
              rcases hq with hq | hq
              · exact HTO.out q hq
              · have h9 := H6.out
                rw [List.mem_singleton.1 hq, HS.out, HSN.out]; omega
            case measure => have := HLT2.out; omega
        · have t9 : decide (k < n) = false := decide_eq_false hlt
          have t9' : decide ((k : Int) < n) = false := decide_eq_false (by omega)
          have HFI : Hid (FineP X C) := Lib.hid ⟨by rw [HN.out]; exact n1, by rw [HN.out]; exact n2, by rw [HCL.out]; exact c6, by rw [HN.out]; exact HRA.out, fun s hs => hto s (by rw [List.take_of_length_le (by rw [HN.out]; omega)]; exact hs)⟩
          clear hlt hto hk
          go_wp2_with fail
          go_ret
          exact ⟨Or.inr ⟨rfl, HFI.out⟩, rfl⟩
end Go.Proofs.YtlopoddllfkkfaaDoor
