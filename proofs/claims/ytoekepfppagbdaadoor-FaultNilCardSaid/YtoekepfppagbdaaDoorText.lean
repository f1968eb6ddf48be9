/- fault.Text over a chain; fault.In's loop. -/
import Derived.Test.YtoekepfppagbdaaDoorBuild
namespace Go.Proofs.YtoekepfppagbdaaDoor
open Go.RowKit Go.Extern.Stop Go.Stop Go.Extern

theorem Tryd.methodError (v : Value) (w : World) : (Go.method 228 32 v "Error").run Tryd.prog w = .ok (54, v) w := by kernel_rfl

theorem errorText (b : Nat) (s : ByteArray) (w : World) (h : w.cell? ⟨b, 2, none⟩ = some (.string s)) :
    Calls Tryd.prog 54 #[.pointer (some ⟨b, 0, none⟩)] w fun e w' => e = .returned (.string s) ∧ w' = w := by
  go_enter Tryd.func54, Tryd.ntmps54
  go_wp2
  go_ret
  exact ⟨rfl, rfl⟩

/-- The letters of the first i words, each with ": " behind it. -/
def lead (S : Nat → ByteArray) : Nat → List UInt8
  | 0 => []
  | i + 1 => lead S i ++ ((S i).data.toList ++ [58, 32])
theorem lead_mono (S : Nat → ByteArray) {i n : Nat} (h : i ≤ n) : (lead S i).length ≤ (lead S n).length := by
  induction n with
  | zero => obtain rfl : i = 0 := by omega
            exact Nat.le_refl _
  | succ n ih =>
    rcases Nat.lt_or_ge n i with h1 | h1
    · obtain rfl : i = n + 1 := by omega
      exact Nat.le_refl _
    · have := ih h1
      simp only [lead, List.length_append]
      omega
theorem byteCells_app (l : List UInt8) (s : ByteArray) : Lib.byteCells l ++ Lib.strCells s = Lib.byteCells (l ++ s.data.toList) := by
  simp [Lib.byteCells, Lib.strCells]

/-- The state of Text's loop. -/
def TextLoop (B : Nat) (S : Nat → ByteArray) (w : World) (i : Nat) (wr : World) : Prop :=
  Lib.IsBuilder 56 5 B B (Lib.byteCells (lead S i)) wr ∧ Below B w wr

section
variable {n : Nat} {V : Nat → Value} {B : Nat → Nat} {S : Nat → ByteArray} {b : Nat} {c a : Int} {nm : ByteArray}

set_option maxRecDepth 100000 in
set_option maxHeartbeats 4000000 in
theorem text_chain (w : World) (hg : ErrT w) (hn : n ≤ 100000) (h : ErrAt w n V B S b c a nm) (hlen : (lead S n).length + nm.size ≤ 140737488355328) :
    Calls Tryd.prog 14 #[V 0] w fun e w' => e = .returned (.string ⟨(lead S n ++ nm.data.toList).toArray⟩) ∧ Below w.heap.size w w' := by
  have hu := unroll_chain w hg hn h
  have H := Lib.hid h
  rw [h.last] at hu
  obtain ⟨T, x, h0, _⟩ := h.form 0 (Nat.zero_le _)
  rw [h0] at hu ⊢
  have HU := Lib.hid hu
  have mE := Tryd.methodError
  clear hu h0 h
  go_enter Tryd.func14, Tryd.ntmps14
  go_wp2_with (go_at_call 23; fail)
  refine HU.out.mono ?_; rintro e w2 ⟨v, rfl, ho, hb⟩
  have hsv := own_strsV ho
  have HE := Lib.hid (H.out.below hb (Nat.le_refl _))
  have hsz := hb.size
  clear ho
  obtain ⟨ao, cap, rfl⟩ := hsv.form
  have HS := Lib.hid hsv
  clear hsv
  have hfr := Lib.fresh_isBuilder 56 5 w2
  have HF := Lib.hid hfr
  clear hfr
  go_wp2_with fail
  go_loopg [17] n (fun g v wr => ∃ i, i ≤ n ∧ g = n - i ∧ v = .int .i64 (i : Int) ∧ TextLoop w2.heap.size S w2 i wr)
  case atStart => exact ⟨0, Nat.zero_le _, rfl, rfl, HF.out, (Below.refl _ _).alloc (Nat.le_refl _) _⟩
  case round =>
    obtain ⟨i, hile, rfl, rfl, hB, hb2⟩ := hrel
    have hs2 := hb2.size
    by_cases hlt : i < n
    · have hmono := lead_mono S (show i + 1 ≤ n by omega)
      simp only [lead, List.length_append, List.length_cons, List.length_nil] at hmono
      have hsz1 : (S i).data.toList.length = (S i).size := Array.length_toList
      rcases HS.out with ⟨h0, _⟩ | ⟨_, b0, off, cap', e, hc⟩
      · omega
      · injection e with e1 e2 e3
        subst e1
        have hci := hc i hlt
        have hl0 := World.block_lt_of_cell? _ _ hci
        have hcr := (hb2.cell (p := ⟨b0, off + i, none⟩) hl0).trans hci
        obtain ⟨sw, hsw⟩ : ∃ sw, S i = sw := ⟨_, rfl⟩
        rw [hsw] at hcr hsz1 hmono
        have d1 : decide ((i : Int) < n) = true := decide_eq_true (by omega)
        have HW1 := Lib.hid (writeString_any w2.heap.size w2.heap.size (Lib.byteCells (lead S i)) sw wr hB (by rw [Lib.byteCells_length]; omega) hs2)
        have HSW := Lib.hid hsw
        clear hsw hc hci hB e3
        go_wp2_with (go_at_call 25; fail)
        refine HW1.out.mono ?_; rintro ev w3 ⟨rfl, hB3, hb3⟩
        have hs3 := hb3.size
        have HW2 := Lib.hid (writeString_any w2.heap.size w2.heap.size (Lib.byteCells (lead S i) ++ Lib.strCells sw) ⟨#[58, 32]⟩ w3 hB3 (by rw [List.length_append, Lib.byteCells_length, Lib.strCells_length]; have e2 : (⟨#[58, 32]⟩ : ByteArray).size = 2 := rfl; rw [e2]; omega) (by omega))
        clear hB3
        go_wp2_with (go_at_call 25; fail)
        refine HW2.out.mono ?_; rintro ev w4 ⟨rfl, hB4, hb4⟩
        have hb5 := (hb2.trans hb3).trans hb4
        rw [byteCells_app, byteCells_app, List.append_assoc] at hB4
        have he : lead S i ++ (sw.data.toList ++ [58, 32]) = lead S (i + 1) := by rw [← HSW.out]; rfl
        have hB5 : TextLoop w2.heap.size S w2 (i + 1) w4 := ⟨by rw [← he]; exact hB4, hb5⟩
        clear hB4 hb5 hb2 hb3 hb4 hcr
        go_wp2_with fail
        go_roundg (n - (i + 1))
        case rel => exact ⟨i + 1, by omega, rfl, by go_num, hB5⟩
        case measure => omega
    · obtain rfl : i = n := by omega
      have d1 : decide ((i : Int) < i) = false := decide_eq_false (by omega)
      have hE := (HE.out.below hb2 (Nat.le_refl _)).name
      have hB0 := hB
      have HET := Lib.hid (errorText b nm wr hE)
      have HW1 := Lib.hid (writeString_any w2.heap.size w2.heap.size (Lib.byteCells (lead S i)) nm wr hB0 (by rw [Lib.byteCells_length]; omega) hs2)
      clear hB0 hE hB
      go_wp2_with fail
      refine HET.out.mono ?_; rintro ev w3 ⟨rfl, rfl⟩
      go_wp2_with fail
      refine HW1.out.mono ?_; rintro ev w4 ⟨rfl, hB4, hb4⟩
      rw [byteCells_app] at hB4
      have hs4 := hb4.size
      have HST := Lib.hid (string_any w2.heap.size w2.heap.size _ w4 hB4 (by omega))
      clear hB4
      go_wp2_with fail
      refine HST.out.mono ?_; rintro ev w5 ⟨rfl, hb5⟩
      go_wp2_with fail
      go_ret
      exact ⟨rfl, hb.trans ((((hb2.trans hb4).trans hb5)).mono hsz)⟩
end
end Go.Proofs.YtoekepfppagbdaaDoor
