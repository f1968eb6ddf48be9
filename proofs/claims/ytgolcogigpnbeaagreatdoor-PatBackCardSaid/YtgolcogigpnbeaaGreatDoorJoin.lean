/- strings.Join of texts. -/
import Derived.Test.YtgolcogigpnbeaaGreatDoorBuild25
import Derived.Test.YtgolcogigpnbeaaGreatDoorPatTextP
import Derived.Test.YtgolcogigpnbeaaGreatDoorSeq
import Derived.Deep.DeepCutAuto
import Derived.Laws.Slices
namespace Go.Proofs.YtgolcogigpnbeaaGreatDoor
open Go.RowKit

/-- A slice that reads as texts. -/
def StrsL (w : World) (v : Value) (P : List (List UInt8)) : Prop :=
  (P = [] ∧ ∃ (ao : Option Addr) (cap : Nat), v = .slice ao 0 cap) ∨ (0 < P.length ∧ ∃ b off cap : Nat, v = .slice (some ⟨b, off, none⟩) P.length cap ∧ P.length ≤ cap ∧ ∀ i, i < P.length → w.cell? ⟨b, off + i, none⟩ = some (.string (str (P.getD i []))))
theorem StrsL.below {w w' : World} {v : Value} {P : List (List UInt8)} (h : StrsL w v P) {B : Nat} (hb : Below B w w') (hB : w.heap.size ≤ B) : StrsL w' v P := by
  rcases h with h | ⟨h0, b, off, cap, rfl, hcap, hc⟩
  · exact Or.inl h
  · exact Or.inr ⟨h0, b, off, cap, rfl, hcap, fun i hi => (hb.cell (p := ⟨b, off + i, none⟩) (Nat.lt_of_lt_of_le (World.block_lt_of_cell? _ _ (hc i hi)) hB)).trans (hc i hi)⟩
theorem joinB_snoc {b : UInt8} {x : List UInt8} : ∀ {A : List (List UInt8)}, A ≠ [] → joinB b (A ++ [x]) = joinB b A ++ b :: x
  | [], h => absurd rfl h
  | [p], _ => rfl
  | p :: q :: t, _ => by
    rw [List.cons_append, List.cons_append, joinB_cons, joinB_cons, ← List.cons_append, joinB_snoc (by simp)]
    simp
/-- How long the first texts are. -/
def lenTo (P : List (List UInt8)) (k : Nat) : Nat := ((P.take k).map List.length).sum
theorem lenTo_succ {P : List (List UInt8)} {k : Nat} (h : k < P.length) : lenTo P (k + 1) = lenTo P k + (P.getD k []).length := by
  unfold lenTo
  rw [List.take_succ_eq_append_getElem h, List.map_append, List.sum_append]
  simp [List.getD, h]
theorem lenTo_add (P : List (List UInt8)) (a : Nat) : ∀ d, lenTo P a ≤ lenTo P (a + d)
  | 0 => Nat.le_refl _
  | d + 1 => by
    have ih := lenTo_add P a d
    rcases Nat.lt_or_ge (a + d) P.length with h2 | h2
    · rw [show a + (d + 1) = a + d + 1 from rfl, lenTo_succ h2]; omega
    · have : lenTo P (a + (d + 1)) = lenTo P (a + d) := by
        unfold lenTo
        rw [List.take_of_length_le (by omega), List.take_of_length_le h2]
      omega
theorem lenTo_mono (P : List (List UInt8)) {a b : Nat} (h : a ≤ b) : lenTo P a ≤ lenTo P b := by
  have := lenTo_add P a (b - a)
  rwa [show a + (b - a) = b by omega] at this
theorem byteCells_str (l m : List UInt8) : Lib.byteCells l ++ Lib.strCells (str m) = Lib.byteCells (l ++ m) := by
  simp [Lib.byteCells, Lib.strCells, str]
theorem joinB_len {b : UInt8} : ∀ {P : List (List UInt8)}, P ≠ [] → (joinB b P).length + 1 = (P.map List.length).sum + P.length
  | [], h => absurd rfl h
  | [p], _ => by simp [joinB]
  | p :: q :: t, _ => by
    have ih := joinB_len (b := b) (P := q :: t) (by simp)
    rw [joinB_cons, List.length_append, List.length_cons, List.map_cons, List.sum_cons, List.length_cons]
    omega
theorem lenTo_all (P : List (List UInt8)) : lenTo P P.length = (P.map List.length).sum := by unfold lenTo; rw [List.take_length]
theorem slice_tail {m m1 : Nat} (hm : m = m1 + 1) (b o c : Nat) (h : ¬ c = 1) (W : World) : (Instr.slice 71 (.slice (some ⟨b, o, none⟩) m c) (some (.int .i64 1)) none none).run Tryz.prog W = .ok (.slice (some ⟨b, o + 1, none⟩) m1 (c - 1)) W := by
  subst hm
  have h1 : (1 : Int) ≤ ((m1 + 1 : Nat) : Int) := by omega
  rw [run_slice_l (P := Tryz.prog) W 71 (some ⟨b, o, none⟩) (m1 + 1) c (by kernel_rfl) .i64 1 (by decide) (by simpa using h1)]
  have e : Tryz.prog.elem 71 = 9 := by kernel_rfl
  rw [e]
  simp [go_sem, sliced, h, Addr.add]
theorem fresh_heap (w : World) (t : TypeId) (cs : Array Value) : (w.alloc (.cells cs t)).heap[w.heap.size]? = some (.cells cs t (0, 0)) := by
  have := Whole.new w t cs
  exact this

set_option maxRecDepth 100000 in
set_option maxHeartbeats 4000000 in
theorem join_any (P : List (List UInt8)) (v : Value) (w : World) (h : StrsL w v P) (hn : P.length ≤ 100000) (hlen : (joinB 44 P).length ≤ 1000000000) :
    Calls Tryz.prog 38 #[v, .string ⟨#[44]⟩] w fun e w' => e = .returned (.string (str (joinB 44 P))) ∧ Below w.heap.size w w' := by
  rcases Nat.lt_trichotomy P.length 1 with h0 | h0 | h0
  · have hP : P = [] := List.eq_nil_of_length_eq_zero (by omega)
    subst hP
    rcases h with ⟨_, ao, cap, rfl⟩ | ⟨h1, _⟩
    · clear h0 hn hlen
      go_enter Tryz.func38, Tryz.ntmps38
      go_wp2_with fail
      go_ret
      exact ⟨rfl, Below.refl _ _⟩
    · simp at h1
  · rcases h with ⟨h1, _⟩ | ⟨h1, b, off, cap, rfl, hcap, hc⟩
    · subst h1; simp at h0
    · match P, h0 with
      | [p], _ =>
        have c0 : w.cell? ⟨b, off, none⟩ = some (.string (str p)) := hc 0 (by simp)
        clear hc hn hlen h1 hcap
        go_enter Tryz.func38, Tryz.ntmps38
        go_wp2_with fail
        go_ret
        exact ⟨rfl, Below.refl _ _⟩
  · rcases h with ⟨h1, _⟩ | ⟨h1, b, off, cap, rfl, hcap, hc⟩
    · subst h1; simp at h0
    · obtain ⟨m, hm⟩ : ∃ m, P.length = m := ⟨_, rfl⟩
      rw [hm] at h0 h1 hn hcap hc ⊢
      have hjl := joinB_len (b := 44) (P := P) (fun e => by rw [e] at hm; simp at hm; omega)
      rw [hm] at hjl
      have HM := Lib.hid hm; have HC := Lib.hid hc; have HJL := Lib.hid hjl; have HLEN := Lib.hid hlen
      have t0 : decide (m = 0) = false := decide_eq_false (by omega)
      have t0' : ((m : Int) == 0) = false := by simp; omega
      have t1 : ((m : Int) == 1) = false := by simp; omega
      have i1 : (1 : Int) < m := by omega
      have i2 : (0 : Int) ≤ m := by omega
      have q0 : (2 : Int) ≤ 9223372036854775807 / ((m : Int) - 1) := Int.le_ediv_of_mul_le (by omega) (by omega)
      have q1 : decide ((9223372036854775807 : Int) / ((m : Int) - 1) ≤ 1) = false := decide_eq_false (by omega)
      obtain ⟨m1, hm1⟩ : ∃ m1, m = m1 + 1 := ⟨m - 1, by omega⟩
      have TL := slice_tail hm1 b off cap (by omega)
      have HTL := Lib.hid TL; have HM1 := Lib.hid hm1
      have HTOT : Hid (m - 1 + lenTo P m = (joinB 44 P).length) := Lib.hid (by rw [← hm, lenTo_all]; rw [hm]; omega)
      clear hm hc hjl hlen t0 q0 TL hm1
      go_enter Tryz.func38, Tryz.ntmps38
      go_wp2_with fail
      go_loopg [5, 41] m (fun g nv y wr => ∃ k, k ≤ m ∧ g = m - k ∧ y = .int .i64 (k : Nat) ∧ nv = .int .i64 ((m - 1 + lenTo P k : Nat) : Int) ∧ w = wr)
      case atStart => exact ⟨0, Nat.zero_le _, rfl, rfl, by rw [show lenTo P 0 = 0 from rfl, show ((m - 1 + 0 : Nat) : Int) = (m : Int) - 1 by omega], rfl⟩
      case round =>
        obtain ⟨k, hk, rfl, rfl, rfl, rfl⟩ := hrel
        have htot := HTOT.out
        have hle := HLEN.out
        by_cases hlt : k < m
        · have c0 := HC.out k hlt
          have hmono := lenTo_mono P (a := k + 1) (b := m) hlt
          have hsucc := lenTo_succ (P := P) (k := k) (by rw [HM.out]; exact hlt)
          obtain ⟨s, hs⟩ : ∃ s, str (P.getD k []) = s := ⟨_, rfl⟩
          have hsz : s.size = (P.getD k []).length := by rw [← hs]; rfl
          rw [hs] at c0
          obtain ⟨z, hz⟩ : ∃ z, m - 1 + lenTo P k = z := ⟨_, rfl⟩
          rw [hz]
          have hnx : m - 1 + lenTo P (k + 1) = z + s.size := by omega
          have hbd : z + s.size ≤ 1000000000 := by omega
          have t3 : decide (k < m) = true := decide_eq_true hlt
          have j1 : (k : Int) < m := by omega
          have j2 : (0 : Int) ≤ k := by omega
          have t4 : decide ((9223372036854775807 : Int) - (z : Int) < (s.size : Int)) = false := decide_eq_false (by omega)
          have j3 : (z : Int) + s.size ≤ 1000000000 := by omega
          have j4 : (0 : Int) ≤ s.size := by omega
          have j5 : (0 : Int) ≤ z := by omega
          have j6 : (z : Int) ≤ 1000000000 := by omega
          have HNX := Lib.hid hnx; have HLT := Lib.hid hlt
          clear hmono hsucc hs hsz hz hnx htot hle hlt
          go_wp2_with fail
          go_roundg (m - (k + 1))
          case rel => exact ⟨k + 1, HLT.out, rfl, by go_num, by rw [HNX.out]; go_num, rfl⟩
          case measure => have := HLT.out; omega
        · obtain rfl : k = m := by omega
          have t3 : decide (k < k) = false := by simp
          rw [HTOT.out]
          obtain ⟨T, hT⟩ : ∃ T, (joinB 44 P).length = T := ⟨_, rfl⟩
          rw [hT] at hle ⊢
          have hF := fresh_heap w 111 #[.pointer none, .slice none 0 0]
          have hb1 : Below w.heap.size w (w.alloc (.cells #[.pointer none, .slice none 0 0] 111)) := (Below.refl _ _).alloc (Nat.le_refl _) _
          have HGR := Lib.hid (Tryz.Builder_Grow_fresh w.heap.size w.heap.size T (w.alloc (.cells #[.pointer none, .slice none 0 0] 111)) (Nat.le_refl _) hF hb1.size (by omega))
          have HB1 := Lib.hid hb1; have HT := Lib.hid hT
          have hk1 := HM1.out
          clear htot hlt hT hF hb1
          go_wp2_with fail
          refine HGR.out.mono ?_; rintro e w2 ⟨rfl, hI2, hb2⟩
          have hB2 : Below w.heap.size w w2 := HB1.out.trans hb2
          have hbl := World.block_lt_of_cell? _ _ (HC.out 0 (by omega))
          have hcw : ∀ (W : World), Below w.heap.size w W → ∀ i, i < k → W.cell? ⟨b, off + i, none⟩ = some (.string (str (P.getD i []))) := fun W hb i hi => (hb.cell (p := ⟨b, off + i, none⟩) hbl).trans (HC.out i hi)
          have HCW := Lib.hid hcw
          have hp0 : P.take 1 = [P.getD 0 []] := by
            have h0 : 0 < P.length := by rw [HM.out]; omega
            rw [List.take_succ_eq_append_getElem h0]
            simp [List.getD, h0]
          have hl1 : (joinB 44 (P.take 1)).length = (P.getD 0 []).length := by rw [hp0]; rfl
          have htk : ∀ j, j < k → (joinB 44 (P.take (j + 1))).length ≤ T := fun j hj => by
            have h1 := joinB_len (b := 44) (P := P.take (j + 1)) (fun e => by have h2 := congrArg List.length e; rw [List.length_take, HM.out] at h2; simp at h2; omega)
            have h2 := joinB_len (b := 44) (P := P) (fun e => by have h2 := congrArg List.length e; rw [HM.out] at h2; simp at h2; omega)
            have h3 := lenTo_mono P (a := j + 1) (b := P.length) (by rw [HM.out]; omega)
            rw [lenTo_all] at h3
            unfold lenTo at h3
            rw [List.length_take, HM.out] at h1
            rw [HM.out, HT.out] at h2
            omega
          have HTK := Lib.hid htk
          have h00 := htk 0 (by omega)
          have c00 : w2.cell? ⟨b, off, none⟩ = some (.string (str (P.getD 0 []))) := hcw w2 hB2 0 (by omega)
          have i0 : 0 < k := by omega
          have W0 := writeString_any w.heap.size w.heap.size [] (str (P.getD 0 [])) w2 (Or.inr hI2) (by simp only [List.length_nil, str_size]; rw [Nat.zero_add] at h00; omega) hB2.size
          have hst : [] ++ Lib.strCells (str (P.getD 0 [])) = Lib.byteCells (joinB 44 (P.take 1)) := by
            rw [hp0]
            exact byteCells_str [] _
          rw [hst] at W0
          generalize str (P.getD 0 []) = s0 at W0 c00
          have HW0 := Lib.hid W0; have HB2 := Lib.hid hB2
          clear hcw hp0 hl1 htk h00 W0 hst hI2 hb2 hB2 hbl
          go_wp2_with fail
          refine HW0.out.mono ?_; rintro e w3 ⟨rfl, hI3, hb3, htf3⟩
          have HI3 := Lib.hid hI3; have HB3 := Lib.hid (HB2.out.trans hb3)
          have htl := HTL.out
          clear hI3 hb3 htf3 c00
          go_wp2_with fail
          go_loopg [65] m1 (fun g y W => ∃ j, j ≤ m1 ∧ g = m1 - j ∧ y = .int .i64 (j : Nat) ∧ Lib.IsBuilder 111 5 w.heap.size w.heap.size (Lib.byteCells (joinB 44 (P.take (j + 1)))) W ∧ Below w.heap.size w W)
          case atStart => exact ⟨0, Nat.zero_le _, rfl, rfl, HI3.out, HB3.out⟩
          case round =>
            obtain ⟨j, hj, rfl, rfl, hI, hB⟩ := hrel
            have hs2 := hB.size
            by_cases hjt : j < m1
            · have hjk : j + 1 < k := by omega
              have cj : wr.cell? ⟨b, off + 1 + j, none⟩ = some (.string (str (P.getD (j + 1) []))) := by
                have := HCW.out wr hB (j + 1) hjk
                rwa [show off + (j + 1) = off + 1 + j by omega] at this
              have h1 := HTK.out (j + 1) hjk
              have hP : j + 1 < P.length := by rw [HM.out]; omega
              have hsn : joinB 44 (P.take (j + 1 + 1)) = joinB 44 (P.take (j + 1)) ++ 44 :: P.getD (j + 1) [] := by
                rw [List.take_succ_eq_append_getElem hP, joinB_snoc (fun e => by have h2 := congrArg List.length e; rw [List.length_take, List.length_nil] at h2; omega)]
                simp [List.getD, hP]
              rw [hsn, List.length_append, List.length_cons] at h1
              have HWA := Lib.hid (writeString_any w.heap.size w.heap.size _ ⟨#[44]⟩ wr hI (by rw [Lib.byteCells_length]; show _ + 1 ≤ _; omega) hs2)
              have HHB := Lib.hid (fun (W : World) (hI : Lib.IsBuilder 111 5 w.heap.size w.heap.size (Lib.byteCells (joinB 44 (P.take (j + 1))) ++ Lib.strCells ⟨#[44]⟩) W) (hs : w.heap.size ≤ W.heap.size) => writeString_any w.heap.size w.heap.size _ (str (P.getD (j + 1) [])) W hI (by rw [List.length_append, Lib.byteCells_length, Lib.strCells_length, str_size]; show _ + 1 + _ ≤ _; omega) hs)
              have HJN : Hid ((Lib.byteCells (joinB 44 (P.take (j + 1))) ++ Lib.strCells ⟨#[44]⟩) ++ Lib.strCells (str (P.getD (j + 1) [])) = Lib.byteCells (joinB 44 (P.take (j + 1 + 1)))) := Lib.hid (by
                rw [show (⟨#[44]⟩ : ByteArray) = str [44] from rfl, byteCells_str, byteCells_str, hsn]; simp)
              rw [HJN.out] at HHB
              have t3 : decide (j < m1) = true := decide_eq_true hjt
              have j1 : (j : Int) < m1 := by omega
              have j2 : (0 : Int) ≤ j := by omega
              have HJT := Lib.hid hjt; have HB := Lib.hid hB
              generalize str (P.getD (j + 1) []) = sj at cj HHB
              clear h1 hP hsn hI hjt hjk hB hs2
              go_wp2_with fail
              refine HWA.out.mono ?_; rintro e w4 ⟨rfl, hI4, hb4, _⟩
              have hB4 := HB.out.trans hb4
              have HW5 := Lib.hid (HHB.out w4 hI4 hB4.size)
              have HB4 := Lib.hid hB4
              clear hI4 hb4 hB4
              go_wp2_with fail
              refine HW5.out.mono ?_; rintro e w5 ⟨rfl, hI5, hb5, _⟩
              have HI5 := Lib.hid hI5; have HB5 := Lib.hid (HB4.out.trans hb5)
              clear hI5 hb5
              go_wp2_with fail
              go_roundg (m1 - (j + 1))
              case rel => exact ⟨j + 1, HJT.out, rfl, by go_num, HI5.out, HB5.out⟩
              case measure => have := HJT.out; omega
            · have hjm : j + 1 = k := by omega
              have t3 : decide (j < m1) = false := decide_eq_false hjt
              have t3' : decide ((j : Int) < (m1 : Int)) = false := decide_eq_false (by omega)
              have hfin : P.take (j + 1) = P := by rw [hjm, ← HM.out, List.take_length]
              rw [hfin] at hI
              have HST := Lib.hid (string_any w.heap.size w.heap.size (joinB 44 P) wr hI hs2)
              have HB := Lib.hid hB
              clear hjm hjt hfin hI hB hs2
              go_wp2_with fail
              refine HST.out.mono ?_; rintro e w6 ⟨rfl, hb6⟩
              have HB6 := Lib.hid (HB.out.trans hb6)
              clear hb6
              go_wp2_with fail
              go_ret
              exact ⟨rfl, HB6.out⟩
end Go.Proofs.YtgolcogigpnbeaaGreatDoor
