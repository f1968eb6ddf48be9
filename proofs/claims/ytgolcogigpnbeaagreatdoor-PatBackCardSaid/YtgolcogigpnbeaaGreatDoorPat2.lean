/- pat: rising, checkLabels. -/
import Derived.Test.YtgolcogigpnbeaaGreatDoorPat1
import Derived.Test.YtgolcogigpnbeaaGreatDoorFaultAt
import Derived.Test.YtgolcogigpnbeaaGreatDoorSeq
namespace Go.Proofs.YtgolcogigpnbeaaGreatDoor
open Go.RowKit

/-- A result that is an edge and lies in a box. -/
theorem results_edge {fn : Func} {p : Tmp} (h : fn.results = #[.cell p 62]) (tmps : Array Value) (w : World) (g : Nat) (x y : Value) (hp : tmps.getD p undef = .pointer (some ⟨g, 0, none⟩)) (hc : Whole w g 62 #[x, y]) :
    (results fn tmps).run Tryz.prog w = .ok (.agg #[x, y]) w := by
  have hp' : tmps[p]?.getD undef = .pointer (some ⟨g, 0, none⟩) := by simpa using hp
  have c0 : w.cell? ⟨g, 0, none⟩ = some x := hc.cell 0
  have c1 : w.cell? ⟨g, 1, none⟩ = some y := hc.cell 1
  simp [results, h, hp', asAddr, loadVar, go_sem, c0, c1]

set_option maxRecDepth 100000 in
theorem rising_any (a b : Int) (w : World) :
    Calls Tryz.prog 63 #[.agg #[.int .i64 a, .int .i64 b]] w fun e w' => e = .returned (.agg #[.int .i64 (min a b), .int .i64 (max a b)]) ∧ Below w.heap.size w w' := by
  have hb : ∀ x y, Below w.heap.size w ((w.alloc (.cells #[.int .i64 a, .int .i64 b] 62)).alloc (.cells #[x, y] 62)) := fun x y => ((Below.refl _ _).alloc (Nat.le_refl _) _).alloc (by simp) _
  have hn : ∀ x y, Whole ((w.alloc (.cells #[.int .i64 a, .int .i64 b] 62)).alloc (.cells #[x, y] 62)) (w.heap.size + 1) 62 #[x, y] := fun x y => by
    have := Whole.new (w.alloc (.cells #[.int .i64 a, .int .i64 b] 62)) 62 #[x, y]
    rwa [World.size_alloc] at this
  have HB := Lib.hid hb; have HN := Lib.hid hn
  clear hb hn
  rcases (by omega : b < a ∨ a < b ∨ b = a) with h | h | h
  · have e1 : min a b = b := by omega
    have e2 : max a b = a := by omega
    have HE1 := Lib.hid e1; have HE2 := Lib.hid e2
    clear e1 e2
    go_enter Tryz.func63, Tryz.ntmps63
    go_wp2
    exact bodyPost_ret (results_edge rfl _ _ _ _ _ rfl (HN.out _ _)) rfl ⟨by rw [HE1.out, HE2.out], HB.out _ _⟩
  · have e1 : min a b = a := by omega
    have e2 : max a b = b := by omega
    have HE1 := Lib.hid e1; have HE2 := Lib.hid e2
    clear e1 e2
    go_enter Tryz.func63, Tryz.ntmps63
    go_wp2
    exact bodyPost_ret (results_edge rfl _ _ _ _ _ rfl (HN.out _ _)) rfl ⟨by rw [HE1.out, HE2.out], HB.out _ _⟩
  · subst h
    have e1 : min b b = b := by omega
    have e2 : max b b = b := by omega
    have HE1 := Lib.hid e1; have HE2 := Lib.hid e2
    clear e1 e2
    go_enter Tryz.func63, Tryz.ntmps63
    go_wp2
    exact bodyPost_ret (results_edge rfl _ _ _ _ _ rfl (HN.out _ _)) rfl ⟨by rw [HE1.out, HE2.out], HB.out _ _⟩

/-- A label that can't be. -/
def labBad (L : List Int) (i : Nat) : Bool := decide (L.getD i 0 < 0) || decide (255 < L.getD i 0)
theorem find_at {p : Nat → Bool} {n k : Nat} (hk : k < n) (h : ∀ i, i < k → p i = false) (hp : p k = true) : (List.range n).find? p = some k := by
  rw [List.find?_range_eq_some]
  exact ⟨hp, List.mem_range.2 hk, fun j hj => by simp [h j hj]⟩
theorem find_none {p : Nat → Bool} {n : Nat} (h : ∀ i, i < n → p i = false) : (List.range n).find? p = none := by
  rw [List.find?_eq_none]
  intro i hi
  simp [h i (List.mem_range.1 hi)]

/-- What is wrong with labels. -/
def labF (L : List Int) : Option (Int × Int) :=
  if 8 < L.length then some (6, 0) else match (List.range L.length).find? (labBad L) with
    | some i => some (3, (i : Int))
    | none => none
/-- No error, or a fault. -/
def ErrTo (o : Option (Int × Int)) (w : World) (e : Ending) (w' : World) : Prop := Below w.heap.size w w' ∧ ((o = none ∧ e = .returned .nilIface) ∨ ∃ c p u, o = some (c, p) ∧ e = .returned u ∧ FaultAt c p w' u)
theorem fault_new (c p : Int) (s : ByteArray) (w : World) : Below w.heap.size w (w.alloc (.cells #[.int .i64 c, .int .i64 p, .string s] 98)) ∧ FaultAt c p (w.alloc (.cells #[.int .i64 c, .int .i64 p, .string s] 98)) (.iface 95 (.pointer (some ⟨w.heap.size, 0, none⟩))) :=
  ⟨(Below.refl _ _).alloc (Nat.le_refl _) _, _, _, rfl, Whole.new _ _ _⟩
set_option maxRecDepth 100000 in
set_option maxHeartbeats 2000000 in
theorem checkLabels_any {w : World} {v : Value} {L : List Int} (hL : SeqV w v L) {n : Nat} (hn : L.length = n) (hn1 : n ≤ 1000000) :
    Calls Tryz.prog 56 #[v] w (ErrTo (labF L) w) := by
  have HL := Lib.hid hL; have HN := Lib.hid hn
  obtain ⟨A, c, rfl⟩ := IntsV.form hL
  rw [hn] at HL ⊢
  clear hL hn
  by_cases hbig : 8 < n
  · have hlf : labF L = some (6, 0) := by
      unfold labF
      rw [if_pos (by rw [HN.out]; exact hbig)]
    have HLF := Lib.hid hlf
    have HF := Lib.hid (new_any 6 0 ⟨#[112, 97, 116, 116, 101, 114, 110]⟩ w)
    have HB := Lib.hid (fault_new 6 0 ⟨#[112, 97, 116, 116, 101, 114, 110]⟩ w)
    have t1 : decide ((8 : Int) < (n : Int)) = true := decide_eq_true (by omega)
    have t1' : decide (8 < n) = true := decide_eq_true hbig
    clear hlf hbig
    go_enter Tryz.func56, Tryz.ntmps56
    go_wp2_with fail
    refine HF.out.mono ?_; rintro e w1 ⟨rfl, rfl⟩
    go_wp2_with fail
    go_ret
    exact ⟨HB.out.1, Or.inr ⟨6, 0, _, HLF.out, rfl, HB.out.2⟩⟩
  · have t1 : decide ((8 : Int) < (n : Int)) = false := decide_eq_false (by omega)
    have t1' : decide (8 < n) = false := decide_eq_false hbig
    have HSM := Lib.hid hbig
    clear hbig
    go_enter Tryz.func56, Tryz.ntmps56
    go_wp2_with fail
    go_loopg [11] n (fun g y wr => ∃ k, k ≤ n ∧ g = n - k ∧ y = .int .i64 (k : Nat) ∧ (∀ i, i < k → labBad L i = false) ∧ wr = w)
    case atStart => exact ⟨0, Nat.zero_le _, rfl, rfl, fun i hi => absurd hi (Nat.not_lt_zero i), rfl⟩
    case round =>
      obtain ⟨k, hk, rfl, rfl, hall, rfl⟩ := hrel
      have HALL := Lib.hid hall
      clear hall
      by_cases hlt : k < n
      · have hpos : ∃ b off, A = some ⟨b, off, none⟩ ∧ wr.cell? ⟨b, off + k, none⟩ = some (.int .i64 (L.getD k 0)) := by
          rcases HL.out with ⟨h0, _⟩ | ⟨_, b, off, c', e, hc⟩
          · have := HN.out; omega
          · injection e with e1 e2 e3
            exact ⟨b, off, e1, hc k (by rw [HN.out]; exact hlt)⟩
        obtain ⟨b, off, rfl, hc⟩ := hpos
        obtain ⟨x, hx⟩ : ∃ x, L.getD k 0 = x := ⟨_, rfl⟩
        rw [hx] at hc
        have hbad : labBad L k = (decide (x < 0) || decide (255 < x)) := by
          unfold labBad
          rw [hx]
        have t3 : decide (k < n) = true := decide_eq_true hlt
        have t3' : decide ((k : Int) < (n : Int)) = true := decide_eq_true (by omega)
        have j1 : (k : Int) < n := by omega
        have j2 : (0 : Int) ≤ k := by omega
        have HLT := Lib.hid hlt
        have hcs : (decide (x < 0) = true ∧ labBad L k = true) ∨ (decide (x < 0) = false ∧ decide (255 < x) = true ∧ labBad L k = true) ∨ (decide (x < 0) = false ∧ decide (255 < x) = false ∧ labBad L k = false) := by
          rw [hbad]
          cases decide (x < 0) <;> cases decide (255 < x) <;> simp
        have HF := Lib.hid (new_any 3 k ⟨#[108, 97, 98, 101, 108]⟩ wr)
        have HB := Lib.hid (fault_new 3 k ⟨#[108, 97, 98, 101, 108]⟩ wr)
        clear hx hbad hlt
        have hend : labBad L k = true → labF L = some (3, (k : Int)) := fun h => by
          unfold labF
          rw [if_neg (by rw [HN.out]; exact HSM.out), HN.out, find_at HLT.out HALL.out h]
        have HEND := Lib.hid hend
        clear hend
        rcases hcs with ⟨u1, u2⟩ | ⟨u1, u3, u2⟩ | ⟨u1, u3, u2⟩
        · have HLF := Lib.hid (HEND.out u2)
          clear u2
          go_wp2_with fail
          refine HF.out.mono ?_; rintro e w1 ⟨rfl, rfl⟩
          go_wp2_with fail
          go_ret
          exact ⟨HB.out.1, Or.inr ⟨3, k, _, HLF.out, rfl, HB.out.2⟩⟩
        · have HLF := Lib.hid (HEND.out u2)
          clear u2
          go_wp2_with fail
          refine HF.out.mono ?_; rintro e w1 ⟨rfl, rfl⟩
          go_wp2_with fail
          go_ret
          exact ⟨HB.out.1, Or.inr ⟨3, k, _, HLF.out, rfl, HB.out.2⟩⟩
        · have HU := Lib.hid u2
          clear u2
          go_wp2_with fail
          go_roundg (n - (k + 1))
          case rel =>
            refine ⟨k + 1, HLT.out, rfl, by go_num, fun i hi => ?_, rfl⟩
            by_cases h : i < k
            · exact HALL.out i h
            · obtain rfl : i = k := by omega
              exact HU.out
          case measure => have := HLT.out; omega
      · obtain rfl : k = n := by omega
        have t3 : decide (k < k) = false := decide_eq_false (by omega)
        have hlf : labF L = none := by
          unfold labF
          rw [if_neg (by rw [HN.out]; exact HSM.out), HN.out, find_none HALL.out]
        have HLF := Lib.hid hlf
        clear hlf
        go_wp2_with fail
        go_ret
        exact ⟨Below.refl _ _, Or.inl ⟨HLF.out, rfl⟩⟩
end Go.Proofs.YtgolcogigpnbeaaGreatDoor
