/- What a worker's next state is. -/
import Derived.Test.YtlopoddllfkkfaaDoorJ3
import Derived.Test.YtlopoddllfkkfaaDoorJ1
import Derived.BigQuiet
import Derived.Deep.QuietTactic
import Derived.WalkSmall
import Derived.WalkSpells
import Derived.Deep.LoopGhost
import Derived.Lib.Hide
import Derived.Laws.BitsLemmas
namespace Go.Proofs.YtlopoddllfkkfaaDoor
open Go.RowKit

/-- Texts, as a slice holds them. -/
def txtC (X : List ByteArray) : List Value := X.map .string
theorem txtC_len (X : List ByteArray) : (txtC X).length = X.length := by simp [txtC]
theorem txtC_at {X : List ByteArray} {i : Nat} (h : i < X.length) : (txtC X)[i]? = some (.string (X.getD i ⟨#[]⟩)) := by
  simp [txtC, List.getD, h]
theorem txtC_app (X Y : List ByteArray) : txtC (X ++ Y) = txtC X ++ txtC Y := by simp [txtC]
theorem txtC_one (X : List ByteArray) : ∀ y, y ∈ txtC X → y.oneCell' = true := by
  intro y hy
  obtain ⟨x, _, rfl⟩ := List.mem_map.1 hy
  rfl
theorem txt_pos {w : World} {A : Option Addr} {n c : Nat} {X : List ByteArray} (h : ValsV w (.slice A n c) (txtC X)) {i : Nat} (hi : i < X.length) : ∃ b off, A = some ⟨b, off, none⟩ ∧ n = X.length ∧ w.cell? ⟨b, off + i, none⟩ = some (.string (X.getD i ⟨#[]⟩)) := by
  rcases h with ⟨h0, _⟩ | ⟨_, b, off, cap, e, hc⟩
  · have := txtC_len X
    rw [h0] at this
    simp at this
    omega
  · injection e with e1 e2 e3
    rw [txtC_len] at e2
    exact ⟨b, off, e1, e2, by rw [hc i (by rw [txtC_len]; exact hi), txtC_at hi]⟩
theorem txt_form {w : World} {v : Value} {X : List ByteArray} (h : ValsV w v (txtC X)) : ∃ A c, v = .slice A X.length c := by
  rcases h with ⟨h0, ao, cap, rfl⟩ | ⟨_, b, off, cap, rfl, _⟩
  · have := txtC_len X
    rw [h0] at this
    exact ⟨ao, cap, by rw [← this]; rfl⟩
  · exact ⟨_, cap, by rw [txtC_len]⟩

def letterN (w : Nat) : Nat := 97 + w % 26
def letterB (w : Nat) : ByteArray := ⟨#[UInt8.ofNat (letterN w)]⟩
theorem conv_letter (w : World) (n : Nat) (hn : n < 256) : (convert 57 9 (.slice (some ⟨w.heap.size, 0, none⟩) 1 1)).run Tryd.prog (w.alloc (.cells #[.int .u8 (n : Int)] 5)) = .ok (.string ⟨#[UInt8.ofNat n]⟩) (w.alloc (.cells #[.int .u8 (n : Int)] 5)) := by
  refine run_convert_bytes_back _ 57 9 5 ⟨w.heap.size, 0, none⟩ 1 [UInt8.ofNat n] Tryd.underlying57 Tryd.underlying5 Tryd.underlying9 (fun j hj => ?_)
  obtain rfl : j = 0 := by simpa using hj
  have e : (([UInt8.ofNat n] : List UInt8)[0]).toNat = n := by
    show (UInt8.ofNat n).toNat = _
    rw [UInt8.toNat_ofNat']
    omega
  have hc : (w.alloc (.cells #[.int .u8 (n : Int)] 5)).cell? ⟨w.heap.size, 0, none⟩ = _ := (Whole.new w 5 #[.int .u8 (n : Int)]).cell 0
  rw [e]
  exact hc
set_option maxRecDepth 100000 in
set_option maxHeartbeats 4000000 in
theorem letter_any (k : Nat) (w : World) : Calls Tryd.prog 25 #[.int .i64 (k : Int)] w fun e w' => e = .returned (.string (letterB k)) ∧ Below w.heap.size w w' := by
  have q1 : Int.tmod (k : Int) 26 = ((k % 26 : Nat) : Int) := rfl
  obtain ⟨a, ha⟩ : ∃ a, k % 26 = a := ⟨_, rfl⟩
  have ha26 : a < 26 := by omega
  have HA : Hid (letterB k = ⟨#[UInt8.ofNat (97 + a)]⟩) := Lib.hid (by unfold letterB letterN; rw [ha])
  rw [ha] at q1
  have q2 : IntKind.i64.wrap ((97 : Int) + a) = ((97 + a : Nat) : Int) := by rw [IntKind.wrap_i64]; omega
  have q3 : IntKind.u8.wrap ((97 + a : Nat) : Int) = ((97 + a : Nat) : Int) := by rw [IntKind.wrap_u8]; omega
  obtain ⟨n, hn⟩ : ∃ n, 97 + a = n := ⟨_, rfl⟩
  have hn2 : n < 256 := by omega
  rw [hn] at q2 q3 HA
  have cv := conv_letter w n hn2
  have HB : Hid (Below w.heap.size w (w.alloc (.cells #[.int .u8 (n : Int)] 5))) := Lib.hid ((Below.refl _ _).alloc (Nat.le_refl _) _)
  obtain ⟨u, hu⟩ : ∃ u, UInt8.ofNat n = u := ⟨_, rfl⟩
  rw [hu] at cv HA
  clear ha hu hn hn2
  go_enter Tryd.func25, Tryd.ntmps25
  go_wp2_with fail
  go_ret
  exact ⟨by rw [HA.out]; rfl, HB.out⟩

/-- A worker's next state, before it is cut. -/
def foldB (s : ByteArray) (X : List ByteArray) : ByteArray := X.foldl (fun t x => (t ++ ⟨#[44]⟩) ++ x) s
theorem foldB_snoc (s : ByteArray) (X : List ByteArray) (x : ByteArray) : foldB s (X ++ [x]) = (foldB s X ++ ⟨#[44]⟩) ++ x := by
  unfold foldB
  rw [List.foldl_append]
  rfl
theorem foldB_size : ∀ (X : List ByteArray) (s : ByteArray), (∀ x ∈ X, x.size ≤ 60) → (foldB s X).size ≤ s.size + 61 * X.length
  | [], s, _ => by show s.size ≤ _; omega
  | x :: t, s, h => by
    have h1 := foldB_size t ((s ++ ⟨#[44]⟩) ++ x) (fun y hy => h y (List.mem_cons_of_mem _ hy))
    have h2 := h x (List.mem_cons_self ..)
    show (foldB ((s ++ ⟨#[44]⟩) ++ x) t).size ≤ _
    rw [ByteArray.size_append, ByteArray.size_append, show (⟨#[44]⟩ : ByteArray).size = 1 from rfl] at h1
    rw [List.length_cons]
    omega
/-- A worker's next state. -/
def nextB (k : Nat) (s : ByteArray) (X : List ByteArray) : ByteArray :=
  if 60 < (foldB s X ++ letterB k).size then (foldB s X ++ letterB k).extract ((foldB s X ++ letterB k).size - 60) (foldB s X ++ letterB k).size else foldB s X ++ letterB k
theorem take_snocT {α : Type} {L : List α} {k : Nat} {d : α} (h : k < L.length) : L.take (k + 1) = L.take k ++ [L.getD k d] := by
  rw [List.take_add_one]
  simp [List.getD, h]
set_option maxRecDepth 100000 in
set_option maxHeartbeats 4000000 in
theorem next20_any (k : Nat) (s : ByteArray) (hs : s.size ≤ 1000) (X : List ByteArray) (hX : ∀ x ∈ X, x.size ≤ 60) (hl : X.length ≤ 10000) (v : Value) (w : World) (hv : ValsV w v (txtC X)) :
    Calls Tryd.prog 41 #[.int .i64 (k : Int), .string s, v] w fun e w' => e = .returned (.string (nextB k s X)) ∧ Below w.heap.size w w' := by
  have LE := Lib.hid (fun W => letter_any k W)
  have HV := Lib.hid hv
  obtain ⟨A, c, rfl⟩ := txt_form hv
  obtain ⟨n, hn⟩ : ∃ n, X.length = n := ⟨_, rfl⟩
  have HN := Lib.hid hn
  rw [hn] at HV ⊢
  have hn4 : n ≤ 10000 := by omega
  have HSZ : Hid (∀ i, (foldB s (X.take i)).size ≤ 700000) := Lib.hid (fun i => by
    have h := foldB_size (X.take i) s (fun x hx => hX x (List.mem_of_mem_take hx))
    rw [List.length_take] at h
    omega)
  have HX := Lib.hid hX
  clear hv hn hl hX hs
  go_enter Tryd.func41, Tryd.ntmps41
  go_wp2_with fail
  go_loopg [7, 8] n (fun g sv y wr => ∃ i, i ≤ n ∧ g = n - i ∧ y = .int .i64 (i : Nat) ∧ sv = .string (foldB s (X.take i)) ∧ wr = w)
  case atStart => exact ⟨0, Nat.zero_le _, rfl, rfl, rfl, rfl⟩
  case round =>
    obtain ⟨i, hi, rfl, rfl, rfl, rfl⟩ := hrel
    have hss := HSZ.out i
    obtain ⟨ss, hs1⟩ : ∃ t, foldB s (X.take i) = t := ⟨_, rfl⟩
    rw [hs1] at hss ⊢
    have HSS := Lib.hid hs1
    clear hs1
    by_cases hlt : i < n
    · obtain ⟨b, off, rfl, _, hc⟩ := txt_pos HV.out (show i < X.length by rw [HN.out]; exact hlt)
      obtain ⟨x, hx⟩ : ∃ x, X.getD i ⟨#[]⟩ = x := ⟨_, rfl⟩
      rw [hx] at hc
      have hx6 : x.size ≤ 60 := by
        rw [← hx]
        simp only [List.getD, List.getElem?_eq_getElem (show i < X.length by rw [HN.out]; exact hlt), Option.getD_some]
        exact HX.out _ (List.getElem_mem _)
      have HRES : Hid ((ss ++ (⟨#[44]⟩ : ByteArray)) ++ x = foldB s (X.take (i + 1))) := Lib.hid (by
        rw [take_snocT (d := ⟨#[]⟩) (by rw [HN.out]; exact hlt), foldB_snoc, hx, HSS.out])
      have t7 : decide (i < n) = true := decide_eq_true hlt
      have t7' : decide ((i : Int) < n) = true := decide_eq_true (by omega)
      have i1 : (i : Int) < n := by omega
      have z2 : (⟨#[44]⟩ : ByteArray).size = 1 := rfl
      have n1 : ¬ 9223372036854775807 < ss.size + 1 := by omega
      have n2 : ¬ 9223372036854775807 < (ss ++ (⟨#[44]⟩ : ByteArray)).size + x.size := by rw [ByteArray.size_append, z2]; omega
      have n3 : ¬ 9223372036854775807 < ss.size + 1 + x.size := by omega
      have HLT := Lib.hid hlt
      clear hx hlt z2
      go_wp2_with fail
      go_roundg (n - (i + 1))
      case rel => exact ⟨i + 1, HLT.out, rfl, rfl, by rw [HRES.out], rfl⟩
      case measure => have := HLT.out; omega
    · have t7 : decide (i < n) = false := decide_eq_false hlt
      have t7' : decide ((i : Int) < n) = false := decide_eq_false (by omega)
      obtain rfl : n = i := by omega
      have HFV : Hid (foldB s X = ss) := Lib.hid (by
        have h := HSS.out
        rwa [List.take_of_length_le (by rw [HN.out]; exact Nat.le_refl _)] at h)
      have L1 := Lib.hid (LE.out wr)
      have hl1 : (letterB k).size = 1 := rfl
      obtain ⟨lb, hlb⟩ : ∃ t, letterB k = t := ⟨_, rfl⟩
      rw [hlb] at hl1 L1
      have HLB := Lib.hid hlb
      have n1 : ¬ 9223372036854775807 < ss.size + lb.size := by omega
      clear hlt hi hlb
      go_wp2_with fail
      refine L1.out.mono ?_; rintro e w1 ⟨rfl, hb⟩
      have HB := Lib.hid hb
      have hsum : (ss ++ lb).size = ss.size + lb.size := ByteArray.size_append
      obtain ⟨tt, htt⟩ : ∃ t, ss ++ lb = t := ⟨_, rfl⟩
      rw [htt] at hsum
      have HTT := Lib.hid htt
      have htl : tt.size ≤ 700001 := by omega
      clear hb hsum hl1
      obtain ⟨tn, htn⟩ : ∃ n, tt.size = n := ⟨_, rfl⟩
      rw [htn] at htl
      have HTN := Lib.hid htn
      by_cases h60 : 60 < tn
      · have t8 : decide (60 < tn) = true := decide_eq_true h60
        have t8' : decide ((60 : Int) < (tn : Int)) = true := decide_eq_true (by omega)
        have HEQ : Hid (nextB k s X = tt.extract (tn - 60) tn) := Lib.hid (by
          unfold nextB
          rw [HFV.out, HLB.out, HTT.out, htn, if_pos h60])
        go_wp2_with fail
        go_ret
        exact ⟨by rw [HEQ.out]; rfl, HB.out⟩
      · have t8 : decide (60 < tn) = false := decide_eq_false h60
        have t8' : decide ((60 : Int) < (tn : Int)) = false := decide_eq_false (by omega)
        have HEQ : Hid (nextB k s X = tt) := Lib.hid (by
          unfold nextB
          rw [HFV.out, HLB.out, HTT.out, htn, if_neg h60])
        clear h60
        go_wp2_with fail
        go_ret
        exact ⟨by rw [HEQ.out]; rfl, HB.out⟩
end Go.Proofs.YtlopoddllfkkfaaDoor
