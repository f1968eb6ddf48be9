/- conf: what texts of numbers tell; the chapter's example. -/
import Derived.Test.YtbbdammdiplagaaDoorConf3
namespace Go.Proofs.YtbbdammdiplagaaDoor
open Go.RowKit

theorem setP_num {c : CP} {wd v : List UInt8} (hj : wd ≠ wJob) (hs : ¬ (wd = wSup ∧ c.kind ≠ 3)) (hw : wd = wSup ∨ wd = wSize ∨ wd = wWork ∨ wd = wCap) :
    setP c wd v = (match numB v with
     | some x => if 1 ≤ x ∧ x ≤ mostOf wd then some (setN c wd x) else none
     | none => none) := by
  unfold setP
  rw [if_neg hj, if_neg hs, if_pos hw]
  rfl
theorem setP_good {c : CP} {wd v : List UInt8} {x : Int} (hj : wd ≠ wJob) (hs : ¬ (wd = wSup ∧ c.kind ≠ 3)) (hw : wd = wSup ∨ wd = wSize ∨ wd = wWork ∨ wd = wCap) (hv : numB v = some x) (h1 : 1 ≤ x) (h2 : x ≤ mostOf wd) : setP c wd v = some (setN c wd x) := by
  rw [setP_num hj hs hw, hv]
  simp only
  rw [if_pos ⟨h1, h2⟩]
theorem setP_bad {c : CP} {wd v : List UInt8} (hj : wd ≠ wJob) (hs : ¬ (wd = wSup ∧ c.kind ≠ 3)) (hw : wd = wSup ∨ wd = wSize ∨ wd = wWork ∨ wd = wCap) (hv : ∀ x, numB v = some x → ¬ (1 ≤ x ∧ x ≤ mostOf wd)) : setP c wd v = none := by
  rw [setP_num hj hs hw]
  cases h : numB v with
  | none => rfl
  | some x => simp only; rw [if_neg (hv x h)]
theorem numB_one (m : Nat) (h : m < 10) : numB [UInt8.ofNat (48 + m)] = some (m : Int) := by
  rw [← Lib.decDigits_one h]
  exact numB_dec (by omega)
theorem num1 : numB [49] = some 1 := numB_one 1 (by decide)
theorem num3 : numB [51] = some 3 := numB_one 3 (by decide)
theorem run_badA {c : CP} {st : List (List UInt8)} {a v : List UInt8} {t : List (List UInt8 × List UInt8)} (h : setP c a v = none) : runP c st ((a, v) :: t) = .inl st.length := run_bad2 h
theorem run_stepA {c c' : CP} {st : List (List UInt8)} {a v : List UInt8} {t : List (List UInt8 × List UInt8)} (h1 : (decide (st = []) != decide (a = wJob)) = false) (h2 : a ∉ st) (h : setP c a v = some c') : runP c st ((a, v) :: t) = runP c' (st ++ [a]) t := run_step h1 h2 h
/-- A job of motifs and its size, as the example has it. -/
theorem tell_alive : tellP [(wJob, kname 1), (wSize, [51])] = .inr ⟨1, 3, 0, 1, 1000000⟩ := by
  have h1 : runP ⟨0, 0, 0, 1, 1000000⟩ [] [(wJob, kname 1), (wSize, [51])] = .inr ⟨1, 3, 0, 1, 1000000⟩ := by
    rw [run_stepA (c' := ⟨1, 0, 0, 1, 1000000⟩) (by decide) (by decide) rfl]
    rw [run_stepA (c' := ⟨1, 3, 0, 1, 1000000⟩) (by decide) (by decide) (setP_good (by decide) (by first | exact fun h => h.2 rfl | exact fun h => absurd h.1 (by decide)) (by decide) num3 (by decide) (by decide))]
    rfl
  rw [tell_inr h1, if_neg (by decide)]
theorem tell_no : tellP [(wSize, [51]), (wJob, kname 1)] = .inl 0 := tell_inl (run_bad1 (Or.inl (by decide)))
/-- A job by edges, a number, and what else it must have. -/
def LK (k : Nat) (s : List UInt8) : List (List UInt8 × List UInt8) :=
  match k with
  | 0 => [(wJob, kname 3), (wSize, s), (wSup, [49])]
  | 1 => [(wJob, kname 3), (wSup, s), (wSize, [49])]
  | 2 => [(wJob, kname 3), (wWork, s), (wSize, [49]), (wSup, [49])]
  | _ => [(wJob, kname 3), (wCap, s), (wSize, [49]), (wSup, [49])]
def wdK : Nat → List UInt8
  | 0 => wSize
  | 1 => wSup
  | 2 => wWork
  | _ => wCap
def cK (k : Nat) (n : Int) : CP :=
  match k with
  | 0 => ⟨3, n, 1, 1, 1000000⟩
  | 1 => ⟨3, 1, n, 1, 1000000⟩
  | 2 => ⟨3, 1, 1, n, 1000000⟩
  | _ => ⟨3, 1, 1, 1, n⟩
theorem lk_good {k : Nat} (hk : k ≤ 3) {s : List UInt8} {n : Int} (hv : numB s = some n) (h1 : 1 ≤ n) (h2 : n ≤ mostOf (wdK k)) : tellP (LK k s) = .inr (cK k n) := by
  rcases (by omega : k = 0 ∨ k = 1 ∨ k = 2 ∨ k = 3) with rfl | rfl | rfl | rfl
  · have h : runP ⟨0, 0, 0, 1, 1000000⟩ [] (LK 0 s) = .inr (cK 0 n) := by
      show runP ⟨0, 0, 0, 1, 1000000⟩ [] [(wJob, kname 3), (wSize, s), (wSup, [49])] = .inr _
      rw [run_stepA (c' := ⟨3, 0, 0, 1, 1000000⟩) (by decide) (by decide) rfl]
      rw [run_stepA (c' := ⟨3, n, 0, 1, 1000000⟩) (by decide) (by decide) (setP_good (by decide) (by first | exact fun h => h.2 rfl | exact fun h => absurd h.1 (by decide)) (by decide) hv h1 h2)]
      rw [run_stepA (c' := ⟨3, n, 1, 1, 1000000⟩) (by decide) (by decide) (setP_good (by decide) (by first | exact fun h => h.2 rfl | exact fun h => absurd h.1 (by decide)) (by decide) num1 (by decide) (by decide))]
      rfl
    rw [tell_inr h, if_neg]
    show ¬ (n = 0 ∨ ((3 : Int) = 3 ∧ (1 : Int) = 0))
    omega
  · have h : runP ⟨0, 0, 0, 1, 1000000⟩ [] (LK 1 s) = .inr (cK 1 n) := by
      show runP ⟨0, 0, 0, 1, 1000000⟩ [] [(wJob, kname 3), (wSup, s), (wSize, [49])] = .inr _
      rw [run_stepA (c' := ⟨3, 0, 0, 1, 1000000⟩) (by decide) (by decide) rfl]
      rw [run_stepA (c' := ⟨3, 0, n, 1, 1000000⟩) (by decide) (by decide) (setP_good (by decide) (by first | exact fun h => h.2 rfl | exact fun h => absurd h.1 (by decide)) (by decide) hv h1 h2)]
      rw [run_stepA (c' := ⟨3, 1, n, 1, 1000000⟩) (by decide) (by decide) (setP_good (by decide) (by first | exact fun h => h.2 rfl | exact fun h => absurd h.1 (by decide)) (by decide) num1 (by decide) (by decide))]
      rfl
    rw [tell_inr h, if_neg]
    show ¬ ((1 : Int) = 0 ∨ ((3 : Int) = 3 ∧ n = 0))
    omega
  · have h : runP ⟨0, 0, 0, 1, 1000000⟩ [] (LK 2 s) = .inr (cK 2 n) := by
      show runP ⟨0, 0, 0, 1, 1000000⟩ [] [(wJob, kname 3), (wWork, s), (wSize, [49]), (wSup, [49])] = .inr _
      rw [run_stepA (c' := ⟨3, 0, 0, 1, 1000000⟩) (by decide) (by decide) rfl]
      rw [run_stepA (c' := ⟨3, 0, 0, n, 1000000⟩) (by decide) (by decide) (setP_good (by decide) (by first | exact fun h => h.2 rfl | exact fun h => absurd h.1 (by decide)) (by decide) hv h1 h2)]
      rw [run_stepA (c' := ⟨3, 1, 0, n, 1000000⟩) (by decide) (by decide) (setP_good (by decide) (by first | exact fun h => h.2 rfl | exact fun h => absurd h.1 (by decide)) (by decide) num1 (by decide) (by decide))]
      rw [run_stepA (c' := ⟨3, 1, 1, n, 1000000⟩) (by decide) (by decide) (setP_good (by decide) (by first | exact fun h => h.2 rfl | exact fun h => absurd h.1 (by decide)) (by decide) num1 (by decide) (by decide))]
      rfl
    rw [tell_inr h, if_neg (by show ¬ ((1 : Int) = 0 ∨ ((3 : Int) = 3 ∧ (1 : Int) = 0)); decide)]
  · have h : runP ⟨0, 0, 0, 1, 1000000⟩ [] (LK 3 s) = .inr (cK 3 n) := by
      show runP ⟨0, 0, 0, 1, 1000000⟩ [] [(wJob, kname 3), (wCap, s), (wSize, [49]), (wSup, [49])] = .inr _
      rw [run_stepA (c' := ⟨3, 0, 0, 1, 1000000⟩) (by decide) (by decide) rfl]
      rw [run_stepA (c' := ⟨3, 0, 0, 1, n⟩) (by decide) (by decide) (setP_good (by decide) (by first | exact fun h => h.2 rfl | exact fun h => absurd h.1 (by decide)) (by decide) hv h1 h2)]
      rw [run_stepA (c' := ⟨3, 1, 0, 1, n⟩) (by decide) (by decide) (setP_good (by decide) (by first | exact fun h => h.2 rfl | exact fun h => absurd h.1 (by decide)) (by decide) num1 (by decide) (by decide))]
      rw [run_stepA (c' := ⟨3, 1, 1, 1, n⟩) (by decide) (by decide) (setP_good (by decide) (by first | exact fun h => h.2 rfl | exact fun h => absurd h.1 (by decide)) (by decide) num1 (by decide) (by decide))]
      rfl
    rw [tell_inr h, if_neg (by show ¬ ((1 : Int) = 0 ∨ ((3 : Int) = 3 ∧ (1 : Int) = 0)); decide)]
theorem lk_bad {k : Nat} (hk : k ≤ 3) {s : List UInt8} (hv : ∀ x, numB s = some x → ¬ (1 ≤ x ∧ x ≤ mostOf (wdK k))) : tellP (LK k s) = .inl 1 := by
  rcases (by omega : k = 0 ∨ k = 1 ∨ k = 2 ∨ k = 3) with rfl | rfl | rfl | rfl
  · refine tell_inl ?_
    show runP ⟨0, 0, 0, 1, 1000000⟩ [] [(wJob, kname 3), (wSize, s), (wSup, [49])] = .inl 1
    rw [run_stepA (c' := ⟨3, 0, 0, 1, 1000000⟩) (by decide) (by decide) rfl]
    exact run_badA (setP_bad (by decide) (by first | exact fun h => h.2 rfl | exact fun h => absurd h.1 (by decide)) (by decide) hv)
  · refine tell_inl ?_
    show runP ⟨0, 0, 0, 1, 1000000⟩ [] [(wJob, kname 3), (wSup, s), (wSize, [49])] = .inl 1
    rw [run_stepA (c' := ⟨3, 0, 0, 1, 1000000⟩) (by decide) (by decide) rfl]
    exact run_badA (setP_bad (by decide) (by first | exact fun h => h.2 rfl | exact fun h => absurd h.1 (by decide)) (by decide) hv)
  · refine tell_inl ?_
    show runP ⟨0, 0, 0, 1, 1000000⟩ [] [(wJob, kname 3), (wWork, s), (wSize, [49]), (wSup, [49])] = .inl 1
    rw [run_stepA (c' := ⟨3, 0, 0, 1, 1000000⟩) (by decide) (by decide) rfl]
    exact run_badA (setP_bad (by decide) (by first | exact fun h => h.2 rfl | exact fun h => absurd h.1 (by decide)) (by decide) hv)
  · refine tell_inl ?_
    show runP ⟨0, 0, 0, 1, 1000000⟩ [] [(wJob, kname 3), (wCap, s), (wSize, [49]), (wSup, [49])] = .inl 1
    rw [run_stepA (c' := ⟨3, 0, 0, 1, 1000000⟩) (by decide) (by decide) rfl]
    exact run_badA (setP_bad (by decide) (by first | exact fun h => h.2 rfl | exact fun h => absurd h.1 (by decide)) (by decide) hv)
theorem fineK {a v : List UInt8} (h1 : (32 : UInt8) ∉ a) (h2 : (10 : UInt8) ∉ a) (h3 : (10 : UInt8) ∉ v) (hk : a ≠ wKeep) : FineL (a, v) ∧ (a, v).1 ≠ wKeep := ⟨⟨h1, h2, h3⟩, hk⟩
theorem lk_fine {k : Nat} (hk : k ≤ 3) {s : List UInt8} (hs : (10 : UInt8) ∉ s) : ∀ p ∈ LK k s, FineL p ∧ p.1 ≠ wKeep := by
  have h0 : FineL (wJob, kname 3) ∧ wJob ≠ wKeep := by unfold FineL; decide
  have h1 : FineL (wSize, [49]) ∧ wSize ≠ wKeep := by unfold FineL; decide
  have h2 : FineL (wSup, [49]) ∧ wSup ≠ wKeep := by unfold FineL; decide
  have h3 : FineL (wSize, s) ∧ (wSize, s).1 ≠ wKeep := fineK (by decide) (by decide) hs (by decide)
  have h4 : FineL (wSup, s) ∧ (wSup, s).1 ≠ wKeep := fineK (by decide) (by decide) hs (by decide)
  have h5 : FineL (wWork, s) ∧ (wWork, s).1 ≠ wKeep := fineK (by decide) (by decide) hs (by decide)
  have h6 : FineL (wCap, s) ∧ (wCap, s).1 ≠ wKeep := fineK (by decide) (by decide) hs (by decide)
  rcases (by omega : k = 0 ∨ k = 1 ∨ k = 2 ∨ k = 3) with rfl | rfl | rfl | rfl
  · intro p hp
    rcases List.mem_cons.1 hp with rfl | hp
    · exact h0
    rcases List.mem_cons.1 hp with rfl | hp
    · exact h3
    rcases List.mem_cons.1 hp with rfl | hp
    · exact h2
    cases hp
  · intro p hp
    rcases List.mem_cons.1 hp with rfl | hp
    · exact h0
    rcases List.mem_cons.1 hp with rfl | hp
    · exact h4
    rcases List.mem_cons.1 hp with rfl | hp
    · exact h1
    cases hp
  · intro p hp
    rcases List.mem_cons.1 hp with rfl | hp
    · exact h0
    rcases List.mem_cons.1 hp with rfl | hp
    · exact h5
    rcases List.mem_cons.1 hp with rfl | hp
    · exact h1
    rcases List.mem_cons.1 hp with rfl | hp
    · exact h2
    cases hp
  · intro p hp
    rcases List.mem_cons.1 hp with rfl | hp
    · exact h0
    rcases List.mem_cons.1 hp with rfl | hp
    · exact h6
    rcases List.mem_cons.1 hp with rfl | hp
    · exact h1
    rcases List.mem_cons.1 hp with rfl | hp
    · exact h2
    cases hp
theorem lk_len {k : Nat} (hk : k ≤ 3) {s : List UInt8} (hs : s.length ≤ 1000) : (linesB (LK k s)).length ≤ 200000 := by
  rcases (by omega : k = 0 ∨ k = 1 ∨ k = 2 ∨ k = 3) with rfl | rfl | rfl | rfl
  all_goals
    simp [LK, linesB, wJob, wSize, wSup, wWork, wCap, kname]
    omega
/-- A text that tells a fault at a place. -/
def NoTo (i : Nat) (w : World) (e : Ending) (w' : World) : Prop :=
  Below w.heap.size w w' ∧ ∃ b s, e = .returned (.tuple #[.agg #[.int .i64 0, .int .i64 0, .int .i64 0, .int .i64 0, .int .i64 0, .slice none 0 0], .iface 43 (.pointer (some ⟨b, 0, none⟩))]) ∧ Whole w' b 46 #[.int .i64 12, .int .i64 (i : Nat), .string s]
theorem parse_no {L : List (List UInt8 × List UInt8)} {i : Nat} (hL : ∀ p ∈ L, FineL p ∧ p.1 ≠ wKeep) (hn : (linesB L).length ≤ 200000) (ht : tellP L = .inl i) {X : ByteArray} (hX : X = str (linesB L)) (w : World) (hg : GT w) :
    Calls Tryd.prog 5 #[.string X] w (NoTo i w) := by
  subst hX
  refine (confParse_any L hL _ rfl hn w hg).mono ?_
  rintro e w' ⟨hb, ⟨j, hj, u, rfl, b, s, rfl, hw⟩ | ⟨c, hc, _⟩⟩
  · rw [ht] at hj
    obtain rfl := Sum.inl.inj hj
    exact ⟨hb, b, s, rfl, hw⟩
  · rw [ht] at hc; cases hc
/-- A text that tells what is asked. -/
def YesTo (c : CP) (w : World) (e : Ending) (w' : World) : Prop :=
  Below w.heap.size w w' ∧ e = .returned (.tuple #[.agg #[.int .i64 c.kind, .int .i64 c.size, .int .i64 c.sup, .int .i64 c.work, .int .i64 c.cap, .slice none 0 0], .nilIface])
theorem parse_yes {L : List (List UInt8 × List UInt8)} {c : CP} (hL : ∀ p ∈ L, FineL p ∧ p.1 ≠ wKeep) (hn : (linesB L).length ≤ 200000) (ht : tellP L = .inr c) {X : ByteArray} (hX : X = str (linesB L)) (w : World) (hg : GT w) :
    Calls Tryd.prog 5 #[.string X] w (YesTo c w) := by
  subst hX
  refine (confParse_any L hL _ rfl hn w hg).mono ?_
  rintro e w' ⟨hb, ⟨j, hj, _⟩ | ⟨c', hc, rfl⟩⟩
  · rw [ht] at hj; cases hj
  · rw [ht] at hc
    obtain rfl := Sum.inr.inj hc
    exact ⟨hb, rfl⟩
theorem at_hit (b : Nat) (c : Int) (w : World) (hg : ErrT w) (hc : w.cell? ⟨b, 1, none⟩ = some (.int .i64 c)) :
    Calls Tryd.prog 7 #[.iface 43 (.pointer (some ⟨b, 0, none⟩))] w fun e w' => e = .returned (.int .i64 c) ∧ Below w.heap.size w w' := by
  have hb : b < w.heap.size := World.block_lt_of_cell? _ _ hc
  go_enter Tryd.func7, Tryd.ntmps7
  go_wp2_with (go_at_call 13; refine (find_hit _ _ hg).mono ?_; rintro ev w' ⟨rfl, hw⟩; have hc' := (hw.cell (p := ⟨b, 1, none⟩) hb).trans hc; clear hc)
  go_ret
  exact ⟨rfl, by assumption⟩
set_option maxRecDepth 100000 in
set_option maxHeartbeats 4000000 in
theorem alive_ok (w : World) (hg : GT w) : Calls Tryd.prog 4 #[] w fun e w' => e = .returned (.bool true) ∧ Below w.heap.size w w' := by
  have f1 : ∀ p ∈ [(wJob, kname 1), (wSize, [51])], FineL p ∧ p.1 ≠ wKeep := by
    intro p hp
    rcases List.mem_cons.1 hp with rfl | hp
    · unfold FineL; decide
    rcases List.mem_cons.1 hp with rfl | hp
    · unfold FineL; decide
    cases hp
  have f2 : ∀ p ∈ [(wSize, [51]), (wJob, kname 1)], FineL p ∧ p.1 ≠ wKeep := by
    intro p hp
    rcases List.mem_cons.1 hp with rfl | hp
    · unfold FineL; decide
    rcases List.mem_cons.1 hp with rfl | hp
    · unfold FineL; decide
    cases hp
  have HG := Lib.hid hg
  have P1 := Lib.hid (parse_yes f1 (by decide) tell_alive (X := ⟨#[106, 111, 98, 32, 109, 111, 116, 105, 102, 115, 10, 115, 105, 122, 101, 32, 51, 10]⟩) rfl w hg)
  have P2 := Lib.hid (fun (W : World) (h : Below w.heap.size w W) => parse_no f2 (by decide) tell_no (X := ⟨#[115, 105, 122, 101, 32, 51, 10, 106, 111, 98, 32, 109, 111, 116, 105, 102, 115, 10]⟩) rfl W (HG.out.below h (Nat.le_refl _)))
  clear f1 f2 hg
  go_enter Tryd.func4, Tryd.ntmps4
  go_wp2_with fail
  refine P1.out.mono ?_
  rintro e w1 ⟨hb1, rfl⟩
  have hb2 := hb1.alloc hb1.size (.cells #[.int .i64 1, .int .i64 3, .int .i64 0, .int .i64 1, .int .i64 1000000, .slice none 0 0] 29)
  have hW := Whole.new w1 29 #[.int .i64 1, .int .i64 3, .int .i64 0, .int .i64 1, .int .i64 1000000, .slice none 0 0]
  have HB2 := Lib.hid hb2; have HW := Lib.hid hW
  have HP := Lib.hid (P2.out _ hb2)
  clear hb1 hb2 hW
  simp only
  go_wp2_with fail
  refine HP.out.mono ?_
  rintro e w3 ⟨hb3, b, s, rfl, hf⟩
  have hb4 := (HB2.out.trans (hb3.mono HB2.out.size))
  have hW3 := HW.out.below hb3 HW.out.lt
  have hb5 := hb4.alloc hb4.size (.cells #[.int .i64 0, .int .i64 0, .int .i64 0, .int .i64 0, .int .i64 0, .slice none 0 0] 29)
  have hW5 := hW3.alloc (.cells #[.int .i64 0, .int .i64 0, .int .i64 0, .int .i64 0, .int .i64 0, .slice none 0 0] 29)
  have hf5 := hf.alloc (.cells #[.int .i64 0, .int .i64 0, .int .i64 0, .int .i64 0, .int .i64 0, .slice none 0 0] 29)
  have c0 : (w3.alloc (.cells #[.int .i64 0, .int .i64 0, .int .i64 0, .int .i64 0, .int .i64 0, .slice none 0 0] 29)).cell? ⟨w1.heap.size, 0, none⟩ = some (.int .i64 1) := hW5.cell 0
  have c1 : (w3.alloc (.cells #[.int .i64 0, .int .i64 0, .int .i64 0, .int .i64 0, .int .i64 0, .slice none 0 0] 29)).cell? ⟨w1.heap.size, 1, none⟩ = some (.int .i64 3) := hW5.cell 1
  have c3 : (w3.alloc (.cells #[.int .i64 0, .int .i64 0, .int .i64 0, .int .i64 0, .int .i64 0, .slice none 0 0] 29)).cell? ⟨w1.heap.size, 3, none⟩ = some (.int .i64 1) := hW5.cell 3
  have HCD := Lib.hid (code_hit b 12 _ (HG.out.below hb5 (Nat.le_refl _)).et (by rw [hf5.cell 0]; rfl))
  have HB5 := Lib.hid hb5; have HF5 := Lib.hid hf5
  have hlt := hW3.lt
  clear hb4 hb5 hf hf5 hW3 hW5 hb3
  go_wp2_with fail
  refine HCD.out.mono ?_; rintro e w6 ⟨rfl, hb6⟩
  have hb7 := HB5.out.trans (hb6.mono HB5.out.size)
  have HB7 := Lib.hid hb7
  have HAT := Lib.hid (at_hit b ((0 : Nat) : Int) w6 (HG.out.below hb7 (Nat.le_refl _)).et (by rw [(HF5.out.below hb6 HF5.out.lt).cell 1]; rfl))
  clear hb7 hb6
  go_wp2_with fail
  refine HAT.out.mono ?_; rintro e w8 ⟨rfl, hb8⟩
  have HB8 := Lib.hid (HB7.out.trans (hb8.mono HB7.out.size))
  clear hb8
  go_wp2_with fail
  go_ret
  exact ⟨rfl, HB8.out⟩
end Go.Proofs.YtbbdammdiplagaaDoor
