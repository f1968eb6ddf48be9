/- Lines of a graph's text; pure. load: number; strings.Split at a blank; a fault's text and kind. load: take. Written by gen_load2.py. load: which line a graph's error is of. -/
import Derived.Test.YtnjkjgmnnmgngaaGreatDoorJ3
import Derived.Test.YtnjkjgmnnmgngaaGreatDoorJ5
import Derived.Test.YtnjkjgmnnmgngaaGreatDoorJ4
import Derived.Test.YtnjkjgmnnmgngaaGreatDoorJ1
import Derived.BigQuiet
import Derived.Deep.QuietTactic
import Derived.WalkSmall
import Derived.Deep.DeepCutAuto
import Derived.WalkSpells
import Derived.Test.YtnjkjgmnnmgngaaGreatDoorShelf
import Derived.Deep.RegionHeld3
namespace Go.Proofs.YtnjkjgmnnmgngaaGreatDoor
section
/-- What the lines so far tell. -/
structure Dr where
  l : List Int
  e : List (Int × Int)
/-- A line's words. -/
def wordsOf (s : List UInt8) : List (List UInt8) := Lib.splitK [32] 0 (Lib.count s [32]) s
theorem wordsOf_spec (s : List UInt8) : wordsOf s ≠ [] ∧ joinB 32 (wordsOf s) = s ∧ ∀ p ∈ wordsOf s, (32 : UInt8) ∉ p := by
  obtain ⟨q1, q2, q3⟩ := pieces 32 (Lib.count s [32]) s rfl
  refine ⟨fun e => ?_, q2, q3⟩
  have := congrArg List.length e
  rw [show (wordsOf s).length = _ from q1] at this
  simp at this
theorem words_eq {s : List UInt8} {P : List (List UInt8)} (h0 : P ≠ []) (hj : joinB 32 P = s) (hx : ∀ p ∈ P, (32 : UInt8) ∉ p) : wordsOf s = P := by
  obtain ⟨q1, q2, q3⟩ := wordsOf_spec s
  exact joinB_inj2 q1 h0 q3 hx (q2.trans hj.symm)
def takeW (d : Dr) : List (List UInt8) → Option Dr
  | [k, a, b] =>
    match numB6 a, numB6 b with
    | some x, some y => if k = [118] then (if x = d.l.length ∧ d.e = [] then some ⟨d.l ++ [y], d.e⟩ else none) else if k = [101] then some ⟨d.l, d.e ++ [(x, y)]⟩ else none
    | _, _ => none
  | _ => none
def takeL (d : Dr) (s : List UInt8) : Option Dr := takeW d (wordsOf s)
def lineF (s : List UInt8) : List UInt8 := (Lib.cut s [10]).1
def restF (s : List UInt8) : List UInt8 := (Lib.cut s [10]).2.1
def endsF (s : List UInt8) : Bool := (Lib.cut s [10]).2.2
/-- What a text's lines make of what the lines ahead told, or the number of one that can't be. -/
def runD : Nat → Dr → Nat → List UInt8 → Nat ⊕ Dr
  | 0, d, _, _ => .inr d
  | n + 1, d, i, s => if s = [] then .inr d else if endsF s = false then .inl i else
    match takeL d (lineF s) with
    | none => .inl i
    | some d' => runD n d' (i + 1) (restF s)
def textD (s : List UInt8) : Nat ⊕ Dr := runD s.length ⟨[], []⟩ 0 s
theorem runD_nil (n : Nat) (d : Dr) (i : Nat) : runD n d i [] = .inr d := by cases n <;> simp [runD]
theorem restF_len {s : List UInt8} (h : s ≠ []) : (restF s).length < s.length := by
  unfold restF
  rcases cut_cases s 10 with hn | ⟨p, q, rfl, hp⟩
  · rw [cut_no hn]
    exact List.length_pos_iff.2 h
  · rw [cut_yes hp]
    simp
    omega
theorem runD_fuel : ∀ (n : Nat) (d : Dr) (i : Nat) (s : List UInt8) (m : Nat), s.length ≤ n → s.length ≤ m → runD n d i s = runD m d i s := by
  intro n
  induction n with
  | zero =>
    intro d i s m h1 _
    obtain rfl := List.eq_nil_of_length_eq_zero (Nat.le_zero.1 h1)
    rw [runD_nil, runD_nil]
  | succ n ih =>
    intro d i s m h1 h2
    by_cases h0 : s = []
    · subst h0; rw [runD_nil, runD_nil]
    have hl := List.length_pos_iff.2 h0
    have hr := restF_len h0
    obtain ⟨m', rfl⟩ : ∃ m', m = m' + 1 := ⟨m - 1, by omega⟩
    rw [runD, runD, if_neg h0, if_neg h0]
    by_cases he : endsF s = false
    · rw [if_pos he, if_pos he]
    · rw [if_neg he, if_neg he]
      cases takeL d (lineF s) with
      | none => rfl
      | some d' => exact ih d' (i + 1) (restF s) m' (by omega) (by omega)
/-- A text that begins with some lines. -/
def Runs (d : Dr) (i : Nat) (s : List UInt8) (d' : Dr) (i' : Nat) (r : List UInt8) : Prop := r.length ≤ s.length ∧ ∀ n, s.length ≤ n → runD n d i s = runD n d' i' r
theorem Runs.refl (d : Dr) (i : Nat) (s : List UInt8) : Runs d i s d i s := ⟨Nat.le_refl _, fun _ _ => rfl⟩
theorem Runs.trans {d1 d2 d3 : Dr} {i1 i2 i3 : Nat} {s1 s2 s3 : List UInt8} (h : Runs d1 i1 s1 d2 i2 s2) (k : Runs d2 i2 s2 d3 i3 s3) : Runs d1 i1 s1 d3 i3 s3 :=
  ⟨Nat.le_trans k.1 h.1, fun n hn => (h.2 n hn).trans (k.2 n (Nat.le_trans h.1 hn))⟩
theorem line_split {p r : List UInt8} (h : (10 : UInt8) ∉ p) : lineF (p ++ 10 :: r) = p ∧ restF (p ++ 10 :: r) = r ∧ endsF (p ++ 10 :: r) = true ∧ p ++ 10 :: r ≠ [] := by
  refine ⟨?_, ?_, ?_, by simp⟩
  · unfold lineF; rw [cut_yes h]
  · unfold restF; rw [cut_yes h]
  · unfold endsF; rw [cut_yes h]
theorem runs_line {d d' : Dr} {i : Nat} {p r : List UInt8} (h : (10 : UInt8) ∉ p) (ht : takeL d p = some d') : Runs d i (p ++ 10 :: r) d' (i + 1) r := by
  obtain ⟨q1, q2, q3, q4⟩ := line_split (r := r) h
  refine ⟨by simp; omega, fun n hn => ?_⟩
  obtain ⟨m, rfl⟩ : ∃ m, n = m + 1 := ⟨n - 1, by simp at hn; omega⟩
  rw [runD, if_neg q4, if_neg (by rw [q3]; simp), q1, ht, q2]
  exact runD_fuel m d' (i + 1) r (m + 1) (by simp at hn; omega) (by simp at hn; omega)
theorem stops_line {d : Dr} {i : Nat} {p r : List UInt8} (h : (10 : UInt8) ∉ p) (ht : takeL d p = none) : ∀ n, (p ++ 10 :: r).length ≤ n → runD n d i (p ++ 10 :: r) = .inl i := by
  obtain ⟨q1, q2, q3, q4⟩ := line_split (r := r) h
  intro n hn
  obtain ⟨m, rfl⟩ : ∃ m, n = m + 1 := ⟨n - 1, by simp at hn; omega⟩
  rw [runD, if_neg q4, if_neg (by rw [q3]; simp), q1, ht]
theorem textD_runs {s r : List UInt8} {d : Dr} {i : Nat} (h : Runs ⟨[], []⟩ 0 s d i r) : textD s = runD r.length d i r := by
  unfold textD
  rw [h.2 _ (Nat.le_refl _)]
  exact runD_fuel _ d i r _ h.1 (Nat.le_refl _)
/-! ### Lines of a graph -/
def vLine (i x : Int) : List UInt8 := 118 :: 32 :: (decI i ++ 32 :: decI x)
def eLine (e : Int × Int) : List UInt8 := 101 :: 32 :: (decI e.1 ++ 32 :: decI e.2)
def vLines : Nat → List Int → List UInt8
  | _, [] => []
  | i, x :: t => vLine (i : Int) x ++ 10 :: vLines (i + 1) t
def eLines : List (Int × Int) → List UInt8
  | [] => []
  | e :: t => eLine e ++ 10 :: eLines t
theorem decI_no10 (n : Int) : (10 : UInt8) ∉ decI n := dec_not (by decide)
theorem decI_no32 (n : Int) : (32 : UInt8) ∉ decI n := dec_not (by decide)
theorem vLine_no (i x : Int) : (10 : UInt8) ∉ vLine i x := by
  unfold vLine
  intro h
  rcases List.mem_cons.1 h with h | h
  · exact absurd h (by decide)
  · rcases List.mem_cons.1 h with h | h
    · exact absurd h (by decide)
    · rcases List.mem_append.1 h with h | h
      · exact decI_no10 _ h
      · rcases List.mem_cons.1 h with h | h
        · exact absurd h (by decide)
        · exact decI_no10 _ h
theorem eLine_no (e : Int × Int) : (10 : UInt8) ∉ eLine e := by
  unfold eLine
  intro h
  rcases List.mem_cons.1 h with h | h
  · exact absurd h (by decide)
  · rcases List.mem_cons.1 h with h | h
    · exact absurd h (by decide)
    · rcases List.mem_append.1 h with h | h
      · exact decI_no10 _ h
      · rcases List.mem_cons.1 h with h | h
        · exact absurd h (by decide)
        · exact decI_no10 _ h
theorem num_decI {x : Int} (h0 : 0 ≤ x) (h1 : x ≤ 999999) : numB6 (decI x) = some x := by
  unfold decI
  rw [numB6_dec (by omega), Int.toNat_of_nonneg h0]
theorem words_v (i x : Int) : wordsOf (vLine i x) = [[118], decI i, decI x] := by
  refine words_eq (by simp) rfl (fun p hp => ?_)
  simp only [List.mem_cons, List.not_mem_nil, or_false] at hp
  rcases hp with rfl | rfl | rfl
  · decide
  · exact decI_no32 _
  · exact decI_no32 _
theorem words_e (e : Int × Int) : wordsOf (eLine e) = [[101], decI e.1, decI e.2] := by
  refine words_eq (by simp) rfl (fun p hp => ?_)
  simp only [List.mem_cons, List.not_mem_nil, or_false] at hp
  rcases hp with rfl | rfl | rfl
  · decide
  · exact decI_no32 _
  · exact decI_no32 _
theorem take_v {L : List Int} {x : Int} (hl : L.length ≤ 999999) (h0 : 0 ≤ x) (h1 : x ≤ 999999) : takeL ⟨L, []⟩ (vLine (L.length : Int) x) = some ⟨L ++ [x], []⟩ := by
  unfold takeL takeW
  rw [words_v]
  simp only
  rw [num_decI (by omega) (by omega), num_decI h0 h1]
  simp
theorem take_e {d : Dr} {e : Int × Int} (h0 : 0 ≤ e.1 ∧ e.1 ≤ 999999) (h1 : 0 ≤ e.2 ∧ e.2 ≤ 999999) : takeL d (eLine e) = some ⟨d.l, d.e ++ [e]⟩ := by
  unfold takeL takeW
  rw [words_e]
  simp only
  rw [num_decI h0.1 h0.2, num_decI h1.1 h1.2]
  simp
theorem runs_v : ∀ (X L : List Int) (i : Nat) (r : List UInt8), L.length + X.length ≤ 999999 → (∀ x ∈ X, 0 ≤ x ∧ x ≤ 999999) → Runs ⟨L, []⟩ i (vLines L.length X ++ r) ⟨L ++ X, []⟩ (i + X.length) r
  | [], L, i, r, _, _ => by
    rw [List.append_nil]
    exact Runs.refl _ _ _
  | x :: t, L, i, r, hl, hx => by
    rw [List.length_cons] at hl
    have h1 := hx x (by simp)
    have ht := take_v (L := L) (x := x) (by omega) h1.1 h1.2
    have hr := runs_line (i := i) (r := vLines (L.length + 1) t ++ r) (vLine_no _ _) ht
    have ih := runs_v t (L ++ [x]) (i + 1) r (by simp; omega) (fun y hy => hx y (List.mem_cons_of_mem _ hy))
    rw [List.length_append, List.length_singleton] at ih
    have e : vLines L.length (x :: t) ++ r = vLine (L.length : Int) x ++ 10 :: (vLines (L.length + 1) t ++ r) := by
      show (vLine (L.length : Int) x ++ 10 :: vLines (L.length + 1) t) ++ r = _
      simp
    rw [e]
    have := hr.trans ih
    rw [List.append_assoc] at this
    rw [List.length_cons, show i + (t.length + 1) = i + 1 + t.length by omega]
    exact this
theorem runs_e : ∀ (E : List (Int × Int)) (d : Dr) (i : Nat) (r : List UInt8), (∀ e ∈ E, (0 ≤ e.1 ∧ e.1 ≤ 999999) ∧ 0 ≤ e.2 ∧ e.2 ≤ 999999) → Runs d i (eLines E ++ r) ⟨d.l, d.e ++ E⟩ (i + E.length) r
  | [], d, i, r, _ => by
    rw [List.append_nil]
    exact Runs.refl _ _ _
  | e :: t, d, i, r, hx => by
    have h1 := hx e (by simp)
    have hr := runs_line (i := i) (r := eLines t ++ r) (eLine_no e) (take_e (d := d) h1.1 h1.2)
    have ih := runs_e t ⟨d.l, d.e ++ [e]⟩ (i + 1) r (fun y hy => hx y (List.mem_cons_of_mem _ hy))
    have e' : eLines (e :: t) ++ r = eLine e ++ 10 :: (eLines t ++ r) := by
      show (eLine e ++ 10 :: eLines t) ++ r = _
      simp
    rw [e']
    have := hr.trans ih
    simp only [List.append_assoc] at this
    rw [List.length_cons, show i + (t.length + 1) = i + 1 + t.length by omega]
    exact this
/-- The text of labels and edges. -/
def graphT (L : List Int) (E : List (Int × Int)) : List UInt8 := vLines 0 L ++ eLines E
theorem runs_graph {L : List Int} {E : List (Int × Int)} (r : List UInt8) (hl : L.length ≤ 999999) (hx : ∀ x ∈ L, 0 ≤ x ∧ x ≤ 999999) (he : ∀ e ∈ E, (0 ≤ e.1 ∧ e.1 ≤ 999999) ∧ 0 ≤ e.2 ∧ e.2 ≤ 999999) : Runs ⟨[], []⟩ 0 (graphT L E ++ r) ⟨L, E⟩ (L.length + E.length) r := by
  have h1 := runs_v L [] 0 (eLines E ++ r) (by simpa using hl) hx
  have h2 := runs_e E ⟨L, []⟩ (0 + L.length) r he
  rw [Nat.zero_add] at h1 h2
  have := h1.trans h2
  unfold graphT
  rw [List.append_assoc]
  exact this
theorem text_graph {L : List Int} {E : List (Int × Int)} (hl : L.length ≤ 999999) (hx : ∀ x ∈ L, 0 ≤ x ∧ x ≤ 999999) (he : ∀ e ∈ E, (0 ≤ e.1 ∧ e.1 ≤ 999999) ∧ 0 ≤ e.2 ∧ e.2 ≤ 999999) : textD (graphT L E) = .inr ⟨L, E⟩ := by
  have h := textD_runs (runs_graph [] hl hx he)
  rw [List.append_nil] at h
  exact h
/-- A line behind them that can't be. -/
theorem text_bad {L : List Int} {E : List (Int × Int)} {p r : List UInt8} (hl : L.length ≤ 999999) (hx : ∀ x ∈ L, 0 ≤ x ∧ x ≤ 999999) (he : ∀ e ∈ E, (0 ≤ e.1 ∧ e.1 ≤ 999999) ∧ 0 ≤ e.2 ∧ e.2 ≤ 999999) (hp : (10 : UInt8) ∉ p) (ht : takeL ⟨L, E⟩ p = none) : textD (graphT L E ++ (p ++ 10 :: r)) = .inl (L.length + E.length) := by
  rw [textD_runs (runs_graph (p ++ 10 :: r) hl hx he)]
  exact stops_line hp ht _ (Nat.le_refl _)
/-- Which line the graph's error is of. -/
def lineErr (d : Dr) (c p : Int) : Int := if c = 6 then 0 else if (d.l.any fun x => decide (255 < x)) = true then p else d.l.length + p
/-- What a text tells: the place of a fault, or a graph. -/
def loadT (s : List UInt8) : Int ⊕ Dr := match textD s with
  | .inl i => .inl (i : Int)
  | .inr d => match newFault d.l d.e with
    | none => .inr d
    | some (c, p) => .inl (lineErr d c p)
theorem runD_small : ∀ (n : Nat) (d d' : Dr) (i : Nat) (s : List UInt8), (∀ e ∈ d.e, (0 ≤ e.1 ∧ e.1 ≤ 999999) ∧ 0 ≤ e.2 ∧ e.2 ≤ 999999) → runD n d i s = .inr d' → ∀ e ∈ d'.e, (0 ≤ e.1 ∧ e.1 ≤ 999999) ∧ 0 ≤ e.2 ∧ e.2 ≤ 999999 := by
  intro n
  induction n with
  | zero =>
    intro d d' i s h hr
    unfold runD at hr
    injection hr with hr
    rw [← hr]; exact h
  | succ n ih =>
    intro d d' i s h hr
    unfold runD at hr
    split at hr
    · injection hr with hr
      rw [← hr]; exact h
    · split at hr
      · cases hr
      · split at hr
        · cases hr
        · rename_i d2 ht
          refine ih d2 d' (i + 1) _ ?_ hr
          unfold takeL takeW at ht
          split at ht
          · split at ht
            · rename_i x y hx hy
              obtain ⟨x0, x1, _⟩ := numB6_some hx
              obtain ⟨y0, y1, _⟩ := numB6_some hy
              split at ht
              · split at ht
                · injection ht with ht
                  rw [← ht]; exact h
                · cases ht
              · split at ht
                · injection ht with ht
                  rw [← ht]
                  intro e he
                  rcases List.mem_append.1 he with he | he
                  · exact h e he
                  · obtain rfl := List.mem_singleton.1 he
                    exact ⟨⟨x0, x1⟩, y0, y1⟩
                · cases ht
            · cases ht
          · cases ht
theorem textD_small {s : List UInt8} {d : Dr} (h : textD s = .inr d) : ∀ e ∈ d.e, (0 ≤ e.1 ∧ e.1 ≤ 999999) ∧ 0 ≤ e.2 ∧ e.2 ≤ 999999 :=
  runD_small _ _ _ _ _ (fun e he => by cases he) h
end

section
open Go.RowKit

/-- What number tells. -/
def NumTo (l : List UInt8) (w : World) (e : Ending) (w' : World) : Prop :=
  Below w.heap.size w w' ∧ ∃ (n : Int) (ok : Bool), e = .returned (.tuple #[.int .i64 n, .bool ok]) ∧ ((ok = true ∧ 0 ≤ n ∧ n ≤ 999999 ∧ Lib.decDigits n.toNat = l) ∨ (ok = false ∧ ∀ m : Nat, m ≤ 999999 → Lib.decDigits m ≠ l))
set_option maxRecDepth 100000 in
set_option maxHeartbeats 4000000 in
theorem number_any (l : List UInt8) (hl : l.length ≤ 1000000) (w : World) (hg : GT w) :
    Calls Tryz.prog 74 #[.string (str l)] w (NumTo l w) := by
  have HAT := Lib.hid (atoi_at l (by omega) w hg)
  have HG := Lib.hid hg
  have hsz : (str l).size = l.length := rfl
  obtain ⟨s, hs⟩ : ∃ s, str l = s := ⟨_, rfl⟩
  rw [hs] at HAT hsz ⊢
  have HS := Lib.hid hs
  obtain ⟨n, hn⟩ : ∃ n, l.length = n := ⟨_, rfl⟩
  rw [hn] at hsz hl
  have HN := Lib.hid hn
  have HSZ := Lib.hid hsz
  clear hg hs hn
  go_enter Tryz.func74, Tryz.ntmps74
  go_wp2_with fail
  refine HAT.out.mono ?_
  rintro e w1 ⟨hb1, ⟨v, hv, v0, v1, rfl⟩ | ⟨hno, x, N, rfl⟩⟩
  · have HB1 := Lib.hid hb1; have HV := Lib.hid hv
    have HI := fun (hv0 : 0 ≤ v) => itoa_at v.toNat (by omega) w1 (HG.out.below hb1 (Nat.le_refl _))
    have HI := Lib.hid HI
    clear hb1 hv
    have hneg : v < 0 → ∀ m : Nat, m ≤ 999999 → Lib.decDigits m ≠ l := fun h m hm e => by
      have h2 := HV.out
      rw [← e, atoi_dec m (by omega)] at h2
      injection h2 with h2
      omega
    have HNEG := Lib.hid hneg
    clear hneg
    by_cases c1 : 0 ≤ v
    · have HI := HI.out c1
      rw [Int.toNat_of_nonneg c1] at HI
      obtain ⟨d, hd⟩ : ∃ d, str (Lib.decDigits v.toNat) = d := ⟨_, rfl⟩
      rw [hd] at HI
      have HI := Lib.hid HI; have HD := Lib.hid hd
      clear hd
      have t1 : decide (0 ≤ v) = true := decide_eq_true c1
      by_cases c2 : n ≤ 6
      · have t2 : decide ((s.size : Int) ≤ 6) = true := decide_eq_true (by omega)
        have t2' : decide (s.size ≤ 6) = true := decide_eq_true (by omega)
        clear hsz
        obtain ⟨z, hz⟩ : ∃ z, (d.toList == s.toList) = z := ⟨_, rfl⟩
        have HZ := Lib.hid hz; have HC1 := Lib.hid c1; have HC2 := Lib.hid c2
        clear hz
        go_wp2_with fail
        refine HI.out.mono ?_; rintro e w2 ⟨rfl, hb2⟩
        have HB2 := Lib.hid hb2
        have hbb := HB1.out.trans (hb2.mono HB1.out.size)
        have HBB := Lib.hid hbb
        clear hb2 hbb
        have t9 : (d.toList == s.toList) = z := HZ.out
        go_wp2_with fail
        go_ret2
        refine ⟨HBB.out, v, _, rfl, ?_⟩
        cases z with
        | true =>
          have he : Lib.decDigits v.toNat = l := by
            have h := HZ.out
            rw [← HD.out, ← HS.out, str_toList, str_toList, beq_iff_eq] at h
            exact h
          have hl6 : (Lib.decDigits v.toNat).length ≤ 6 := by rw [he, HN.out]; exact HC2.out
          have := (dec_len_iff v.toNat 6 (by decide)).1 hl6
          exact Or.inl ⟨rfl, HC1.out, by omega, he⟩
        | false =>
          refine Or.inr ⟨rfl, fun m hm e => ?_⟩
          have h2 := HV.out
          rw [← e, atoi_dec m (by omega)] at h2
          injection h2 with h2
          have h := HZ.out
          rw [← HD.out, ← HS.out, str_toList, str_toList, ← h2, Int.toNat_natCast, e] at h
          simp at h
      · have t2 : decide ((s.size : Int) ≤ 6) = false := decide_eq_false (by omega)
        have t2' : decide (s.size ≤ 6) = false := decide_eq_false (by omega)
        have HC2 := Lib.hid c2
        clear hsz c2
        go_wp2_with fail
        go_ret2
        refine ⟨HB1.out, v, false, rfl, Or.inr ⟨rfl, fun m hm e => ?_⟩⟩
        have h6 := (dec_len_iff m 6 (by decide)).2 (by omega)
        rw [e, HN.out] at h6
        exact HC2.out h6
    · have t1 : decide (0 ≤ v) = false := decide_eq_false c1
      have HC1 := Lib.hid c1
      clear c1
      go_wp2_with fail
      go_ret2
      exact ⟨HB1.out, v, false, rfl, Or.inr ⟨rfl, HNEG.out (by have := HC1.out; omega)⟩⟩
  · have HNO := Lib.hid hno; have HB1 := Lib.hid hb1
    clear hno hb1
    go_wp2_with fail
    go_ret2
    exact ⟨HB1.out, x, false, rfl, Or.inr ⟨rfl, fun m hm e => HNO.out m (by rw [← e]; exact atoi_dec m (by omega))⟩⟩
/-- number, by the pure reading. -/
def NumC (v : List UInt8) (w : World) (e : Ending) (w' : World) : Prop :=
  Below w.heap.size w w' ∧ ∃ (n : Int) (ok : Bool), e = .returned (.tuple #[.int .i64 n, .bool ok]) ∧ ((ok = true ∧ numB6 v = some n) ∨ (ok = false ∧ numB6 v = none))
theorem number_c (v : List UInt8) (hv : v.length ≤ 1000000) (w : World) (hg : GT w) : Calls Tryz.prog 74 #[.string (str v)] w (NumC v w) := by
  refine (number_any v hv w hg).mono ?_
  rintro e w' ⟨hb, n, ok, rfl, ⟨rfl, h0, h1, he⟩ | ⟨rfl, hno⟩⟩
  · refine ⟨hb, n, true, rfl, Or.inl ⟨rfl, ?_⟩⟩
    have := numB6_dec (m := n.toNat) (by omega)
    rw [he, Int.toNat_of_nonneg h0] at this
    exact this
  · refine ⟨hb, n, false, rfl, Or.inr ⟨rfl, ?_⟩⟩
    cases h : numB6 v with
    | none => rfl
    | some x =>
      obtain ⟨a, b, c⟩ := numB6_some h
      exact absurd c (hno x.toNat (by omega))
/-- What Split tells: the pieces, in a block of its own. -/
def Split32 (s : List UInt8) (w : World) (e : Ending) (w' : World) : Prop :=
  Below w.heap.size w w' ∧ ∃ P, e = .returned (.slice (some ⟨w.heap.size, 0, none⟩) P.length P.length) ∧ P = wordsOf s ∧ ∃ cs, Whole w' w.heap.size 9 cs ∧ ∀ i, i < P.length → cs[i]? = some (.string (str (P.getD i [])))
theorem split32_at (s : List UInt8) (w : World) (hg : GT w) (hs : s.length < 4294967281) :
    Calls Tryz.prog 73 #[.string (str s), .string ⟨#[32]⟩] w (Split32 s w) := by
  obtain ⟨m, hm⟩ := hg.ml
  refine (Tryz.strings_Split (str s) ⟨#[32]⟩ m w hs hm (Nat.le_refl _)).mono ?_
  rintro e w' ⟨rfl, rfl⟩
  refine ⟨(Below.refl _ _).alloc (Nat.le_refl _) _, ?_⟩
  obtain ⟨X, hX⟩ : ∃ X, Lib.splitB ⟨#[32]⟩ 0 (Lib.countB (str s) ⟨#[32]⟩) (str s) = X := ⟨_, rfl⟩
  have hd := Lib.splitB_data ⟨#[32]⟩ 0 (Lib.countB (str s) ⟨#[32]⟩) (str s)
  obtain ⟨q1, _, _⟩ := pieces 32 (Lib.countB (str s) ⟨#[32]⟩) s rfl
  have hd' : X.map (·.data.toList) = Lib.splitK [32] 0 (Lib.countB (str s) ⟨#[32]⟩) s := by rw [← hX, hd]; rfl
  rw [← hd'] at q1
  rw [hX]
  rw [List.length_map] at q1
  refine ⟨X.map (·.data.toList), by rw [List.length_map, q1], hd', _, Whole.new _ _ _, fun i hi => ?_⟩
  · rw [List.length_map] at hi
    have e1 : (X.map (·.data.toList)).getD i [] = (X[i]).data.toList := by simp [List.getD, hi]
    rw [e1, str_of]
    simp [hi]

/-- A fault alone is a chain. -/
theorem fault_one {c p : Int} {w : World} {v : Value} (h : FaultAt c p w v) : ∃ b s, ErrAt w 0 (fun _ => v) (fun _ => 0) (fun _ => ⟨#[]⟩) b c p s ∧ s.size ≤ 100 := by
  obtain ⟨b, s, rfl, hw, hs⟩ := h
  exact ⟨b, s, ⟨⟨fun i hi => absurd hi (Nat.not_lt_zero i), fun i hi => absurd hi (Nat.not_lt_zero i), fun i hi => absurd hi (Nat.not_lt_zero i)⟩, rfl, hw⟩, hs⟩
set_option maxRecDepth 100000 in
theorem faultText_any {c p : Int} {w : World} {v : Value} (h : FaultAt c p w v) (hg : ErrT w) : Calls Tryz.prog 28 #[v] w fun e w' => (∃ s : ByteArray, e = .returned (.string s) ∧ s.size ≤ 100) ∧ Below w.heap.size w w' := by
  obtain ⟨b, s, h1, hs⟩ := fault_one h
  refine (text_chain w hg (by decide) h1 (by simp [lead]; omega)).mono fun e w' ⟨he, hb⟩ => ⟨⟨_, he, ?_⟩, hb⟩
  show (lead _ 0 ++ s.data.toList).toArray.size ≤ 100
  have : s.data.size ≤ 100 := hs
  simpa [lead] using this
set_option maxRecDepth 100000 in
theorem faultIs_any {c p : Int} {w : World} {v : Value} (h : FaultAt c p w v) (ct : Int) : Calls Tryz.prog 75 #[v, .int .i64 ct] w fun e w' => e = .returned (.bool (decide (c = ct))) ∧ Below w.heap.size w w' := by
  obtain ⟨b, s, h1, _⟩ := fault_one h
  have k := faultIs_chain ct w h1
  exact k
end

section
open Go.RowKit

/-- A draft in a block: its labels and edges lie in rows of the call's own. -/
def DraftAt (w : World) (base db : Nat) (d : Dr) : Prop := base ≤ db ∧ ∃ (Al : Option Addr) (cl : Nat) (Ae : Option Addr) (ce : Nat), Whole w db 89 #[.slice Al d.l.length cl, .slice Ae d.e.length ce] ∧
  w.ownsRow base 3 1 (.slice Al d.l.length cl) d.l.length (intCells d.l) ∧ w.ownsRow base 64 2 (.slice Ae d.e.length ce) d.e.length (eL d.e)
def TakeTo (base db : Nat) (d : Dr) (s : List UInt8) (w : World) (e : Ending) (w' : World) : Prop :=
  Below base w w' ∧ w.heap.size ≤ w'.heap.size ∧ ((∃ d', takeL d s = some d' ∧ e = .returned (.bool true) ∧ DraftAt w' base db d') ∨ (takeL d s = none ∧ e = .returned (.bool false)))
theorem seq_one {w : World} {b : Nat} {x : Int} (h : w.cell? ⟨b, 0, none⟩ = some (.int .i64 x)) : SeqV w (.slice (some ⟨b, 0, none⟩) 1 1) [x] := by
  refine Or.inr ⟨by simp, b, 0, 1, rfl, fun i hi => ?_⟩
  obtain rfl : i = 0 := by simpa using hi
  exact h
theorem beq_dec' (a b : List UInt8) : (a == b) = decide (a = b) := by
  by_cases h : a = b
  · rw [decide_eq_true h, beq_iff_eq]; exact h
  · rw [decide_eq_false h, beq_eq_false_iff_ne]; exact h
theorem Tryz.infoIntL : (Tryz.prog.info? 3).map (fun i => (i.zero, i.size, i.bytes)) = some (some (.int .i64 0), 1, 8) := by kernel_rfl
theorem size_setCell' (w : World) (p : Addr) (v : Value) : (w.setCell p v).heap.size = w.heap.size := by simp [World.setCell]
theorem take_three (d : Dr) (k a b : List UInt8) : takeW d [k, a, b] = match numB6 a, numB6 b with
    | some x, some y => if k = [118] then (if x = d.l.length ∧ d.e = [] then some ⟨d.l ++ [y], d.e⟩ else none) else if k = [101] then some ⟨d.l, d.e ++ [(x, y)]⟩ else none
    | _, _ => none := rfl
theorem takeW_len {d : Dr} {P : List (List UInt8)} (h : P.length ≠ 3) : takeW d P = none := by
  unfold takeW
  split
  · simp at h
  · rfl
theorem takeW_no1 {d : Dr} {k a b : List UInt8} (h : numB6 a = none) : takeW d [k, a, b] = none := by rw [take_three, h]
theorem takeW_no2 {d : Dr} {k a b : List UInt8} (h : numB6 b = none) : takeW d [k, a, b] = none := by
  rw [take_three, h]
  cases numB6 a <;> rfl
set_option maxRecDepth 100000 in
set_option maxHeartbeats 8000000 in
theorem take_any (base db : Nat) (d : Dr) (s : List UInt8) (w : World) (hg : GT w) (hd : DraftAt w base db d) (hs : s.length ≤ 1000000) (hl1 : d.l.length ≤ 1000000) (hl2 : d.e.length ≤ 1000000) (hbw : base ≤ w.heap.size) :
    Calls Tryz.prog 46 #[.pointer (some ⟨db, 0, none⟩), .string (str s)] w (TakeTo base db d s w) := by
  obtain ⟨i0, hi, hiz, hi1, hi2⟩ := info_parts Tryz.infoIntL
  obtain ⟨j0, hj0, hz0, hz1, hz2⟩ := info_parts Tryz.infoAE
  have SP := Lib.hid (split32_at s w hg (by omega))
  have HG := Lib.hid hg
  obtain ⟨hbd, Al, cl, Ae, ce, hw, ho1, ho2⟩ := hd
  obtain ⟨L, E⟩ := d
  simp only at hw ho1 ho2 hl1 hl2
  obtain ⟨n, hn⟩ : ∃ n, L.length = n := ⟨_, rfl⟩
  obtain ⟨m, hm⟩ : ∃ m, E.length = m := ⟨_, rfl⟩
  rw [hn] at hw ho1 hl1
  rw [hm] at hw ho2 hl2
  have HN1 := Lib.hid hn; have HM1 := Lib.hid hm; have HW := Lib.hid hw; have HO1 := Lib.hid ho1; have HO2 := Lib.hid ho2; have HBD := Lib.hid hbd; have HBW := Lib.hid hbw
  obtain ⟨S, hS⟩ : ∃ S, str s = S := ⟨_, rfl⟩
  rw [hS] at SP ⊢
  have HLN : Hid (∀ p ∈ wordsOf s, p.length ≤ 1000000) := Lib.hid (fun p hp => by
    have := join_mem_len (b := 32) hp
    rw [(wordsOf_spec s).2.1] at this
    omega)
  clear hg hw ho1 ho2 hn hm hbd hbw hS hs
  go_enter Tryz.func46, Tryz.ntmps46
  go_wp2_with fail
  refine SP.out.mono ?_; rintro e w1 ⟨hb1, P, rfl, hP, cs, hcw, hcs⟩
  have hbx : Below base w w1 := hb1.mono HBW.out
  have HBX := Lib.hid hbx; have HSX := Lib.hid hb1.size
  have HB1 := Lib.hid hb1
  obtain ⟨pl, hpl⟩ : ∃ n, P.length = n := ⟨_, rfl⟩
  rw [hpl] at hcs ⊢
  have hTK : takeL ⟨L, E⟩ s = takeW ⟨L, E⟩ P := by rw [hP]; rfl
  have HTK := Lib.hid hTK
  by_cases h3 : pl = 3
  case neg =>
    have t3 : ((pl : Int) != 3) = true := by simpa using (show ¬ (pl : Int) = 3 by omega)
    have t3' : (pl != 3) = true := by simpa using h3
    have HNX : Hid (takeL ⟨L, E⟩ s = none) := Lib.hid (by rw [hTK]; exact takeW_len (by omega))
    clear hb1 hbx hP hcw hcs hpl hTK h3
    go_wp2_with fail
    go_ret
    exact ⟨HBX.out, HSX.out, Or.inr ⟨HNX.out, rfl⟩⟩
  subst h3
  obtain ⟨k, a, b, rfl⟩ : ∃ k a b, P = [k, a, b] := by
    match P, hpl with
    | [k, a, b], _ => exact ⟨k, a, b, rfl⟩
  have hc0 : cs[0]? = some (.string (str k)) := hcs 0 (by omega)
  have hc1 : cs[1]? = some (.string (str a)) := hcs 1 (by omega)
  have hc2 : cs[2]? = some (.string (str b)) := hcs 2 (by omega)
  have hlen : k.length ≤ 1000000 ∧ a.length ≤ 1000000 ∧ b.length ≤ 1000000 := by
    have h := HLN.out
    rw [← hP] at h
    exact ⟨h k (by simp), h a (by simp), h b (by simp)⟩
  have HC : Hid (∀ W, Below w1.heap.size w1 W → W.cell? ⟨w.heap.size, 0, none⟩ = some (.string (str k)) ∧ W.cell? ⟨w.heap.size, 1, none⟩ = some (.string (str a)) ∧ W.cell? ⟨w.heap.size, 2, none⟩ = some (.string (str b))) := Lib.hid (fun W hb => by
    have h := hcw.below hb hcw.lt
    exact ⟨(h.cell 0).trans hc0, (h.cell 1).trans hc1, (h.cell 2).trans hc2⟩)
  have HNA := Lib.hid (number_c a hlen.2.1 w1 (HG.out.below hb1 (Nat.le_refl _)))
  have HNB : Hid (∀ W, Below w1.heap.size w1 W → Calls Tryz.prog 74 #[.string (str b)] W (NumC b W)) := Lib.hid (fun W hb => number_c b hlen.2.2 W (HG.out.below (hb1.trans (hb.mono hb1.size)) (Nat.le_refl _)))
  obtain ⟨zv, hzv⟩ : ∃ z, ((str k).toList == [118]) = z := ⟨_, rfl⟩
  obtain ⟨ze, hze⟩ : ∃ z, ((str k).toList == [101]) = z := ⟨_, rfl⟩
  have HZV : Hid (decide (k = [118]) = zv) := Lib.hid (by rw [← hzv, str_toList]; exact (beq_dec' k _).symm)
  have HZE : Hid (decide (k = [101]) = ze) := Lib.hid (by rw [← hze, str_toList]; exact (beq_dec' k _).symm)
  obtain ⟨sk, hsk⟩ : ∃ x, str k = x := ⟨_, rfl⟩
  obtain ⟨sa, hsa⟩ : ∃ x, str a = x := ⟨_, rfl⟩
  obtain ⟨sb, hsb⟩ : ∃ x, str b = x := ⟨_, rfl⟩
  rw [hsk] at hzv hze HC
  rw [hsa] at HC HNA
  rw [hsb] at HC HNB
  obtain ⟨wb, hwb⟩ : ∃ g, w.heap.size = g := ⟨_, rfl⟩
  rw [hwb] at HC ⊢
  have HWB := Lib.hid hwb
  clear hb1 hbx hP hcw hcs hpl hTK hc0 hc1 hc2 hlen hsk hsa hsb hwb
  obtain ⟨c0, c1, c2⟩ := HC.out w1 (Below.refl _ _)
  go_wp2_with fail
  refine HNA.out.mono ?_; rintro e w2 ⟨hb2, x, okx, rfl, hx⟩
  have HB2 := Lib.hid hb2; have HX := Lib.hid hx
  have HNB2 := Lib.hid (HNB.out w2 hb2)
  clear c0 c1 c2
  obtain ⟨c0, c1, c2⟩ := HC.out w2 hb2
  clear hb2 hx
  go_wp2_with fail
  refine HNB2.out.mono ?_; rintro e w3 ⟨hb3, y, oky, rfl, hy⟩
  have hb13 := HB2.out.trans (hb3.mono HB2.out.size)
  have hb03 := HB1.out.trans (hb13.mono HB1.out.size)
  have HY := Lib.hid hy
  have HB3 := Lib.hid hb03
  have HBX : Hid (Below base w w3) := Lib.hid (hb03.mono HBW.out)
  have HSX : Hid (w.heap.size ≤ w3.heap.size) := Lib.hid hb03.size
  clear c0 c1 c2
  obtain ⟨c0, c1, c2⟩ := HC.out w3 hb13
  have hw3 := HW.out.below hb03 HW.out.lt
  have HW3 := Lib.hid hw3
  have HO13 := Lib.hid (own_below HO1.out hb03 (Nat.le_refl _)); have HO23 := Lib.hid (own_below HO2.out hb03 (Nat.le_refl _))
  have d0 : w3.cell? ⟨db, 0, none⟩ = some (.slice Al n cl) := hw3.cell 0
  have d1 : w3.cell? ⟨db, 1, none⟩ = some (.slice Ae m ce) := hw3.cell 1
  have hdl := hw3.lt
  clear hb3 hb13 hb03 hy hw3
  obtain ⟨xy, hxy⟩ : ∃ z, (okx && oky) = z := ⟨_, rfl⟩
  cases xy with
  | false =>
    have HNX : Hid (takeL ⟨L, E⟩ s = none) := Lib.hid (by
      rw [HTK.out]
      rcases HX.out with ⟨rfl, h⟩ | ⟨rfl, h⟩
      · rcases HY.out with ⟨rfl, h2⟩ | ⟨rfl, h2⟩
        · simp at hxy
        · exact takeW_no2 h2
      · exact takeW_no1 h)
    cases zv with
    | true =>
      obtain ⟨q1, hq1⟩ : ∃ z, (x != (n : Int)) = z := ⟨_, rfl⟩
      obtain ⟨q2, hq2⟩ : ∃ z, decide ((0 : Int) < (m : Int)) = z := ⟨_, rfl⟩
      have hq2' : decide (0 < m) = q2 := by rw [← hq2]; exact decide_eq_decide.2 (by omega)
      cases q1 with
      | true =>
        clear hxy
        go_wp2_with fail
        go_ret
        exact ⟨HBX.out, HSX.out, Or.inr ⟨HNX.out, rfl⟩⟩
      | false =>
        cases q2 with
        | true =>
          clear hxy
          go_wp2_with fail
          go_ret
          exact ⟨HBX.out, HSX.out, Or.inr ⟨HNX.out, rfl⟩⟩
        | false =>
          cases okx with
          | false =>
            clear hxy
            go_wp2_with fail
            go_ret
            exact ⟨HBX.out, HSX.out, Or.inr ⟨HNX.out, rfl⟩⟩
          | true =>
            cases oky with
            | true => simp at hxy
            | false =>
              clear hxy
              go_wp2_with fail
              go_ret
              exact ⟨HBX.out, HSX.out, Or.inr ⟨HNX.out, rfl⟩⟩
    | false =>
      cases ze with
      | false =>
        clear hxy
        go_wp2_with fail
        go_ret
        exact ⟨HBX.out, HSX.out, Or.inr ⟨HNX.out, rfl⟩⟩
      | true =>
        cases okx with
        | false =>
          clear hxy
          go_wp2_with fail
          go_ret
          exact ⟨HBX.out, HSX.out, Or.inr ⟨HNX.out, rfl⟩⟩
        | true =>
          cases oky with
          | true => simp at hxy
          | false =>
            clear hxy
            go_wp2_with fail
            go_ret
            exact ⟨HBX.out, HSX.out, Or.inr ⟨HNX.out, rfl⟩⟩
  | true =>
    obtain ⟨rfl, rfl⟩ : okx = true ∧ oky = true := by simpa using hxy
    clear hxy
    have hxs : numB6 a = some x := by
      rcases HX.out with ⟨_, h⟩ | ⟨h, _⟩
      · exact h
      · cases h
    have hys : numB6 b = some y := by
      rcases HY.out with ⟨_, h⟩ | ⟨h, _⟩
      · exact h
      · cases h
    have HTE : Hid (takeL ⟨L, E⟩ s = if k = [118] then (if x = L.length ∧ E = [] then some ⟨L ++ [y], E⟩ else none) else if k = [101] then some ⟨L, E ++ [(x, y)]⟩ else none) := Lib.hid (by rw [HTK.out, take_three, hxs, hys])
    clear hxs hys
    cases zv with
    | true =>
      have hk : k = [118] := of_decide_eq_true HZV.out
      obtain ⟨q1, hq1⟩ : ∃ z, (x != (n : Int)) = z := ⟨_, rfl⟩
      obtain ⟨q2, hq2⟩ : ∃ z, decide ((0 : Int) < (m : Int)) = z := ⟨_, rfl⟩
      have hq2' : decide (0 < m) = q2 := by rw [← hq2]; exact decide_eq_decide.2 (by omega)
      cases q1 with
      | true =>
        have HNX : Hid (takeL ⟨L, E⟩ s = none) := Lib.hid (by
          rw [HTE.out, if_pos hk, if_neg]
          rintro ⟨h, _⟩
          rw [HN1.out] at h
          subst h
          simp at hq1)
        clear hk
        go_wp2_with fail
        go_ret
        exact ⟨HBX.out, HSX.out, Or.inr ⟨HNX.out, rfl⟩⟩
      | false =>
        cases q2 with
        | true =>
          have HNX : Hid (takeL ⟨L, E⟩ s = none) := Lib.hid (by
            rw [HTE.out, if_pos hk, if_neg]
            rintro ⟨_, h⟩
            have := of_decide_eq_true hq2'
            rw [← HM1.out, h] at this
            exact absurd this (Nat.lt_irrefl _))
          clear hk
          go_wp2_with fail
          go_ret
          exact ⟨HBX.out, HSX.out, Or.inr ⟨HNX.out, rfl⟩⟩
        | false =>
          have hE0 : E = [] := List.eq_nil_of_length_eq_zero (by rw [HM1.out]; have := of_decide_eq_false hq2'; omega)
          have HNY : Hid (takeL ⟨L, E⟩ s = some ⟨L ++ [y], E⟩) := Lib.hid (by
            rw [HTE.out, if_pos hk, if_pos]
            refine ⟨?_, hE0⟩
            rw [HN1.out]
            simpa using hq1)
          have hb4 : Below base w3 (w3.alloc (.cells #[.int .i64 y] 3)) := (Below.refl _ _).alloc (by have := HBW.out; have := HSX.out; omega) _
          have hs4 : base ≤ (w3.alloc (.cells #[.int .i64 y] 3)).heap.size := by have := HBW.out; have := HSX.out; simp; omega
          have HB4 := Lib.hid (HBX.out.trans hb4)
          have HOW := Lib.hid (HO13.out.alloc (.cells #[.int .i64 y] 3))
          have HOE := Lib.hid (HO23.out.alloc (.cells #[.int .i64 y] 3))
          have HWA := Lib.hid (HW3.out.alloc (.cells #[.int .i64 y] 3))
          have hN2 := Whole.new w3 3 #[.int .i64 y]
          have HN2 := Lib.hid (show SeqV (w3.alloc (.cells #[.int .i64 y] 3)) (.slice (some ⟨w3.heap.size, 0, none⟩) 1 1) [y] from seq_one (hN2.cell 0))
          clear hk hE0 hb4 hN2
          go_wp2_with (at_builtin; refine wpList_appInts _ rfl _ _ 33 rfl base i0 Tryz.underlying33 hi hiz hi1 hi2 _ n _ rfl HOW.out _ [y] rfl HN2.out (by simp; omega) hs4 ?_)
          intro A7 c7 w7 hown7 hgrow7
          have hp7 := hgrow7.whole HWA.out HOW.out (by decide)
          have hB7 := hgrow7.below HOW.out HB4.out (Nat.le_refl _) hs4
          have he7 := HOE.out.kept hgrow7.1 (own_apart HOE.out HOW.out (by decide))
          have f1 : w7.frozen? ⟨db, 0, none⟩ = false := hp7.free 0
          have y7 : w7.cell? ⟨db, 0, none⟩ = some (.slice Al n cl) := hp7.cell 0
          have HP9 := Lib.hid (hp7.put 0 (.slice A7 (n + 1) c7))
          have HO9 := Lib.hid (own_put hown7 (p := ⟨db, 0, none⟩) (own_ne hown7 hp7 (by decide)) (.slice A7 (n + 1) c7))
          have HE9 := Lib.hid (own_put he7 (p := ⟨db, 0, none⟩) (own_ne he7 hp7 (by decide)) (.slice A7 (n + 1) c7))
          have HB9 := Lib.hid (hB7.setCell (p := ⟨db, 0, none⟩) HBD.out (.slice A7 (n + 1) c7))
          have HS9 : Hid (w.heap.size ≤ (w7.setCell ⟨db, 0, none⟩ (.slice A7 (n + 1) c7)).heap.size) := Lib.hid (by
            have h1 := hgrow7.1.size
            have h2 := HSX.out
            rw [size_setCell']
            simp at h1
            omega)
          clear hown7 hgrow7 hp7 hB7 he7
          go_wp2_with fail
          go_ret
          refine ⟨HB9.out, HS9.out, Or.inl ⟨_, HNY.out, rfl, HBD.out, A7, c7, Ae, ce, ?_, ?_, ?_⟩⟩
          · show Whole _ _ _ #[.slice A7 (L ++ [y]).length c7, .slice Ae E.length ce]
            rw [List.length_append, HN1.out, HM1.out]
            exact HP9.out
          · show World.ownsRow _ _ _ _ (.slice A7 (L ++ [y]).length c7) (L ++ [y]).length (intCells (L ++ [y]))
            rw [List.length_append, HN1.out, intCells_app]
            exact HO9.out
          · show World.ownsRow _ _ _ _ (.slice Ae E.length ce) E.length (eL E)
            rw [HM1.out]
            exact HE9.out
    | false =>
      have hk : ¬ k = [118] := of_decide_eq_false HZV.out
      cases ze with
      | false =>
        have hk2 : ¬ k = [101] := of_decide_eq_false HZE.out
        have HNX : Hid (takeL ⟨L, E⟩ s = none) := Lib.hid (by rw [HTE.out, if_neg hk, if_neg hk2])
        clear hk hk2
        go_wp2_with fail
        go_ret
        exact ⟨HBX.out, HSX.out, Or.inr ⟨HNX.out, rfl⟩⟩
      | true =>
        have hk2 : k = [101] := of_decide_eq_true HZE.out
        have HNY : Hid (takeL ⟨L, E⟩ s = some ⟨L, E ++ [(x, y)]⟩) := Lib.hid (by rw [HTE.out, if_neg hk, if_pos hk2])
        have hb4 : Below base w3 (w3.alloc (.cells #[.int .i64 x, .int .i64 y] 64)) := (Below.refl _ _).alloc (by have := HBW.out; have := HSX.out; omega) _
        have hs4 : base ≤ (w3.alloc (.cells #[.int .i64 x, .int .i64 y] 64)).heap.size := by have := HBW.out; have := HSX.out; simp; omega
        have HB4 := Lib.hid (HBX.out.trans hb4)
        have HOW := Lib.hid (HO23.out.alloc (.cells #[.int .i64 x, .int .i64 y] 64))
        have HOE := Lib.hid (HO13.out.alloc (.cells #[.int .i64 x, .int .i64 y] 64))
        have HWA := Lib.hid (HW3.out.alloc (.cells #[.int .i64 x, .int .i64 y] 64))
        have HN2 := Lib.hid (edges_new w3 64 x y 1)
        clear hk hk2 hb4
        go_wp2_with (at_builtin; refine wpList_appEdges _ rfl _ _ 72 64 rfl base j0 (.agg #[.int .i64 0, .int .i64 0]) Tryz.underlying72 hj0 hz0 rfl hz1 hz2 _ m _ rfl HOW.out _ [(x, y)] rfl HN2.out (by simp; omega) hs4 ?_)
        intro A7 c7 w7 hown7 hgrow7
        have hp7 := hgrow7.whole HWA.out HOW.out (by decide)
        have hB7 := hgrow7.below HOW.out HB4.out (Nat.le_refl _) hs4
        have he7 := HOE.out.kept hgrow7.1 (own_apart HOE.out HOW.out (by decide))
        have f1 : w7.frozen? ⟨db, 1, none⟩ = false := hp7.free 1
        have y7 : w7.cell? ⟨db, 1, none⟩ = some (.slice Ae m ce) := hp7.cell 1
        have HP9 := Lib.hid (hp7.put 1 (.slice A7 (m + 1) c7))
        have HO9 := Lib.hid (own_put hown7 (p := ⟨db, 1, none⟩) (own_ne hown7 hp7 (by decide)) (.slice A7 (m + 1) c7))
        have HE9 := Lib.hid (own_put he7 (p := ⟨db, 1, none⟩) (own_ne he7 hp7 (by decide)) (.slice A7 (m + 1) c7))
        have HB9 := Lib.hid (hB7.setCell (p := ⟨db, 1, none⟩) HBD.out (.slice A7 (m + 1) c7))
        have HS9 : Hid (w.heap.size ≤ (w7.setCell ⟨db, 1, none⟩ (.slice A7 (m + 1) c7)).heap.size) := Lib.hid (by
          have h1 := hgrow7.1.size
          have h2 := HSX.out
          rw [size_setCell']
          simp at h1
          omega)
        clear hown7 hgrow7 hp7 hB7 he7
        go_wp2_with fail
        go_ret
        refine ⟨HB9.out, HS9.out, Or.inl ⟨_, HNY.out, rfl, HBD.out, Al, cl, A7, c7, ?_, ?_, ?_⟩⟩
        · show Whole _ _ _ #[.slice Al L.length cl, .slice A7 (E ++ [(x, y)]).length c7]
          rw [List.length_append, HN1.out, HM1.out]
          exact HP9.out
        · show World.ownsRow _ _ _ _ (.slice Al L.length cl) L.length (intCells L)
          rw [HN1.out]
          exact HE9.out
        · show World.ownsRow _ _ _ _ (.slice A7 (E ++ [(x, y)]).length c7) (E ++ [(x, y)]).length (eL (E ++ [(x, y)]))
          rw [List.length_append, HM1.out, eL_app]
          exact HO9.out
end

section
open Go.RowKit

theorem at_hitL (b : Nat) (c : Int) (w : World) (hg : ErrT w) (hc : w.cell? ⟨b, 1, none⟩ = some (.int .i64 c)) :
    Calls Tryz.prog 11 #[.iface 60 (.pointer (some ⟨b, 0, none⟩))] w fun e w' => e = .returned (.int .i64 c) ∧ Below w.heap.size w w' := by
  have hb : b < w.heap.size := World.block_lt_of_cell? _ _ hc
  go_enter Tryz.func11, Tryz.ntmps11
  go_wp2_with (go_at_call 30; refine (find_hit _ _ hg).mono ?_; rintro ev w' ⟨rfl, hw⟩; have hc' := (hw.cell (p := ⟨b, 1, none⟩) hb).trans hc; clear hc)
  go_ret
  exact ⟨rfl, by assumption⟩
theorem at_f {c p : Int} {w : World} {v : Value} (h : FaultAt c p w v) (hg : ErrT w) : Calls Tryz.prog 11 #[v] w fun e w' => e = .returned (.int .i64 p) ∧ Below w.heap.size w w' := by
  obtain ⟨b, s, rfl, hw, _⟩ := h
  exact at_hitL b p w hg (by rw [hw.cell 1]; rfl)
theorem FaultAt.form {c p : Int} {w : World} {v : Value} (h : FaultAt c p w v) : ∃ b, v = .iface 60 (.pointer (some ⟨b, 0, none⟩)) := by
  obtain ⟨b, s, rfl, _⟩ := h
  exact ⟨b, rfl⟩
/-- The closure: a label too large. -/
theorem pred_any (w : World) : PredAt Tryz.prog 77 #[] (Value.int .i64) (fun x => decide (255 < x)) w := by
  intro W x _
  unfold FnGives
  go_enter Tryz.func77, Tryz.ntmps77
  go_wp2_with fail
  go_ret
  exact ⟨rfl, 0, rfl⟩
/-- ContainsFunc at labels. -/
theorem large_any (L : List Int) (v : Value) (w : World) (h : SeqV w v L) (hn : L.length ≤ 1000000) :
    Calls Tryz.prog 76 #[v, .func (.func 77) #[] #[]] w fun e w' => e = .returned (.bool (L.any fun x => decide (255 < x))) ∧ Below w.heap.size w w' := by
  have eg : ∀ args w, (callFunc 77 args).run Tryz.prog w = .ok (.enter 77 args) w := enters_of Tryz.func77 (by kernel_rfl) rfl
  rcases h with ⟨h0, A, c, rfl⟩ | ⟨h1, b, off, cap, rfl, hc⟩
  · obtain rfl := List.eq_nil_of_length_eq_zero h0
    refine (Tryz.slices_ContainsFunc_empty (α := Int) A c _ w).mono ?_
    rintro e w' ⟨rfl, rfl⟩
    exact ⟨rfl, Below.refl _ _⟩
  · refine (Tryz.slices_ContainsFunc (Value.int .i64) (fun x => decide (255 < x)) 77 #[] eg b off L.length cap L w (pred_any w) (Nat.le_refl _) (by omega) (fun j hj => ?_)).mono ?_
    · rw [hc j hj]
      simp [List.getD, hj]
    · rintro e w' ⟨rfl, q, rfl⟩
      rw [List.take_length]
      exact ⟨rfl, below_drewN' (Below.refl _ _) q⟩
set_option maxRecDepth 100000 in
set_option maxHeartbeats 4000000 in
theorem line_any (base db : Nat) (d : Dr) (c p : Int) (v : Value) (w : World) (hg : ErrT w) (hd : DraftAt w base db d) (hl : d.l.length ≤ 1000000) (hp : 0 ≤ p ∧ p ≤ 1000000) (hf : FaultAt c p w v) :
    Calls Tryz.prog 47 #[.pointer (some ⟨db, 0, none⟩), v] w fun e w' => e = .returned (.int .i64 (lineErr d c p)) ∧ Below w.heap.size w w' := by
  obtain ⟨L, E⟩ := d
  obtain ⟨_, Al, cl, Ae, ce, hw, ho1, _⟩ := hd
  simp only at hw ho1 hl
  obtain ⟨b, rfl⟩ := hf.form
  have IS := Lib.hid (faultIs_any hf 6)
  have AT := Lib.hid (fun W hb => at_f (hf.below (w' := W) hb (Nat.le_refl _)) (hg.below hb (Nat.le_refl _)))
  have LG := Lib.hid (fun W hb => large_any L (.slice Al L.length cl) W ((own_seq ho1).below (w' := W) hb (Nat.le_refl _)) hl)
  obtain ⟨n, hn⟩ : ∃ n, L.length = n := ⟨_, rfl⟩
  rw [hn] at hw LG hl
  have HW : Hid (∀ W, Below w.heap.size w W → W.cell? ⟨db, 0, none⟩ = some (.slice Al n cl)) := Lib.hid (fun W hb => (hw.below hb hw.lt).cell 0)
  obtain ⟨big, hbig⟩ : ∃ z, (L.any fun x => decide (255 < x)) = z := ⟨_, rfl⟩
  rw [hbig] at LG
  have HE : Hid (lineErr ⟨L, E⟩ c p = if c = 6 then 0 else if big = true then p else (n : Int) + p) := Lib.hid (by unfold lineErr; rw [hbig, hn])
  obtain ⟨six, hsix⟩ : ∃ z, decide (c = 6) = z := ⟨_, rfl⟩
  rw [hsix] at IS
  have HS := Lib.hid hsix
  have hdl := hw.lt
  clear hg hw ho1 hf hn hbig hsix
  go_enter Tryz.func47, Tryz.ntmps47
  go_wp2_with fail
  refine IS.out.mono ?_; rintro e w1 ⟨rfl, hb1⟩
  have HB1 := Lib.hid hb1
  have c0 := HW.out w1 hb1
  have LG1 := Lib.hid (LG.out w1 hb1)
  clear hb1
  cases six with
  | true =>
    have HR : Hid (lineErr ⟨L, E⟩ c p = 0) := Lib.hid (by rw [HE.out, if_pos (of_decide_eq_true HS.out)])
    go_wp2_with fail
    go_ret
    exact ⟨by rw [HR.out]; rfl, HB1.out⟩
  | false =>
    go_wp2_with fail
    refine LG1.out.mono ?_; rintro e w2 ⟨rfl, hb2⟩
    have hb02 := HB1.out.trans (hb2.mono HB1.out.size)
    have HB2 := Lib.hid hb02
    clear c0
    have c0 := HW.out w2 hb02
    have AT2 := Lib.hid (AT.out w2 hb02)
    clear hb2 hb02
    cases big with
    | true =>
      have HR : Hid (lineErr ⟨L, E⟩ c p = p) := Lib.hid (by rw [HE.out, if_neg (of_decide_eq_false HS.out), if_pos rfl])
      go_wp2_with fail
      refine AT2.out.mono ?_; rintro e w3 ⟨rfl, hb3⟩
      have HB3 := Lib.hid (HB2.out.trans (hb3.mono HB2.out.size))
      clear hb3
      go_wp2_with fail
      go_ret
      exact ⟨by rw [HR.out]; rfl, HB3.out⟩
    | false =>
      have HR : Hid (lineErr ⟨L, E⟩ c p = (n : Int) + p) := Lib.hid (by rw [HE.out, if_neg (of_decide_eq_false HS.out), if_neg (by simp)])
      have sw : IntKind.i64.wrap ((n : Int) + p) = (n : Int) + p := by rw [IntKind.wrap_i64] <;> omega
      clear c0
      go_wp2_with fail
      go_region_held3 (fun W => Below w.heap.size w W ∧ W.cell? ⟨db, 0, none⟩ = some (.slice Al n cl))
        (first
          | exact ⟨HB2.out, HW.out _ HB2.out⟩
          | exact ⟨below_drewN' HB2.out _, HW.out _ (below_drewN' HB2.out _)⟩
          | exact ⟨HBW.out, HW.out _ HBW.out⟩
          | exact ⟨below_drewN' HBW.out _, HW.out _ (below_drewN' HBW.out _)⟩)
        (first
          | (go_at_call 11; refine (AT.out _ (by first | exact HB2.out | exact below_drewN' HB2.out _)).mono ?_; rintro e' wT ⟨rfl, hBT⟩; have HBW := Lib.hid (Below.trans (b := _) (by first | exact HB2.out | exact below_drewN' HB2.out _) (hBT.mono (by first | exact HB2.out.size | exact (below_drewN' HB2.out _).size))); clear hBT))
      all_goals
        go_wp2_with fail
        go_ret
        exact ⟨by rw [HR.out, ← sw]; rfl, HBW.out⟩
end
end Go.Proofs.YtnjkjgmnnmgngaaGreatDoor
