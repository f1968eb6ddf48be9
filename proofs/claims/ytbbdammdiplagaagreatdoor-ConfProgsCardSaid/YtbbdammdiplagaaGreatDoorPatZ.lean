/- Graphs: pure. pat: Degree, rising. pat: rising, checkLabels. pat: checkEdge. pat: Compare is an order; pure. pat: which patterns are right; pure. pat: cmp.Or, cmp.Compare; the order of edges. pat: Right. -/
import Derived.Test.YtbbdammdiplagaaGreatDoorPairsV
import Derived.RegionTactic
import Derived.Sort.WalkB12
import Derived.BigQuiet
import Derived.Deep.QuietTactic
import Derived.Test.YtbbdammdiplagaaGreatDoorFaultAt
import Derived.Test.YtbbdammdiplagaaGreatDoorSeq
import Derived.Test.YtbbdammdiplagaaGreatDoorProg
import Derived.Sort.Grow
import Derived.StillTailTactics
import Derived.Lib.AppendIntMem
import Derived.Deep.RegionHeld3
import Derived.Deep.DrawnRows
namespace Go.Proofs.YtbbdammdiplagaaGreatDoor
section
/-- An edge with its lesser vertex first. -/
def ris (e : Int × Int) : Int × Int := (min e.1 e.2, max e.1 e.2)
/-- Ahead of another one? -/
def ltE (a b : Int × Int) : Prop := a.1 < b.1 ∨ (a.1 = b.1 ∧ a.2 < b.2)
instance (a b : Int × Int) : Decidable (ltE a b) := by unfold ltE; infer_instance
theorem ltE_trans {a b c : Int × Int} (h : ltE a b) (k : ltE b c) : ltE a c := by unfold ltE at *; omega
theorem ltE_irrefl (a : Int × Int) : ¬ ltE a a := by unfold ltE; omega
theorem ltE_total {a b : Int × Int} (h : ¬ ltE a b) (k : ¬ ltE b a) : a = b := by
  unfold ltE at *
  exact Prod.ext (by omega) (by omega)
def RisingE (S : List (Int × Int)) : Prop := S.Pairwise ltE
theorem RisingE.nodup {S : List (Int × Int)} (h : RisingE S) : S.Nodup := List.Pairwise.imp (fun h e => by subst e; exact ltE_irrefl _ h) h
theorem risingE_eq {A B : List (Int × Int)} (ha : RisingE A) (hb : RisingE B) (h : A.Perm B) : A = B :=
  List.Perm.eq_of_pairwise (le := ltE) (fun _ _ _ _ h1 h2 => absurd (ltE_trans h1 h2) (ltE_irrefl _)) ha hb h
/-- How many are ahead of one, from the left. -/
def lowerE : List (Int × Int) → Int × Int → Nat
  | [], _ => 0
  | a :: t, e => if ltE a e then lowerE t e + 1 else 0
theorem lowerE_le : ∀ (S : List (Int × Int)) (e : Int × Int), lowerE S e ≤ S.length
  | [], _ => Nat.le_refl _
  | a :: t, e => by
    rw [lowerE]
    split
    · have := lowerE_le t e; simp; omega
    · simp
def insE (S : List (Int × Int)) (e : Int × Int) : List (Int × Int) := S.take (lowerE S e) ++ [e] ++ S.drop (lowerE S e)
theorem insE_perm (S : List (Int × Int)) (e : Int × Int) : (insE S e).Perm (e :: S) := by
  unfold insE
  have h : (S.take (lowerE S e) ++ [e] ++ S.drop (lowerE S e)).Perm ([e] ++ (S.take (lowerE S e) ++ S.drop (lowerE S e))) := by
    rw [← List.append_assoc]
    exact List.Perm.append_right _ List.perm_append_comm
  rw [List.take_append_drop] at h
  exact h
theorem insE_cons (a : Int × Int) (t : List (Int × Int)) (e : Int × Int) : insE (a :: t) e = if ltE a e then a :: insE t e else e :: a :: t := by
  unfold insE
  rw [lowerE]
  split <;> simp
theorem insE_rising : ∀ {S : List (Int × Int)} {e : Int × Int}, RisingE S → e ∉ S → RisingE (insE S e)
  | [], e, _, _ => by simp [insE, lowerE, RisingE]
  | a :: t, e, h, hn => by
    rw [insE_cons]
    have h' := List.pairwise_cons.1 h
    have hne : e ≠ a := fun x => hn (by simp [x])
    split
    · rename_i hlt
      refine List.pairwise_cons.2 ⟨fun x hx => ?_, insE_rising h'.2 (fun x => hn (by simp [x]))⟩
      rcases List.mem_cons.1 ((insE_perm t e).mem_iff.1 hx) with rfl | hx
      · exact hlt
      · exact h'.1 x hx
    · rename_i hlt
      have hea : ltE e a := by
        by_cases h2 : ltE e a
        · exact h2
        · exact absurd (ltE_total h2 hlt) hne
      refine List.pairwise_cons.2 ⟨fun x hx => ?_, h⟩
      rcases List.mem_cons.1 hx with rfl | hx
      · exact hea
      · exact ltE_trans hea (h'.1 x hx)
/-- All edges, the lesser vertex first, in order. -/
def sortE (E : List (Int × Int)) : List (Int × Int) := E.foldl (fun S e => insE S (ris e)) []
theorem sortE_snoc (E : List (Int × Int)) (e : Int × Int) : sortE (E ++ [e]) = insE (sortE E) (ris e) := by simp [sortE]
theorem sortE_perm : ∀ (n : Nat) (E : List (Int × Int)), E.length = n → (sortE E).Perm (E.map ris)
  | 0, E, h => by
    have : E = [] := List.eq_nil_of_length_eq_zero h
    subst this
    exact List.Perm.refl _
  | n + 1, E, h => by
    have hne : E ≠ [] := fun e => by simp [e] at h
    have hd := List.dropLast_concat_getLast hne
    rw [← hd, sortE_snoc, List.map_append]
    have ih := sortE_perm n E.dropLast (by simp [h])
    exact (insE_perm _ _).trans ((ih.cons _).trans (by simpa using (List.perm_append_comm (l₁ := [ris (E.getLast hne)]) (l₂ := E.dropLast.map ris))))
theorem sortE_rising : ∀ (n : Nat) (E : List (Int × Int)), E.length = n → (E.map ris).Nodup → RisingE (sortE E)
  | 0, E, h, _ => by
    have : E = [] := List.eq_nil_of_length_eq_zero h
    subst this
    exact List.Pairwise.nil
  | n + 1, E, h, hn => by
    have hne : E ≠ [] := fun e => by simp [e] at h
    have hd := List.dropLast_concat_getLast hne
    rw [← hd, List.map_append, List.nodup_append] at hn
    rw [← hd, sortE_snoc]
    refine insE_rising (sortE_rising n E.dropLast (by simp [h]) hn.1) (fun hx => ?_)
    have := (sortE_perm n E.dropLast (by simp [h])).mem_iff.1 hx
    exact hn.2.2 _ this _ (by simp) rfl
/-- Whatever is in order and has just these edges. -/
theorem sorted_eq {E D : List (Int × Int)} (hn : (E.map ris).Nodup) (hp : D.Perm (E.map ris)) (hs : D.Pairwise (fun a b => ¬ ltE b a)) : D = sortE E := by
  have hr : RisingE D := by
    have hd : D.Nodup := hp.nodup_iff.2 hn
    refine List.Pairwise.imp₂ (R := fun a b => ¬ ltE b a) (S := fun a b => a ≠ b) (fun a b h1 h2 => ?_) hs hd
    by_cases h : ltE a b
    · exact h
    · exact absurd (ltE_total h h1) h2
  exact risingE_eq hr (sortE_rising _ E rfl hn) (hp.trans (sortE_perm _ E rfl).symm)

/-- Those beside a vertex, edge by edge. -/
def nearL (S : List (Int × Int)) (v : Int) : List Int := S.filterMap fun e => if e.1 = v then some e.2 else if e.2 = v then some e.1 else none
/-- The numbers of the edges at a vertex. -/
def atL (S : List (Int × Int)) (v : Int) : List Int := ((List.range S.length).filter fun i => decide ((S.getD i (0, 0)).1 = v ∨ (S.getD i (0, 0)).2 = v)).map fun (i : Nat) => (i : Int)
theorem nearL_snoc (S : List (Int × Int)) (e : Int × Int) (v : Int) : nearL (S ++ [e]) v = nearL S v ++ (if e.1 = v then [e.2] else if e.2 = v then [e.1] else []) := by
  unfold nearL
  rw [List.filterMap_append]
  congr 1
  by_cases h1 : e.1 = v
  · simp [h1]
  · by_cases h2 : e.2 = v
    · simp [h1, h2]
    · simp [h1, h2]
theorem atL_snoc (S : List (Int × Int)) (e : Int × Int) (v : Int) : atL (S ++ [e]) v = atL S v ++ (if e.1 = v ∨ e.2 = v then [(S.length : Int)] else []) := by
  unfold atL
  rw [List.length_append, List.length_singleton, List.range_succ, List.filter_append, List.map_append]
  congr 1
  · congr 1
    refine List.filter_congr fun i hi => ?_
    have hi := List.mem_range.1 hi
    have e1 : (S ++ [e]).getD i (0, 0) = S.getD i (0, 0) := by simp [List.getD, List.getElem?_append_left hi]
    rw [e1]
  · by_cases h : e.1 = v ∨ e.2 = v
    · simp [h]
    · simp [h]
theorem near_at_len (S : List (Int × Int)) (v : Int) : ∀ (n : Nat), S.length = n → (nearL S v).length = (atL S v).length := by
  intro n
  induction n generalizing S with
  | zero =>
    intro h
    have : S = [] := List.eq_nil_of_length_eq_zero h
    subst this
    rfl
  | succ n ih =>
    intro h
    have hne : S ≠ [] := fun e => by simp [e] at h
    have hd := List.dropLast_concat_getLast hne
    rw [← hd, nearL_snoc, atL_snoc, List.length_append, List.length_append, ih S.dropLast (by simp [h])]
    congr 1
    by_cases h1 : (S.getLast hne).1 = v
    · simp [h1]
    · by_cases h2 : (S.getLast hne).2 = v <;> simp [h1, h2]
end

section
open Go.RowKit

def atEnd (v : Int) (e : Int × Int) : Bool := e.1 == v || e.2 == v
set_option maxRecDepth 100000 in
set_option maxHeartbeats 2000000 in
theorem degree_any {w : World} {vE : Value} {AL : Option Addr} {nL cL : Nat} {E : List (Int × Int)} (hE : EdgesV w vE E) {n : Nat} (hn : E.length = n) (hn1 : n ≤ 1000000) (v : Int) :
    Calls Tryz.prog 81 #[.agg #[.slice AL nL cL, vE], .int .i64 v] w fun e w' => e = .returned (.int .i64 (E.countP (atEnd v) : Nat)) ∧ Below w.heap.size w w' := by
  have HE := Lib.hid hE; have HN := Lib.hid hn
  obtain ⟨A, c, rfl⟩ := hE.form
  rw [hn] at HE ⊢
  have hb0 : Below w.heap.size w (w.alloc (.cells #[.slice AL nL cL, .slice A n c] 52)) := (Below.refl _ _).alloc (Nat.le_refl _) _
  have HB0 := Lib.hid hb0
  clear hE hn hb0
  go_enter Tryz.func81, Tryz.ntmps81
  go_wp2_with fail
  go_loopg [5, 11] n (fun g cv y wr => ∃ k V, V = wr ∧ k ≤ n ∧ g = n - k ∧ cv = .int .i64 ((E.take k).countP (atEnd v) : Nat) ∧ y = .int .i64 (k : Nat) ∧ Below w.heap.size w V)
  case atStart => exact ⟨0, _, rfl, Nat.zero_le _, rfl, by rw [List.take_zero]; rfl, rfl, HB0.out⟩
  case round =>
    obtain ⟨k, V, rfl, hk, rfl, rfl, rfl, hB⟩ := hrel
    have HB := Lib.hid hB
    obtain ⟨cnt, hcnt⟩ : ∃ m, (E.take k).countP (atEnd v) = m := ⟨_, rfl⟩
    have hck : cnt ≤ k := by
      rw [← hcnt]
      refine Nat.le_trans List.countP_le_length ?_
      rw [List.length_take]
      omega
    rw [hcnt]
    clear hB
    by_cases hlt : k < n
    · have hkE : k < E.length := by rw [HN.out]; exact hlt
      obtain ⟨b, off, rfl, d0, d1⟩ := (HE.out.below HB.out (Nat.le_refl _)).pos (i := k) hkE
      obtain ⟨⟨p, q⟩, he⟩ : ∃ e, E.getD k (0, 0) = e := ⟨_, rfl⟩
      rw [he] at d0 d1
      simp only at d0 d1
      have hek : E[k] = (p, q) := by rw [← he]; simp [List.getD, hkE]
      have hnx : (E.take (k + 1)).countP (atEnd v) = cnt + (if atEnd v (p, q) = true then 1 else 0) := by
        rw [List.take_succ_eq_append_getElem hkE, List.countP_append, hcnt, hek]
        simp only [List.countP_cons, List.countP_nil, Nat.zero_add]
      have t3 : decide (k < n) = true := decide_eq_true hlt
      have t3' : decide ((k : Int) < (n : Int)) = true := decide_eq_true (by omega)
      have j1 : (k : Int) < n := by omega
      have j2 : (0 : Int) ≤ k := by omega
      have sw : IntKind.i64.wrap ((cnt : Int) + 1) = (cnt : Int) + 1 := by rw [IntKind.wrap_i64] <;> omega
      have HLT := Lib.hid hlt
      have hb1 : Below w.heap.size w (V.alloc (.cells #[.int .i64 p, .int .i64 q] 54)) := HB.out.alloc HB.out.size _
      have HB1 := Lib.hid hb1
      have hcs : ((p == v) = true ∧ atEnd v (p, q) = true) ∨ ((p == v) = false ∧ (q == v) = true ∧ atEnd v (p, q) = true) ∨ ((p == v) = false ∧ (q == v) = false ∧ atEnd v (p, q) = false) := by
        unfold atEnd
        simp only
        cases p == v <;> cases q == v <;> simp
      clear he hek hcnt hkE hb1
      rcases hcs with ⟨u1, u2⟩ | ⟨u1, u3, u2⟩ | ⟨u1, u3, u2⟩
      · rw [u2] at hnx
        have HNX := Lib.hid hnx
        have u1' : decide (p = v) = true := by simpa using u1
        clear hnx u2
        go_wp2_with fail
        go_roundg (n - (k + 1))
        case rel => exact ⟨k + 1, _, rfl, HLT.out, rfl, by rw [HNX.out]; rfl, by go_num, HB1.out⟩
        case measure => have := HLT.out; omega
      · rw [u2] at hnx
        have HNX := Lib.hid hnx
        have u1' : decide (p = v) = false := by simpa using u1
        have u3' : decide (q = v) = true := by simpa using u3
        clear hnx u2
        go_wp2_with fail
        go_roundg (n - (k + 1))
        case rel => exact ⟨k + 1, _, rfl, HLT.out, rfl, by rw [HNX.out]; rfl, by go_num, HB1.out⟩
        case measure => have := HLT.out; omega
      · rw [u2] at hnx
        have HNX := Lib.hid hnx
        have u1' : decide (p = v) = false := by simpa using u1
        have u3' : decide (q = v) = false := by simpa using u3
        clear hnx u2
        go_wp2_with fail
        go_roundg (n - (k + 1))
        case rel => exact ⟨k + 1, _, rfl, HLT.out, rfl, by rw [HNX.out]; rfl, by go_num, HB1.out⟩
        case measure => have := HLT.out; omega
    · obtain rfl : k = n := by omega
      have t3 : decide (k < k) = false := decide_eq_false (by omega)
      have HC : Hid (E.countP (atEnd v) = cnt) := Lib.hid (by rw [← hcnt, ← HN.out, List.take_length])
      clear hcnt
      go_wp2_with fail
      go_ret
      exact ⟨by rw [HC.out]; rfl, HB.out⟩
end

section
open Go.RowKit

/-- A result that is an edge and lies in a box. -/
theorem results_edge {fn : Func} {p : Tmp} (h : fn.results = #[.cell p 54]) (tmps : Array Value) (w : World) (g : Nat) (x y : Value) (hp : tmps.getD p undef = .pointer (some ⟨g, 0, none⟩)) (hc : Whole w g 54 #[x, y]) :
    (results fn tmps).run Tryz.prog w = .ok (.agg #[x, y]) w := by
  have hp' : tmps[p]?.getD undef = .pointer (some ⟨g, 0, none⟩) := by simpa using hp
  have c0 : w.cell? ⟨g, 0, none⟩ = some x := hc.cell 0
  have c1 : w.cell? ⟨g, 1, none⟩ = some y := hc.cell 1
  simp [results, h, hp', asAddr, loadVar, go_sem, c0, c1]

set_option maxRecDepth 100000 in
theorem rising_any (a b : Int) (w : World) :
    Calls Tryz.prog 137 #[.agg #[.int .i64 a, .int .i64 b]] w fun e w' => e = .returned (.agg #[.int .i64 (min a b), .int .i64 (max a b)]) ∧ Below w.heap.size w w' := by
  have hb : ∀ x y, Below w.heap.size w ((w.alloc (.cells #[.int .i64 a, .int .i64 b] 54)).alloc (.cells #[x, y] 54)) := fun x y => ((Below.refl _ _).alloc (Nat.le_refl _) _).alloc (by simp) _
  have hn : ∀ x y, Whole ((w.alloc (.cells #[.int .i64 a, .int .i64 b] 54)).alloc (.cells #[x, y] 54)) (w.heap.size + 1) 54 #[x, y] := fun x y => by
    have := Whole.new (w.alloc (.cells #[.int .i64 a, .int .i64 b] 54)) 54 #[x, y]
    rwa [World.size_alloc] at this
  have HB := Lib.hid hb; have HN := Lib.hid hn
  clear hb hn
  rcases (by omega : b < a ∨ a < b ∨ b = a) with h | h | h
  · have e1 : min a b = b := by omega
    have e2 : max a b = a := by omega
    have HE1 := Lib.hid e1; have HE2 := Lib.hid e2
    clear e1 e2
    go_enter Tryz.func137, Tryz.ntmps137
    go_wp2
    exact bodyPost_ret (results_edge rfl _ _ _ _ _ rfl (HN.out _ _)) rfl ⟨by rw [HE1.out, HE2.out], HB.out _ _⟩
  · have e1 : min a b = a := by omega
    have e2 : max a b = b := by omega
    have HE1 := Lib.hid e1; have HE2 := Lib.hid e2
    clear e1 e2
    go_enter Tryz.func137, Tryz.ntmps137
    go_wp2
    exact bodyPost_ret (results_edge rfl _ _ _ _ _ rfl (HN.out _ _)) rfl ⟨by rw [HE1.out, HE2.out], HB.out _ _⟩
  · subst h
    have e1 : min b b = b := by omega
    have e2 : max b b = b := by omega
    have HE1 := Lib.hid e1; have HE2 := Lib.hid e2
    clear e1 e2
    go_enter Tryz.func137, Tryz.ntmps137
    go_wp2
    exact bodyPost_ret (results_edge rfl _ _ _ _ _ rfl (HN.out _ _)) rfl ⟨by rw [HE1.out, HE2.out], HB.out _ _⟩

/-- A label that can't be. -/
def labBad (L : List Int) (i : Nat) : Bool := decide (L.getD i 0 < 0) || decide (255 < L.getD i 0)
theorem find_at {p : Nat → Bool} {n k : Nat} (hk : k < n) (h : ∀ i, i < k → p i = false) (hp : p k = true) : (List.range n).find? p = some k := by
  rw [List.find?_range_eq_some]
  exact ⟨hp, List.mem_range.2 hk, fun j hj => by simp [h j hj]⟩
theorem find_none {p : Nat → Bool} {n : Nat} (h : ∀ i, i < n → p i = false) : (List.range n).find? p = none := by
  rw [List.find?_eq_none]
  intro i hi
  simp [h i (List.mem_range.1 hi)]

/-- What is wrong with labels. -/
def labF (L : List Int) : Option (Int × Int) :=
  if 8 < L.length then some (6, 0) else match (List.range L.length).find? (labBad L) with
    | some i => some (3, (i : Int))
    | none => none
/-- No error, or a fault. -/
def ErrTo (o : Option (Int × Int)) (w : World) (e : Ending) (w' : World) : Prop := Below w.heap.size w w' ∧ ((o = none ∧ e = .returned .nilIface) ∨ ∃ c p u, o = some (c, p) ∧ e = .returned u ∧ FaultAt c p w' u)
theorem fault_new (c p : Int) (s : ByteArray) (w : World) : Below w.heap.size w (w.alloc (.cells #[.int .i64 c, .int .i64 p, .string s] 67)) ∧ FaultAt c p (w.alloc (.cells #[.int .i64 c, .int .i64 p, .string s] 67)) (.iface 64 (.pointer (some ⟨w.heap.size, 0, none⟩))) :=
  ⟨(Below.refl _ _).alloc (Nat.le_refl _) _, _, _, rfl, Whole.new _ _ _⟩
set_option maxRecDepth 100000 in
set_option maxHeartbeats 2000000 in
theorem checkLabels_any {w : World} {v : Value} {L : List Int} (hL : SeqV w v L) {n : Nat} (hn : L.length = n) (hn1 : n ≤ 1000000) :
    Calls Tryz.prog 58 #[v] w (ErrTo (labF L) w) := by
  have HL := Lib.hid hL; have HN := Lib.hid hn
  obtain ⟨A, c, rfl⟩ := IntsV.form hL
  rw [hn] at HL ⊢
  clear hL hn
  by_cases hbig : 8 < n
  · have hlf : labF L = some (6, 0) := by
      unfold labF
      rw [if_pos (by rw [HN.out]; exact hbig)]
    have HLF := Lib.hid hlf
    have HF := Lib.hid (new_any 6 0 ⟨#[112, 97, 116, 116, 101, 114, 110]⟩ w)
    have HB := Lib.hid (fault_new 6 0 ⟨#[112, 97, 116, 116, 101, 114, 110]⟩ w)
    have t1 : decide ((8 : Int) < (n : Int)) = true := decide_eq_true (by omega)
    have t1' : decide (8 < n) = true := decide_eq_true hbig
    clear hlf hbig
    go_enter Tryz.func58, Tryz.ntmps58
    go_wp2_with fail
    refine HF.out.mono ?_; rintro e w1 ⟨rfl, rfl⟩
    go_wp2_with fail
    go_ret
    exact ⟨HB.out.1, Or.inr ⟨6, 0, _, HLF.out, rfl, HB.out.2⟩⟩
  · have t1 : decide ((8 : Int) < (n : Int)) = false := decide_eq_false (by omega)
    have t1' : decide (8 < n) = false := decide_eq_false hbig
    have HSM := Lib.hid hbig
    clear hbig
    go_enter Tryz.func58, Tryz.ntmps58
    go_wp2_with fail
    go_loopg [11] n (fun g y wr => ∃ k, k ≤ n ∧ g = n - k ∧ y = .int .i64 (k : Nat) ∧ (∀ i, i < k → labBad L i = false) ∧ wr = w)
    case atStart => exact ⟨0, Nat.zero_le _, rfl, rfl, fun i hi => absurd hi (Nat.not_lt_zero i), rfl⟩
    case round =>
      obtain ⟨k, hk, rfl, rfl, hall, rfl⟩ := hrel
      have HALL := Lib.hid hall
      clear hall
      by_cases hlt : k < n
      · have hpos : ∃ b off, A = some ⟨b, off, none⟩ ∧ wr.cell? ⟨b, off + k, none⟩ = some (.int .i64 (L.getD k 0)) := by
          rcases HL.out with ⟨h0, _⟩ | ⟨_, b, off, c', e, hc⟩
          · have := HN.out; omega
          · injection e with e1 e2 e3
            exact ⟨b, off, e1, hc k (by rw [HN.out]; exact hlt)⟩
        obtain ⟨b, off, rfl, hc⟩ := hpos
        obtain ⟨x, hx⟩ : ∃ x, L.getD k 0 = x := ⟨_, rfl⟩
        rw [hx] at hc
        have hbad : labBad L k = (decide (x < 0) || decide (255 < x)) := by
          unfold labBad
          rw [hx]
        have t3 : decide (k < n) = true := decide_eq_true hlt
        have t3' : decide ((k : Int) < (n : Int)) = true := decide_eq_true (by omega)
        have j1 : (k : Int) < n := by omega
        have j2 : (0 : Int) ≤ k := by omega
        have HLT := Lib.hid hlt
        have hcs : (decide (x < 0) = true ∧ labBad L k = true) ∨ (decide (x < 0) = false ∧ decide (255 < x) = true ∧ labBad L k = true) ∨ (decide (x < 0) = false ∧ decide (255 < x) = false ∧ labBad L k = false) := by
          rw [hbad]
          cases decide (x < 0) <;> cases decide (255 < x) <;> simp
        have HF := Lib.hid (new_any 3 k ⟨#[108, 97, 98, 101, 108]⟩ wr)
        have HB := Lib.hid (fault_new 3 k ⟨#[108, 97, 98, 101, 108]⟩ wr)
        clear hx hbad hlt
        have hend : labBad L k = true → labF L = some (3, (k : Int)) := fun h => by
          unfold labF
          rw [if_neg (by rw [HN.out]; exact HSM.out), HN.out, find_at HLT.out HALL.out h]
        have HEND := Lib.hid hend
        clear hend
        rcases hcs with ⟨u1, u2⟩ | ⟨u1, u3, u2⟩ | ⟨u1, u3, u2⟩
        · have HLF := Lib.hid (HEND.out u2)
          clear u2
          go_wp2_with fail
          refine HF.out.mono ?_; rintro e w1 ⟨rfl, rfl⟩
          go_wp2_with fail
          go_ret
          exact ⟨HB.out.1, Or.inr ⟨3, k, _, HLF.out, rfl, HB.out.2⟩⟩
        · have HLF := Lib.hid (HEND.out u2)
          clear u2
          go_wp2_with fail
          refine HF.out.mono ?_; rintro e w1 ⟨rfl, rfl⟩
          go_wp2_with fail
          go_ret
          exact ⟨HB.out.1, Or.inr ⟨3, k, _, HLF.out, rfl, HB.out.2⟩⟩
        · have HU := Lib.hid u2
          clear u2
          go_wp2_with fail
          go_roundg (n - (k + 1))
          case rel =>
            refine ⟨k + 1, HLT.out, rfl, by go_num, fun i hi => ?_, rfl⟩
            by_cases h : i < k
            · exact HALL.out i h
            · obtain rfl : i = k := by omega
              exact HU.out
          case measure => have := HLT.out; omega
      · obtain rfl : k = n := by omega
        have t3 : decide (k < k) = false := decide_eq_false (by omega)
        have hlf : labF L = none := by
          unfold labF
          rw [if_neg (by rw [HN.out]; exact HSM.out), HN.out, find_none HALL.out]
        have HLF := Lib.hid hlf
        clear hlf
        go_wp2_with fail
        go_ret
        exact ⟨Below.refl _ _, Or.inl ⟨HLF.out, rfl⟩⟩
end

section
open Go.RowKit

/-- What is wrong with an edge at a place. -/
def edgeF (n p : Int) (a b : Int) (wrong : Bool) : Option (Int × Int) := if (decide (min a b < 0) || decide (n ≤ max a b)) = true then some (3, p) else if wrong = true then some (2, p) else none
set_option maxRecDepth 100000 in
set_option maxHeartbeats 2000000 in
theorem checkEdge_any (n p a b : Int) (wrong : Bool) (w : World) :
    Calls Tryz.prog 60 #[.int .i64 n, .int .i64 p, .agg #[.int .i64 a, .int .i64 b], .bool wrong] w (ErrTo (edgeF n p a b wrong) w) := by
  have hb1 : Below w.heap.size w (w.alloc (.cells #[.int .i64 a, .int .i64 b] 54)) := (Below.refl _ _).alloc (Nat.le_refl _) _
  obtain ⟨w1, hw1⟩ : ∃ W, w.alloc (.cells #[.int .i64 a, .int .i64 b] 54) = W := ⟨_, rfl⟩
  obtain ⟨xb, hxb⟩ : ∃ g, w.heap.size = g := ⟨_, rfl⟩
  have hx := Whole.new w 54 #[.int .i64 a, .int .i64 b]
  rw [hw1] at hx hb1
  rw [hxb] at hx
  have HF3 := Lib.hid (new_any 3 p ⟨#[101, 100, 103, 101, 39, 115, 32, 118, 101, 114, 116, 101, 120]⟩ w1)
  have HF2 := Lib.hid (new_any 2 p ⟨#[101, 100, 103, 101]⟩ w1)
  have HB3 := Lib.hid (fault_new 3 p ⟨#[101, 100, 103, 101, 39, 115, 32, 118, 101, 114, 116, 101, 120]⟩ w1)
  have HB2 := Lib.hid (fault_new 2 p ⟨#[101, 100, 103, 101]⟩ w1)
  have c0 : w1.cell? ⟨xb, 0, none⟩ = some (.int .i64 a) := hx.cell 0
  have c1 : w1.cell? ⟨xb, 1, none⟩ = some (.int .i64 b) := hx.cell 1
  have HB1 := Lib.hid hb1; have HW1 := Lib.hid hw1; have HXB := Lib.hid hxb
  unfold edgeF
  obtain ⟨z1, hz1⟩ : ∃ z, decide (min a b < 0) = z := ⟨_, rfl⟩
  obtain ⟨z2, hz2⟩ : ∃ z, decide (n ≤ max a b) = z := ⟨_, rfl⟩
  rw [hz1, hz2]
  clear hb1 hw1 hxb hx
  obtain ⟨o, ho⟩ : ∃ o : Option (Int × Int), (if (z1 || z2) = true then some (3, p) else if wrong = true then some (2, p) else none) = o := ⟨_, rfl⟩
  rw [ho]
  have HO := Lib.hid ho
  clear ho
  cases z1 with
  | true =>
    have HQ : Hid (o = some (3, p)) := Lib.hid (by rw [← HO.out]; rfl)
    clear HO
    go_enter Tryz.func60, Tryz.ntmps60
    go_upto_region 1 with fail
    rw [HW1.out, HXB.out]
    go_wp2_with fail
    refine HF3.out.mono ?_; rintro e w2 ⟨rfl, rfl⟩
    go_wp2_with fail
    go_ret
    exact ⟨HB1.out.trans (HB3.out.1.mono HB1.out.size), Or.inr ⟨3, p, _, HQ.out, rfl, HB3.out.2⟩⟩
  | false =>
    cases z2 with
    | true =>
      have HQ : Hid (o = some (3, p)) := Lib.hid (by rw [← HO.out]; rfl)
      clear HO
      go_enter Tryz.func60, Tryz.ntmps60
      go_upto_region 1 with fail
      rw [HW1.out, HXB.out]
      go_wp2_with fail
      refine HF3.out.mono ?_; rintro e w2 ⟨rfl, rfl⟩
      go_wp2_with fail
      go_ret
      exact ⟨HB1.out.trans (HB3.out.1.mono HB1.out.size), Or.inr ⟨3, p, _, HQ.out, rfl, HB3.out.2⟩⟩
    | false =>
      cases wrong with
      | true =>
        have HQ : Hid (o = some (2, p)) := Lib.hid (by rw [← HO.out]; rfl)
        clear HO
        go_enter Tryz.func60, Tryz.ntmps60
        go_upto_region 1 with fail
        rw [HW1.out, HXB.out]
        go_wp2_with fail
        refine HF2.out.mono ?_; rintro e w2 ⟨rfl, rfl⟩
        go_wp2_with fail
        go_ret
        exact ⟨HB1.out.trans (HB2.out.1.mono HB1.out.size), Or.inr ⟨2, p, _, HQ.out, rfl, HB2.out.2⟩⟩
      | false =>
        have HQ : Hid (o = none) := Lib.hid (by rw [← HO.out]; rfl)
        clear HO
        go_enter Tryz.func60, Tryz.ntmps60
        go_upto_region 1 with fail
        rw [HW1.out, HXB.out]
        go_wp2_with fail
        go_ret
        exact ⟨HB1.out, Or.inl ⟨HQ.out, rfl⟩⟩
end

section
/-- Which number comes first. -/
def cmp3 (a b : Int) : Int := if a < b then -1 else if b < a then 1 else 0
theorem cmp3_lt {a b : Int} (h : a < b) : cmp3 a b = -1 := if_pos h
theorem cmp3_gt {a b : Int} (h1 : ¬ a < b) (h : b < a) : cmp3 a b = 1 := by unfold cmp3; rw [if_neg h1, if_pos h]
theorem cmp3_eq {a b : Int} (h1 : ¬ a < b) (h : ¬ b < a) : cmp3 a b = 0 := by unfold cmp3; rw [if_neg h1, if_neg h]
/-- Which list comes first. -/
def cmpL : List Int → List Int → Int
  | [], [] => 0
  | [], _ :: _ => -1
  | _ :: _, [] => 1
  | a :: s, b :: t => if a < b then -1 else if b < a then 1 else cmpL s t
theorem cmpL_step {A B : List Int} {k : Nat} (ha : k < A.length) (hb : k < B.length) :
    cmpL (A.drop k) (B.drop k) = if A.getD k 0 < B.getD k 0 then -1 else if B.getD k 0 < A.getD k 0 then 1 else cmpL (A.drop (k + 1)) (B.drop (k + 1)) := by
  rw [List.drop_eq_getElem_cons ha, List.drop_eq_getElem_cons hb, cmpL]
  simp [List.getD, ha, hb]
theorem cmpL_endA {A B : List Int} {k : Nat} (ha : A.length ≤ k) : cmpL (A.drop k) (B.drop k) = if k < B.length then -1 else 0 := by
  rw [List.drop_of_length_le ha]
  by_cases h : k < B.length
  · rw [if_pos h, List.drop_eq_getElem_cons h]; rfl
  · rw [if_neg h, List.drop_of_length_le (by omega)]; rfl
theorem cmpL_endB {A B : List Int} {k : Nat} (hb : B.length ≤ k) (ha : k < A.length) : cmpL (A.drop k) (B.drop k) = 1 := by
  rw [List.drop_of_length_le hb, List.drop_eq_getElem_cons ha]; rfl
theorem cmpL_self : ∀ A, cmpL A A = 0
  | [] => rfl
  | a :: s => by rw [cmpL, if_neg (by omega), if_neg (by omega)]; exact cmpL_self s
theorem cmpL_neg : ∀ A B, cmpL B A = -cmpL A B
  | [], [] => rfl
  | [], _ :: _ => rfl
  | _ :: _, [] => rfl
  | a :: s, b :: t => by
    rw [cmpL, cmpL]
    by_cases h1 : a < b
    · rw [if_neg (by omega), if_pos h1, if_pos h1]; rfl
    · rw [if_neg h1]
      by_cases h2 : b < a
      · rw [if_pos h2, if_pos h2, if_neg h1]
      · rw [if_neg h2, if_neg h2, if_neg h1]; exact cmpL_neg s t
theorem cmpL_zero : ∀ {A B : List Int}, cmpL A B = 0 ↔ A = B
  | [], [] => by simp [cmpL]
  | [], _ :: _ => by simp [cmpL]
  | _ :: _, [] => by simp [cmpL]
  | a :: s, b :: t => by
    rw [cmpL]
    by_cases h1 : a < b
    · rw [if_pos h1]; simp; omega
    · rw [if_neg h1]
      by_cases h2 : b < a
      · rw [if_pos h2]; simp; omega
      · have : a = b := by omega
        subst this
        rw [if_neg h2, cmpL_zero]; simp
theorem cmpL_rng : ∀ A B, cmpL A B = -1 ∨ cmpL A B = 0 ∨ cmpL A B = 1
  | [], [] => by simp [cmpL]
  | [], _ :: _ => by simp [cmpL]
  | _ :: _, [] => by simp [cmpL]
  | a :: s, b :: t => by
    rw [cmpL]
    split
    · simp
    · split
      · simp
      · exact cmpL_rng s t
theorem cmpL_trans : ∀ {A B C : List Int}, cmpL A B ≤ 0 → cmpL B C ≤ 0 → cmpL A C ≤ 0
  | [], _, [], _, _ => by simp [cmpL]
  | [], _, _ :: _, _, _ => by simp [cmpL]
  | a :: s, [], _, h, _ => by simp [cmpL] at h
  | a :: s, b :: t, [], _, h => by simp [cmpL] at h
  | a :: s, b :: t, c :: u, h1, h2 => by
    rw [cmpL] at h1 h2 ⊢
    by_cases hab : a < b
    · by_cases hbc : b < c
      · rw [if_pos (show a < c by omega)]; omega
      · rw [if_neg hbc] at h2
        by_cases hcb : c < b
        · rw [if_pos hcb] at h2; omega
        · rw [if_pos (show a < c by omega)]; omega
    · rw [if_neg hab] at h1
      by_cases hba : b < a
      · rw [if_pos hba] at h1; omega
      · rw [if_neg hba] at h1
        by_cases hbc : b < c
        · rw [if_pos (show a < c by omega)]; omega
        · rw [if_neg hbc] at h2
          by_cases hcb : c < b
          · rw [if_pos hcb] at h2; omega
          · rw [if_neg hcb] at h2
            rw [if_neg (by omega), if_neg (by omega)]
            exact cmpL_trans h1 h2
/-- Which of two lists of edges comes first. -/
def cmpEs : List (Int × Int) → List (Int × Int) → Int
  | [], [] => 0
  | [], _ :: _ => -1
  | _ :: _, [] => 1
  | a :: s, b :: t => if cmp3 a.1 b.1 ≠ 0 then cmp3 a.1 b.1 else if cmp3 a.2 b.2 ≠ 0 then cmp3 a.2 b.2 else cmpEs s t
/-- Ends of edges, one behind the other. -/
def ends (E : List (Int × Int)) : List Int := E.flatMap fun e => [e.1, e.2]
theorem cmp3_zero {a b : Int} : cmp3 a b = 0 ↔ a = b := by
  unfold cmp3
  split
  · simp; omega
  · split
    · simp; omega
    · simp; omega
theorem cmpL_cons (a b : Int) (s t : List Int) : cmpL (a :: s) (b :: t) = if cmp3 a b ≠ 0 then cmp3 a b else cmpL s t := by
  rw [cmpL]
  unfold cmp3
  by_cases h1 : a < b
  · simp [h1]
  · by_cases h2 : b < a
    · simp [h1, h2]
    · simp [h1, h2]
theorem cmpEs_ends : ∀ E F : List (Int × Int), cmpEs E F = cmpL (ends E) (ends F)
  | [], [] => rfl
  | [], _ :: _ => rfl
  | _ :: _, [] => rfl
  | a :: s, b :: t => by
    show cmpEs (a :: s) (b :: t) = cmpL (a.1 :: a.2 :: ends s) (b.1 :: b.2 :: ends t)
    rw [cmpL_cons, cmpL_cons, ← cmpEs_ends s t]
    rfl
theorem cmpL_app : ∀ {L M : List Int} (X Y : List Int), L.length = M.length → cmpL (L ++ X) (M ++ Y) = if cmpL L M ≠ 0 then cmpL L M else cmpL X Y
  | [], [], X, Y, _ => by simp [cmpL]
  | [], _ :: _, _, _, h => by simp at h
  | _ :: _, [], _, _, h => by simp at h
  | a :: s, b :: t, X, Y, h => by
    rw [List.cons_append, List.cons_append, cmpL_cons, cmpL_cons]
    by_cases h1 : cmp3 a b ≠ 0
    · rw [if_pos h1, if_pos h1, if_pos h1]
    · rw [if_neg h1, if_neg h1]
      exact cmpL_app X Y (by simpa using h)
/-- The first that is not nought. -/
def or4 (a b c d : Int) : Int := if a ≠ 0 then a else if b ≠ 0 then b else if c ≠ 0 then c else d
/-- Which of two patterns comes first. -/
def cmpPat (L : List Int) (E : List (Int × Int)) (M : List Int) (F : List (Int × Int)) : Int := or4 (cmp3 L.length M.length) (cmpL L M) (cmp3 E.length F.length) (cmpEs E F)
def flatP (L : List Int) (E : List (Int × Int)) : List Int := (L.length : Int) :: (L ++ (E.length : Int) :: ends E)
theorem cmpPat_flat (L : List Int) (E : List (Int × Int)) (M : List Int) (F : List (Int × Int)) : cmpPat L E M F = cmpL (flatP L E) (flatP M F) := by
  unfold cmpPat or4 flatP
  rw [cmpL_cons]
  by_cases h1 : cmp3 L.length M.length ≠ 0
  · rw [if_pos h1, if_pos h1]
  · rw [if_neg h1, if_neg h1]
    have hl : L.length = M.length := by
      have := cmp3_zero.1 (Decidable.of_not_not h1)
      omega
    rw [cmpL_app _ _ hl, cmpL_cons, cmpEs_ends]
theorem ends_inj : ∀ {E F : List (Int × Int)}, ends E = ends F → E = F
  | [], [], _ => rfl
  | [], _ :: _, h => by simp [ends] at h
  | _ :: _, [], h => by simp [ends] at h
  | a :: s, b :: t, h => by
    have h' : a.1 :: a.2 :: ends s = b.1 :: b.2 :: ends t := h
    injection h' with e1 h'
    injection h' with e2 h'
    rw [ends_inj h', Prod.ext e1 e2]
theorem flatP_inj {L M : List Int} {E F : List (Int × Int)} (h : flatP L E = flatP M F) : L = M ∧ E = F := by
  unfold flatP at h
  injection h with h1 h2
  have hl : L.length = M.length := by omega
  obtain ⟨q1, q2⟩ := List.append_inj h2 hl
  injection q2 with _ q3
  exact ⟨q1, ends_inj q3⟩
theorem cmpPat_zero {L M : List Int} {E F : List (Int × Int)} : cmpPat L E M F = 0 ↔ L = M ∧ E = F := by
  rw [cmpPat_flat, cmpL_zero]
  constructor
  · exact flatP_inj
  · rintro ⟨rfl, rfl⟩
    rfl
theorem cmpPat_neg (L M : List Int) (E F : List (Int × Int)) : cmpPat M F L E = -cmpPat L E M F := by rw [cmpPat_flat, cmpPat_flat, cmpL_neg]
theorem cmpPat_self (L : List Int) (E : List (Int × Int)) : cmpPat L E L E = 0 := cmpPat_zero.2 ⟨rfl, rfl⟩
theorem cmpPat_trans {L M K : List Int} {E F G : List (Int × Int)} (h1 : cmpPat L E M F ≤ 0) (h2 : cmpPat M F K G ≤ 0) : cmpPat L E K G ≤ 0 := by
  rw [cmpPat_flat] at h1 h2 ⊢
  exact cmpL_trans h1 h2
theorem cmpPat_short {L M : List Int} {E F : List (Int × Int)} (h : L.length < M.length) : cmpPat L E M F < 0 := by
  unfold cmpPat or4
  rw [cmp3_lt (by omega), if_pos (by decide)]
  decide
theorem cmpPat_rng (L M : List Int) (E F : List (Int × Int)) : cmpPat L E M F = -1 ∨ cmpPat L E M F = 0 ∨ cmpPat L E M F = 1 := by
  rw [cmpPat_flat]
  exact cmpL_rng _ _
end

section
/-- Which of two edges comes first. -/
def cmpE (d e : Int × Int) : Int := if cmp3 d.1 e.1 = 0 then cmp3 d.2 e.2 else cmp3 d.1 e.1
theorem cmpE_neg {d e : Int × Int} : cmpE d e < 0 ↔ ltE d e := by
  unfold cmpE ltE
  rcases Int.lt_trichotomy d.1 e.1 with h | h | h
  · rw [cmp3_lt h]; simp; omega
  · rw [cmp3_eq (by omega) (by omega)]
    rcases Int.lt_trichotomy d.2 e.2 with k | k | k
    · rw [cmp3_lt k]; simp; omega
    · rw [cmp3_eq (by omega) (by omega)]; simp; omega
    · rw [cmp3_gt (by omega) k]; simp; omega
  · rw [cmp3_gt (by omega) h]; simp; omega
theorem cmpE_zero {d e : Int × Int} : cmpE d e = 0 ↔ d = e := by
  unfold cmpE
  constructor
  · intro h
    split at h
    · rename_i h1
      exact Prod.ext (cmp3_zero.1 h1) (cmp3_zero.1 h)
    · rename_i h1
      exact absurd h h1
  · rintro rfl
    rw [if_pos (cmp3_zero.2 rfl), cmp3_zero.2 rfl]
theorem cmpEs_cons (a b : Int × Int) (s t : List (Int × Int)) : cmpEs (a :: s) (b :: t) = if cmpE a b ≠ 0 then cmpE a b else cmpEs s t := by
  rw [cmpEs]
  unfold cmpE
  by_cases h1 : cmp3 a.1 b.1 = 0
  · simp [h1]
  · simp [h1]
/-- Is the edge at a place wrong but for its vertices? -/
def wrongB (E : List (Int × Int)) (i : Nat) : Bool := decide ((E.getD i (0, 0)).2 ≤ (E.getD i (0, 0)).1) || (decide (0 < i) && decide (0 ≤ cmpE (E.getD (i - 1) (0, 0)) (E.getD i (0, 0))))
def edgeAtF (n : Nat) (E : List (Int × Int)) (i : Nat) : Option (Int × Int) := edgeF n i (E.getD i (0, 0)).1 (E.getD i (0, 0)).2 (wrongB E i)
/-- What is wrong with a pattern. -/
def rightF (L : List Int) (E : List (Int × Int)) : Option (Int × Int) := match labF L with
  | some x => some x
  | none => (List.range E.length).findSome? (edgeAtF L.length E)
theorem some_at {f : Nat → Option (Int × Int)} {n k : Nat} {x : Int × Int} (hk : k < n) (h : ∀ i, i < k → f i = none) (hp : f k = some x) : (List.range n).findSome? f = some x := by
  rw [List.findSome?_eq_some_iff]
  refine ⟨List.range k, k, (List.range (n - k - 1)).map (· + k + 1), ?_, hp, fun i hi => h i (List.mem_range.1 hi)⟩
  apply List.ext_getElem
  · simp; omega
  · intro i h1 h2
    rw [List.getElem_range, List.getElem_append]
    split
    · simp
    · rename_i h3
      rw [List.length_range] at h3
      rcases Nat.eq_zero_or_pos (i - k) with h4 | h4
      · simp only [List.length_range]
        rw [List.getElem_cons]
        simp [h4]; omega
      · simp only [List.length_range]
        rw [List.getElem_cons]
        rw [dif_neg (by omega)]
        simp; omega
theorem some_none {f : Nat → Option (Int × Int)} {n : Nat} (h : ∀ i, i < n → f i = none) : (List.range n).findSome? f = none := by
  rw [List.findSome?_eq_none_iff]
  exact fun i hi => h i (List.mem_range.1 hi)
theorem labF_none {L : List Int} : labF L = none ↔ L.length ≤ 8 ∧ ∀ x ∈ L, 0 ≤ x ∧ x ≤ 255 := by
  unfold labF
  by_cases h : 8 < L.length
  · rw [if_pos h]; simp; omega
  · rw [if_neg h]
    cases hf : (List.range L.length).find? (labBad L) with
    | some i =>
      have h1 := List.find?_some hf
      have h2 := List.mem_range.1 (List.mem_of_find?_eq_some hf)
      simp only [reduceCtorEq, false_iff, not_and, Classical.not_forall]
      intro _
      refine ⟨L[i], List.getElem_mem h2, ?_⟩
      unfold labBad at h1
      simp [List.getD, h2] at h1
      omega
    | none =>
      simp only [true_iff]
      refine ⟨by omega, fun x hx => ?_⟩
      obtain ⟨i, hi, rfl⟩ := List.getElem_of_mem hx
      have := List.find?_eq_none.1 hf i (List.mem_range.2 hi)
      unfold labBad at this
      simp [List.getD, hi] at this
      omega
theorem edgeF_none {n p a b : Int} {z : Bool} : edgeF n p a b z = none ↔ 0 ≤ a ∧ 0 ≤ b ∧ a < n ∧ b < n ∧ z = false := by
  unfold edgeF
  cases z
  · simp; omega
  · simp
    split <;> simp <;> omega
theorem getD_memE {E : List (Int × Int)} {i : Nat} (h : i < E.length) : E.getD i (0, 0) ∈ E := by
  simp [List.getD, h]
/-- A pattern that is right. -/
structure RightP (L : List Int) (E : List (Int × Int)) : Prop where
  len : L.length ≤ 8
  lab : ∀ x ∈ L, 0 ≤ x ∧ x ≤ 255
  ends : ∀ e ∈ E, 0 ≤ e.1 ∧ e.1 < e.2 ∧ e.2 < (L.length : Int)
  rising : RisingE E
theorem rising_of {E : List (Int × Int)} (h : ∀ i, i + 1 < E.length → ltE (E.getD i (0, 0)) (E.getD (i + 1) (0, 0))) : RisingE E := by
  have key : ∀ d i, i + 1 + d < E.length → ltE (E.getD i (0, 0)) (E.getD (i + 1 + d) (0, 0)) := by
    intro d
    induction d with
    | zero => exact h
    | succ d ih => exact fun i hi => ltE_trans (ih i (by omega)) (h (i + 1 + d) hi)
  unfold RisingE
  rw [List.pairwise_iff_getElem]
  intro i j hi hj hij
  have := key (j - i - 1) i (by omega)
  rw [show i + 1 + (j - i - 1) = j by omega] at this
  simpa [List.getD, hi, hj] using this
theorem rightF_none {L : List Int} {E : List (Int × Int)} : rightF L E = none ↔ RightP L E := by
  unfold rightF
  cases hl : labF L with
  | some x =>
    simp only [reduceCtorEq, false_iff]
    intro h
    rw [labF_none.2 ⟨h.len, h.lab⟩] at hl
    cases hl
  | none =>
    obtain ⟨l1, l2⟩ := labF_none.1 hl
    simp only
    rw [List.findSome?_eq_none_iff]
    constructor
    · intro h
      have g : ∀ i, i < E.length → 0 ≤ (E.getD i (0, 0)).1 ∧ (E.getD i (0, 0)).1 < (E.getD i (0, 0)).2 ∧ (E.getD i (0, 0)).2 < (L.length : Int) ∧ (0 < i → ltE (E.getD (i - 1) (0, 0)) (E.getD i (0, 0))) := fun i hi => by
        obtain ⟨q1, q2, q3, q4, q5⟩ := edgeF_none.1 (h i (List.mem_range.2 hi))
        unfold wrongB at q5
        simp only [Bool.or_eq_false_iff, decide_eq_false_iff_not, Bool.and_eq_false_iff] at q5
        refine ⟨q1, by omega, q4, fun h0 => ?_⟩
        rcases q5.2 with k | k
        · exact absurd h0 k
        · exact cmpE_neg.1 (by omega)
      refine ⟨l1, l2, fun e he => ?_, rising_of fun i hi => ?_⟩
      · obtain ⟨i, hi, rfl⟩ := List.getElem_of_mem he
        have := g i hi
        simp only [List.getD, List.getElem?_eq_getElem hi, Option.getD_some] at this
        exact ⟨this.1, this.2.1, this.2.2.1⟩
      · have := (g (i + 1) hi).2.2.2 (by omega)
        simpa using this
    · intro h i hi
      have hi := List.mem_range.1 hi
      have q := h.ends _ (getD_memE hi)
      refine edgeF_none.2 ⟨q.1, by omega, by omega, q.2.2, ?_⟩
      unfold wrongB
      simp only [Bool.or_eq_false_iff, decide_eq_false_iff_not, Bool.and_eq_false_iff]
      refine ⟨by omega, ?_⟩
      rcases Nat.eq_zero_or_pos i with h0 | h0
      · exact Or.inl (by omega)
      · refine Or.inr ?_
        have := (List.pairwise_iff_getElem.1 h.rising) (i - 1) i (by omega) hi (by omega)
        have h2 : cmpE (E.getD (i - 1) (0, 0)) (E.getD i (0, 0)) < 0 := cmpE_neg.2 (by simpa [List.getD, hi, show i - 1 < E.length by omega] using this)
        omega
theorem RightP.small {L : List Int} {E : List (Int × Int)} (h : RightP L E) : (∀ x ∈ L, 0 ≤ x ∧ x < 1000000) ∧ ∀ e ∈ E, (0 ≤ e.1 ∧ e.1 < 1000000) ∧ 0 ≤ e.2 ∧ e.2 < 1000000 := by
  have := h.len
  exact ⟨fun x hx => by have := h.lab x hx; omega, fun e he => by have := h.ends e he; omega⟩
/-- Sum of the degrees of the first vertices. -/
def degSum (E : List (Int × Int)) : Nat → Nat
  | 0 => 0
  | v + 1 => degSum E v + E.countP (atEnd (v : Int))
theorem degSum_cons (e : Int × Int) (E : List (Int × Int)) : ∀ n : Nat, degSum (e :: E) n = degSum E n + degSum [e] n
  | 0 => rfl
  | n + 1 => by
    rw [degSum, degSum, degSum, degSum_cons e E n, List.countP_cons, List.countP_cons]
    simp only [List.countP_nil]
    omega
theorem degSum_one {e : Int × Int} : ∀ n : Nat, e.1 ≠ e.2 → 0 ≤ e.1 → 0 ≤ e.2 → degSum [e] n = (if e.1 < (n : Int) then 1 else 0) + (if e.2 < (n : Int) then 1 else 0)
  | 0, _, h1, h2 => by rw [degSum, if_neg (by omega), if_neg (by omega)]
  | n + 1, h, h1, h2 => by
    rw [degSum, degSum_one n h h1 h2, List.countP_cons]
    unfold atEnd
    simp only [List.countP_nil, Bool.or_eq_true, beq_iff_eq]
    split <;> split <;> split <;> split <;> split <;> omega
theorem degSum_two {n : Nat} : ∀ {E : List (Int × Int)}, (∀ e ∈ E, 0 ≤ e.1 ∧ e.1 < e.2 ∧ e.2 < (n : Int)) → degSum E n = 2 * E.length
  | [], _ => by
    have : ∀ m, degSum [] m = 0 := fun m => by
      induction m with
      | zero => rfl
      | succ m ih => rw [degSum, ih]; rfl
    rw [this]; rfl
  | e :: E, h => by
    have h1 := h e (by simp)
    rw [degSum_cons, degSum_two (fun d hd => h d (List.mem_cons_of_mem _ hd)), degSum_one n (by omega) (by omega) (by omega), if_pos (by omega), if_pos (by omega), List.length_cons]
    omega
end

section
open Go.RowKit
open Go.Sort (grow grow_grow alloc_eq_grow)

set_option maxRecDepth 100000 in
theorem cmp_ints (a b : Int) (w : World) : Calls Tryz.prog 76 #[.int .i64 a, .int .i64 b] w fun e w' => e = .returned (.int .i64 (cmp3 a b)) ∧ w' = w := by
  have N1 := fun (x : Int) (w : World) => show Calls Tryz.prog 105 #[.int .i64 x] w fun e w' => e = .returned (.bool false) ∧ w' = w by
    have t : (x != x) = false := by simp
    go_enter Tryz.func105, Tryz.ntmps105
    go_wp2
    go_ret
    exact ⟨rfl, rfl⟩
  have H1 := Lib.hid (N1 a w); have H2 := Lib.hid (N1 b w)
  clear N1
  by_cases h1 : a < b
  · have t1 : decide (a < b) = true := decide_eq_true h1
    have HR : Hid (cmp3 a b = -1) := Lib.hid (cmp3_lt h1)
    clear h1
    go_enter Tryz.func76, Tryz.ntmps76
    go_wp2_with fail
    refine H1.out.mono ?_; rintro e w1 ⟨rfl, hw1⟩; obtain rfl := hw1.symm
    go_wp2_with fail
    refine H2.out.mono ?_; rintro e w1 ⟨rfl, hw1⟩; obtain rfl := hw1.symm
    go_wp2_with fail
    go_ret
    exact ⟨by rw [HR.out]; rfl, rfl⟩
  · have t1 : decide (a < b) = false := decide_eq_false h1
    by_cases h2 : b < a
    · have t2 : decide (b < a) = true := decide_eq_true h2
      have HR : Hid (cmp3 a b = 1) := Lib.hid (cmp3_gt h1 h2)
      clear h1 h2
      go_enter Tryz.func76, Tryz.ntmps76
      go_wp2_with fail
      refine H1.out.mono ?_; rintro e w1 ⟨rfl, hw1⟩; obtain rfl := hw1.symm
      go_wp2_with fail
      refine H2.out.mono ?_; rintro e w1 ⟨rfl, hw1⟩; obtain rfl := hw1.symm
      go_wp2_with fail
      go_ret
      exact ⟨by rw [HR.out]; rfl, rfl⟩
    · have t2 : decide (b < a) = false := decide_eq_false h2
      have HR : Hid (cmp3 a b = 0) := Lib.hid (cmp3_eq h1 h2)
      clear h1 h2
      go_enter Tryz.func76, Tryz.ntmps76
      go_wp2_with fail
      refine H1.out.mono ?_; rintro e w1 ⟨rfl, hw1⟩; obtain rfl := hw1.symm
      go_wp2_with fail
      refine H2.out.mono ?_; rintro e w1 ⟨rfl, hw1⟩; obtain rfl := hw1.symm
      go_wp2_with fail
      go_ret
      exact ⟨by rw [HR.out]; rfl, rfl⟩

set_option maxRecDepth 100000 in
set_option maxHeartbeats 2000000 in
theorem or_any (n : Nat) (Z : Nat → Int) (g : Nat) (r : Int) (w : World) (hn : n ≤ 100) (hc : ∀ i, i < n → w.cell? ⟨g, i, none⟩ = some (.int .i64 (Z i)))
    (hr : ∀ k, k < n → (∀ i, i < k → Z i = 0) → Z k ≠ 0 → r = Z k) (hr0 : (∀ i, i < n → Z i = 0) → r = 0) :
    Calls Tryz.prog 75 #[.slice (some ⟨g, 0, none⟩) n n] w fun e w' => e = .returned (.int .i64 r) ∧ w' = w := by
  have HC := Lib.hid hc; have HR := Lib.hid hr; have HR0 := Lib.hid hr0
  clear hc hr hr0
  go_enter Tryz.func75, Tryz.ntmps75
  go_wp2_with fail
  go_loopg [8] n (fun gh y wr => ∃ k, k ≤ n ∧ gh = n - k ∧ y = .int .i64 (k : Nat) ∧ (∀ i, i < k → Z i = 0) ∧ wr = w)
  case atStart => exact ⟨0, Nat.zero_le _, rfl, rfl, fun i h => absurd h (Nat.not_lt_zero i), rfl⟩
  case round =>
    obtain ⟨k, hk, rfl, rfl, ha, rfl⟩ := hrel
    have HA := Lib.hid ha
    clear ha
    by_cases hlt : k < n
    · have c0 := HC.out k hlt
      obtain ⟨z, hz⟩ : ∃ z, Z k = z := ⟨_, rfl⟩
      rw [hz] at c0
      have HZ := Lib.hid hz
      have HLT := Lib.hid hlt
      have t3 : decide (k < n) = true := decide_eq_true hlt
      have j1 : (k : Int) < n := by omega
      have j2 : (0 : Int) ≤ k := by omega
      clear hz hlt
      by_cases h : z = 0
      · have t1 : (z != 0) = false := by simp [h]
        have H := Lib.hid h
        clear h
        go_wp2_with fail
        go_roundg (n - (k + 1))
        case rel =>
          refine ⟨k + 1, HLT.out, rfl, by go_num, fun i hi => ?_, rfl⟩
          rcases Nat.lt_or_ge i k with h | h
          · exact HA.out i h
          · obtain rfl : i = k := by omega
            rw [HZ.out]
            exact H.out
        case measure => have := HLT.out; omega
      · have t1 : (z != 0) = true := by simpa using h
        have H : Hid (r = z) := Lib.hid (by rw [← HZ.out]; exact HR.out k HLT.out HA.out (by rw [HZ.out]; exact h))
        clear h
        go_wp2_with fail
        go_ret
        exact ⟨by rw [H.out]; rfl, rfl⟩
    · obtain rfl : k = n := by omega
      have t3 : decide (k < k) = false := by simp
      have H : Hid (r = 0) := Lib.hid (HR0.out HA.out)
      clear hlt
      go_wp2_with fail
      go_ret
      exact ⟨by rw [H.out]; rfl, rfl⟩

def edgeV (e : Int × Int) : Value := .agg #[.int .i64 e.1, .int .i64 e.2]
set_option maxRecDepth 100000 in
set_option maxHeartbeats 2000000 in
theorem cmpEdges_any (x y : Int × Int) (W : World) :
    Calls Tryz.prog 59 #[edgeV x, edgeV y] W fun e w' => e = .returned (.int .i64 (cmpE x y)) ∧ ∃ q os', w' = grow (W.drewN q) os' := by
  obtain ⟨a, b⟩ := x
  obtain ⟨c, d⟩ := y
  have C1 := fun W' => cmp_ints a c W'
  have C2 := fun W' => cmp_ints b d W'
  unfold cmpE edgeV
  simp only
  generalize cmp3 a c = p at C1 ⊢
  generalize cmp3 b d = q at C2 ⊢
  have H1 := Lib.hid C1; have H2 := Lib.hid C2
  clear C1 C2
  obtain ⟨r, hr⟩ : ∃ r, (if p = 0 then q else p) = r := ⟨_, rfl⟩
  rw [hr]
  have HO : Hid (Calls Tryz.prog 75 #[.slice (some ⟨W.heap.size + 1 + 1, 0, none⟩) 2 2] (((W.alloc (.cells #[.int .i64 a, .int .i64 b] 54)).alloc (.cells #[.int .i64 c, .int .i64 d] 54)).alloc (.cells #[.int .i64 p, .int .i64 q] 3)).drew fun e w' => e = .returned (.int .i64 r) ∧ w' = (((W.alloc (.cells #[.int .i64 a, .int .i64 b] 54)).alloc (.cells #[.int .i64 c, .int .i64 d] 54)).alloc (.cells #[.int .i64 p, .int .i64 q] 3)).drew) := Lib.hid (by
    have h := Whole.new ((W.alloc (.cells #[.int .i64 a, .int .i64 b] 54)).alloc (.cells #[.int .i64 c, .int .i64 d] 54)) 3 #[.int .i64 p, .int .i64 q]
    rw [World.size_alloc, World.size_alloc] at h
    rw [← hr]
    refine or_any 2 (fun i => if i = 0 then p else q) _ _ _ (by omega) (fun i hi => ?_) (fun k hk h0 h1 => ?_) (fun h0 => ?_)
    · rcases (by omega : i = 0 ∨ i = 1) with rfl | rfl
      · exact (h.drewN 1).cell 0
      · exact (h.drewN 1).cell 1
    · rcases (by omega : k = 0 ∨ k = 1) with rfl | rfl
      · simp at h1
        simp [h1]
      · have := h0 0 (by omega)
        simp at this
        simp [this]
    · have e0 := h0 0 (by omega)
      have e1 := h0 1 (by omega)
      simp at e0 e1
      simp [e0, e1])
  clear hr
  go_enter Tryz.func59, Tryz.ntmps59
  go_wp2_with fail
  refine wp_region_still_tail 10 (by kernel_rfl) (by kernel_rfl) ?_
  simp only [List.take_succ_cons, List.take_zero, List.drop_succ_cons, List.drop_zero]
  change wpStill _ _ (World.drew _) _ _ _
  still_step
  still_step
  still_step
  still_step
  still_call (H1.out _)
  still_step
  still_step
  still_step
  still_step
  still_call (H2.out _)
  refine wpStill_nil ?_
  change wpList _ _ _ _ _ (World.drew _)
  go_wp2_with fail
  refine HO.out.mono ?_
  rintro e' w5 ⟨rfl, hw5⟩
  have HW5 := Lib.hid hw5
  clear hw5
  go_wp2_with fail
  go_ret
  refine ⟨rfl, 1, #[.cells #[.int .i64 a, .int .i64 b] 54, .cells #[.int .i64 c, .int .i64 d] 54, .cells #[.int .i64 p, .int .i64 q] 3], ?_⟩
  rw [HW5.out, alloc_eq_grow, alloc_eq_grow, alloc_eq_grow, grow_grow, grow_grow]
  rfl
theorem below_growD (W : World) (q : Nat) (os : Array Obj) : Below W.heap.size W (grow (W.drewN q) os) := Lib.below_grow _ W (Nat.le_refl _) q os
theorem cmpEdges_below (x y : Int × Int) (W : World) :
    Calls Tryz.prog 59 #[edgeV x, edgeV y] W fun e w' => e = .returned (.int .i64 (cmpE x y)) ∧ Below W.heap.size W w' :=
  (cmpEdges_any x y W).mono fun _ _ ⟨he, q, os, hw⟩ => ⟨he, by rw [hw]; exact below_growD W q os⟩
end

section
open Go.RowKit

theorem ErrTo.err {c p : Int} {o : Option (Int × Int)} {w w' : World} {e : Ending} (h : ErrTo o w e w') (ho : o = some (c, p)) : ∃ b, e = .returned (.iface 64 (.pointer (some ⟨b, 0, none⟩))) ∧ FaultAt c p w' (.iface 64 (.pointer (some ⟨b, 0, none⟩))) ∧ Below w.heap.size w w' := by
  obtain ⟨hb, ⟨h1, _⟩ | ⟨c', p', u, h1, rfl, hf⟩⟩ := h
  · rw [h1] at ho; cases ho
  · rw [h1] at ho
    injection ho with ho
    injection ho with e1 e2
    subst e1 e2
    obtain ⟨b, s, rfl, hw⟩ := hf
    exact ⟨b, rfl, ⟨b, s, rfl, hw⟩, hb⟩
theorem ErrTo.nil {o : Option (Int × Int)} {w w' : World} {e : Ending} (h : ErrTo o w e w') (ho : o = none) : e = .returned .nilIface ∧ Below w.heap.size w w' := by
  obtain ⟨hb, ⟨_, h1⟩ | ⟨c', p', u, h1, _⟩⟩ := h
  · exact ⟨h1, hb⟩
  · rw [h1] at ho; cases ho

set_option maxRecDepth 100000 in
set_option maxHeartbeats 4000000 in
theorem right_any {w : World} {vl ve : Value} {L : List Int} {E : List (Int × Int)} (hl : SeqV w vl L) (he : EdgesV w ve E) (h1 : L.length ≤ 1000000) (h2 : E.length ≤ 1000000) :
    Calls Tryz.prog 43 #[.agg #[vl, ve]] w (ErrTo (rightF L E) w) := by
  have HE := Lib.hid he
  obtain ⟨Al, cl, rfl⟩ := IntsV.form hl
  obtain ⟨Ae, ce, rfl⟩ := he.form
  obtain ⟨n, hn⟩ : ∃ n, L.length = n := ⟨_, rfl⟩
  obtain ⟨m, hm⟩ : ∃ m, E.length = m := ⟨_, rfl⟩
  have hb1 : Below w.heap.size w (w.alloc (.cells #[.slice Al n cl, .slice Ae m ce] 52)) := (Below.refl _ _).alloc (Nat.le_refl _) _
  obtain ⟨w1, hw1⟩ : ∃ W, w.alloc (.cells #[.slice Al n cl, .slice Ae m ce] 52) = W := ⟨_, rfl⟩
  obtain ⟨xb, hxb⟩ : ∃ g, w.heap.size = g := ⟨_, rfl⟩
  have hx := Whole.new w 52 #[.slice Al n cl, .slice Ae m ce]
  rw [hw1] at hx hb1
  have CL := checkLabels_any (hl.below hb1 (Nat.le_refl _)) hn (by omega)
  rw [hn] at h1 CL ⊢
  rw [hm] at HE h2 ⊢
  have HN := Lib.hid hn; have HM := Lib.hid hm; have HB1 := Lib.hid hb1; have HW1 := Lib.hid hw1; have HX := Lib.hid hx; have HCL := Lib.hid CL
  rw [hxb] at HX
  have HXB := Lib.hid hxb
  have c0 : w1.cell? ⟨xb, 0, none⟩ = some (.slice Al n cl) := HX.out.cell 0
  have c1 : w1.cell? ⟨xb, 1, none⟩ = some (.slice Ae m ce) := HX.out.cell 1
  clear hl he hn hm hb1 hw1 hxb hx CL
  go_enter Tryz.func43, Tryz.ntmps43
  go_upto_region 1 with fail
  rw [HW1.out, HXB.out]
  go_wp2_with fail
  refine HCL.out.mono ?_; rintro e w2 hto
  obtain ⟨o, ho⟩ : ∃ o, labF L = o := ⟨_, rfl⟩
  rw [ho] at hto
  clear c0 c1
  rcases o with _ | ⟨c, p⟩
  · obtain ⟨rfl, hb2⟩ := hto.nil rfl
    have hx2 := HX.out.below hb2 HX.out.lt
    have c0 : w2.cell? ⟨xb, 0, none⟩ = some (.slice Al n cl) := hx2.cell 0
    have c1 : w2.cell? ⟨xb, 1, none⟩ = some (.slice Ae m ce) := hx2.cell 1
    have HX2 := Lib.hid hx2; have HB2 := Lib.hid (HB1.out.trans (hb2.mono HB1.out.size)); have HO := Lib.hid ho
    clear hto hb2 hx2 ho
    go_wp2_with fail
    go_loopg [17] m (fun g y wr => ∃ k, k ≤ m ∧ g = m - k ∧ y = .int .i64 (k : Nat) ∧ (∀ i, i < k → edgeAtF n E i = none) ∧ Below w.heap.size w wr ∧ Whole wr xb 52 #[.slice Al n cl, .slice Ae m ce])
    case atStart => exact ⟨0, Nat.zero_le _, rfl, rfl, fun i hi => absurd hi (Nat.not_lt_zero i), HB2.out, HX2.out⟩
    case round =>
      obtain ⟨k, hk, rfl, rfl, hall, hB, hX⟩ := hrel
      have HALL := Lib.hid hall
      clear hall
      by_cases hlt : k < m
      · have hkE : k < E.length := by rw [HM.out]; exact hlt
        obtain ⟨b, off, rfl, d0, d1⟩ := (HE.out.below hB (Nat.le_refl _)).pos (i := k) hkE
        obtain ⟨x, hxx⟩ : ∃ x, E.getD k (0, 0) = x := ⟨_, rfl⟩
        rw [hxx] at d0 d1
        obtain ⟨a, q⟩ := x
        simp only at d0 d1
        have t3 : decide (k < m) = true := decide_eq_true hlt
        have i1 : (k : Int) < m := by omega
        have i2 : (0 : Int) ≤ k := by omega
        have hb3 : Below w.heap.size w (wr.alloc (.cells #[.int .i64 a, .int .i64 q] 54)) := hB.alloc hB.size _
        have hX3 := hX.alloc (.cells #[.int .i64 a, .int .i64 q] 54)
        have hG3 := Whole.new wr 54 #[.int .i64 a, .int .i64 q]
        have hE3 := HE.out.below hb3 (Nat.le_refl _)
        obtain ⟨w3, hw3⟩ : ∃ W, wr.alloc (.cells #[.int .i64 a, .int .i64 q] 54) = W := ⟨_, rfl⟩
        obtain ⟨gb, hgb⟩ : ∃ g, wr.heap.size = g := ⟨_, rfl⟩
        rw [hw3] at hb3 hX3 hG3 hE3
        rw [hgb] at hG3
        have HW3 := Lib.hid hw3; have HGB := Lib.hid hgb; have HB3 := Lib.hid hb3; have HX3 := Lib.hid hX3; have HG3 := Lib.hid hG3; have HE3 := Lib.hid hE3; have HLT := Lib.hid hlt; have HXX := Lib.hid hxx; have HKE := Lib.hid hkE
        clear hB hX hlt hxx hw3 hgb hb3 hX3 hG3 hE3 hkE
        have HFIN : Hid (∀ wrong, wrongB E k = wrong → edgeF n k a q wrong = edgeAtF n E k) := Lib.hid (fun wrong h => by
          unfold edgeAtF
          rw [HXX.out, h])
        have HCE := Lib.hid (fun (wr : Bool) (W : World) => checkEdge_any (n : Int) (k : Int) a q wr W)
        have e0 : w3.cell? ⟨gb, 0, none⟩ = some (.int .i64 a) := HG3.out.cell 0
        have e1 : w3.cell? ⟨gb, 1, none⟩ = some (.int .i64 q) := HG3.out.cell 1
        have x0 : w3.cell? ⟨xb, 0, none⟩ = some (.slice Al n cl) := HX3.out.cell 0
        have x1 : w3.cell? ⟨xb, 1, none⟩ = some (.slice (some ⟨b, off, none⟩) m ce) := HX3.out.cell 1
        go_upto_region 7 with fail
        rw [HW3.out, HGB.out]
        by_cases haq : q ≤ a
        · have HWR : Hid (wrongB E k = true) := Lib.hid (by
            unfold wrongB
            rw [HXX.out, decide_eq_true haq]; rfl)
          have t5 : decide (q ≤ a) = true := decide_eq_true haq
          clear haq
          go_quiet (fail)
          go_wp2_with fail
          refine (HCE.out true (w3.drewN _)).mono ?_; rintro e w5 hto
          obtain ⟨o, ho⟩ : ∃ o, edgeAtF n E k = o := ⟨_, rfl⟩
          rw [HFIN.out _ HWR.out, ho] at hto
          have HO5 := Lib.hid ho
          clear ho
          rcases o with _ | ⟨c, p⟩
          · obtain ⟨rfl, hb5⟩ := hto.nil rfl
            have HB5 := Lib.hid ((below_drewN' HB3.out _).trans (hb5.mono (below_drewN' HB3.out _).size))
            have HX5 := Lib.hid ((HX3.out.drewN _).below hb5 (HX3.out.drewN _).lt)
            clear hto hb5
            go_wp2_with fail
            go_roundg (m - (k + 1))
            case rel =>
              refine ⟨k + 1, HLT.out, rfl, by go_num, fun i hi => ?_, HB5.out, HX5.out⟩
              rcases Nat.lt_or_ge i k with h | h
              · exact HALL.out i h
              · obtain rfl : i = k := by omega
                exact HO5.out
            case measure => have := HLT.out; omega
          · obtain ⟨fb, rfl, hf, hb5⟩ := hto.err rfl
            have HF : Hid (rightF L E = some (c, p)) := Lib.hid (by
              unfold rightF
              rw [HO.out]
              simp only
              exact some_at HKE.out (fun i hi => by rw [HN.out]; exact HALL.out i hi) (by rw [HN.out]; exact HO5.out))
            have HFA := Lib.hid hf
            have HB5 := Lib.hid ((below_drewN' HB3.out _).trans (hb5.mono (below_drewN' HB3.out _).size))
            clear hto hf hb5
            go_wp2_with fail
            go_ret
            exact ⟨HB5.out, Or.inr ⟨c, p, _, HF.out, rfl, HFA.out⟩⟩
        · have t5 : decide (q ≤ a) = false := decide_eq_false haq
          have HAQ := Lib.hid haq
          clear haq
          rcases Nat.eq_zero_or_pos k with hk0 | hk0
          · have HWR : Hid (wrongB E k = false) := Lib.hid (by
              unfold wrongB
              rw [HXX.out, decide_eq_false HAQ.out, decide_eq_false (by omega)]; rfl)
            have t6 : decide (0 < k) = false := decide_eq_false (by omega)
            have t6' : decide ((0 : Int) < (k : Int)) = false := decide_eq_false (by omega)
            clear hk0
            go_quiet (fail)
            go_wp2_with fail
            refine (HCE.out false (w3.drewN _)).mono ?_; rintro e w5 hto
            obtain ⟨o, ho⟩ : ∃ o, edgeAtF n E k = o := ⟨_, rfl⟩
            rw [HFIN.out _ HWR.out, ho] at hto
            have HO5 := Lib.hid ho
            clear ho
            rcases o with _ | ⟨c, p⟩
            · obtain ⟨rfl, hb5⟩ := hto.nil rfl
              have HB5 := Lib.hid ((below_drewN' HB3.out _).trans (hb5.mono (below_drewN' HB3.out _).size))
              have HX5 := Lib.hid ((HX3.out.drewN _).below hb5 (HX3.out.drewN _).lt)
              clear hto hb5
              go_wp2_with fail
              go_roundg (m - (k + 1))
              case rel =>
                refine ⟨k + 1, HLT.out, rfl, by go_num, fun i hi => ?_, HB5.out, HX5.out⟩
                rcases Nat.lt_or_ge i k with h | h
                · exact HALL.out i h
                · obtain rfl : i = k := by omega
                  exact HO5.out
              case measure => have := HLT.out; omega
            · obtain ⟨fb, rfl, hf, hb5⟩ := hto.err rfl
              have HF : Hid (rightF L E = some (c, p)) := Lib.hid (by
                unfold rightF
                rw [HO.out]
                simp only
                exact some_at HKE.out (fun i hi => by rw [HN.out]; exact HALL.out i hi) (by rw [HN.out]; exact HO5.out))
              have HFA := Lib.hid hf
              have HB5 := Lib.hid ((below_drewN' HB3.out _).trans (hb5.mono (below_drewN' HB3.out _).size))
              clear hto hf hb5
              go_wp2_with fail
              go_ret
              exact ⟨HB5.out, Or.inr ⟨c, p, _, HF.out, rfl, HFA.out⟩⟩
          · obtain ⟨j, hj⟩ : ∃ j, k = j + 1 := ⟨k - 1, by omega⟩
            obtain ⟨b', off', hA, f0, f1⟩ := HE3.out.pos (i := j) (by have := HKE.out; omega)
            injection hA with hA
            injection hA with z1 z2
            subst z1 z2
            obtain ⟨z, hz⟩ : ∃ z, E.getD j (0, 0) = z := ⟨_, rfl⟩
            rw [hz] at f0 f1
            obtain ⟨a', q'⟩ := z
            simp only at f0 f1
            have s1 : IntKind.i64.wrap ((k : Int) - 1) = (j : Int) := by rw [IntKind.wrap_i64] <;> omega
            have t6 : decide (0 < k) = true := decide_eq_true (by omega)
            have t6' : decide ((0 : Int) < (k : Int)) = true := decide_eq_true (by omega)
            have j1 : (j : Int) < m := by omega
            have j2 : (0 : Int) ≤ j := by omega
            have hbl := World.block_lt_of_cell? _ _ f0
            have KS := Lib.hid (fun (W : World) (hb : Below w3.heap.size w3 W) => (show Below w3.heap.size w3 W ∧ W.cell? ⟨gb, 0, none⟩ = some (.int .i64 a) ∧ W.cell? ⟨gb, 1, none⟩ = some (.int .i64 q) ∧ W.cell? ⟨xb, 1, none⟩ = some (.slice (some ⟨b, off, none⟩) m ce) ∧ W.cell? ⟨b, off + j * 2, none⟩ = some (.int .i64 a') ∧ W.cell? ⟨b, off + j * 2 + 1, none⟩ = some (.int .i64 q') from
              ⟨hb, (hb.cell (p := ⟨gb, 0, none⟩) HG3.out.lt).trans e0, (hb.cell (p := ⟨gb, 1, none⟩) HG3.out.lt).trans e1, (hb.cell (p := ⟨xb, 1, none⟩) HX3.out.lt).trans x1, (hb.cell (p := ⟨b, off + j * 2, none⟩) hbl).trans f0, (hb.cell (p := ⟨b, off + j * 2 + 1, none⟩) hbl).trans f1⟩))
            obtain ⟨r, hr⟩ : ∃ r, cmpE (a', q') (a, q) = r := ⟨_, rfl⟩
            have HCMP : Hid (∀ W, Below w3.heap.size w3 W → Calls Tryz.prog 59 #[.agg #[.int .i64 a', .int .i64 q'], .agg #[.int .i64 a, .int .i64 q]] W fun e w' => e = .returned (.int .i64 r) ∧ Below w3.heap.size w3 w') := Lib.hid (fun W hb => by
              have h := cmpEdges_below (a', q') (a, q) W
              rw [hr] at h
              exact h.mono fun e w' ⟨h1, h2⟩ => ⟨h1, hb.trans (h2.mono hb.size)⟩)
            have HWR : Hid (wrongB E k = decide (0 ≤ r)) := Lib.hid (by
              unfold wrongB
              rw [HXX.out, decide_eq_false HAQ.out, show k - 1 = j by omega, hz, hr, decide_eq_true (by omega : 0 < k)]; simp)
            have HBL := Lib.hid hbl
            clear hz hr hk0 hbl hj
            go_region_held3 (fun W => Below w3.heap.size w3 W ∧ W.cell? ⟨gb, 0, none⟩ = some (.int .i64 a) ∧ W.cell? ⟨gb, 1, none⟩ = some (.int .i64 q) ∧ W.cell? ⟨xb, 1, none⟩ = some (.slice (some ⟨b, off, none⟩) m ce) ∧ W.cell? ⟨b, off + j * 2, none⟩ = some (.int .i64 a') ∧ W.cell? ⟨b, off + j * 2 + 1, none⟩ = some (.int .i64 q'))
              (exact KS.out _ (by first | assumption | exact below_drewN' (Below.refl _ _) _))
              (first
                | (go_at_call 59; refine (HCMP.out _ (by first | assumption | exact below_drewN' (Below.refl _ _) _)).mono ?_; rintro e' w4 ⟨rfl, hb4⟩))
            have hX4 := HX3.out.below hb4 HX3.out.lt
            have hG4 := HG3.out.below hb4 HG3.out.lt
            have g0 : w4.cell? ⟨gb, 0, none⟩ = some (.int .i64 a) := hG4.cell 0
            have g1 : w4.cell? ⟨gb, 1, none⟩ = some (.int .i64 q) := hG4.cell 1
            have y0 : w4.cell? ⟨xb, 0, none⟩ = some (.slice Al n cl) := hX4.cell 0
            have HX4 := Lib.hid hX4; have HB4 := Lib.hid (HB3.out.trans (hb4.mono HB3.out.size))
            obtain ⟨zw, hzw⟩ : ∃ z, decide (0 ≤ r) = z := ⟨_, rfl⟩
            rw [hzw] at HWR ⊢
            clear hX4 hG4 hb4 hzw
            go_wp2_with fail
            refine (HCE.out zw w4).mono ?_; rintro e w5 hto
            obtain ⟨o, ho⟩ : ∃ o, edgeAtF n E k = o := ⟨_, rfl⟩
            rw [HFIN.out _ HWR.out, ho] at hto
            have HO5 := Lib.hid ho
            clear ho
            rcases o with _ | ⟨c, p⟩
            · obtain ⟨rfl, hb5⟩ := hto.nil rfl
              have HB5 := Lib.hid (HB4.out.trans (hb5.mono HB4.out.size))
              have HX5 := Lib.hid (HX4.out.below hb5 HX4.out.lt)
              clear hto hb5
              go_wp2_with fail
              go_roundg (m - (k + 1))
              case rel =>
                refine ⟨k + 1, HLT.out, rfl, by go_num, fun i hi => ?_, HB5.out, HX5.out⟩
                rcases Nat.lt_or_ge i k with h | h
                · exact HALL.out i h
                · obtain rfl : i = k := by omega
                  exact HO5.out
              case measure => have := HLT.out; omega
            · obtain ⟨fb, rfl, hf, hb5⟩ := hto.err rfl
              have HF : Hid (rightF L E = some (c, p)) := Lib.hid (by
                unfold rightF
                rw [HO.out]
                simp only
                exact some_at HKE.out (fun i hi => by rw [HN.out]; exact HALL.out i hi) (by rw [HN.out]; exact HO5.out))
              have HFA := Lib.hid hf
              have HB5 := Lib.hid (HB4.out.trans (hb5.mono HB4.out.size))
              clear hto hf hb5
              go_wp2_with fail
              go_ret
              exact ⟨HB5.out, Or.inr ⟨c, p, _, HF.out, rfl, HFA.out⟩⟩
      · obtain rfl : k = m := by omega
        have t1 : decide (k < k) = false := by simp
        have HF : Hid (rightF L E = none) := Lib.hid (by
          unfold rightF
          rw [HO.out]
          simp only
          rw [HM.out]
          exact some_none (fun i hi => by rw [HN.out]; exact HALL.out i hi))
        have HBB := Lib.hid hB
        clear hlt hB hX
        go_wp2_with fail
        go_ret
        exact ⟨HBB.out, Or.inl ⟨HF.out, rfl⟩⟩
  · obtain ⟨b, rfl, hf, hb2⟩ := hto.err rfl
    have HF : Hid (rightF L E = some (c, p)) := Lib.hid (by unfold rightF; rw [ho])
    have HFA := Lib.hid hf
    have HB2 := Lib.hid (HB1.out.trans (hb2.mono HB1.out.size))
    clear hto hf hb2 ho
    go_wp2_with fail
    go_ret
    exact ⟨HB2.out, Or.inr ⟨c, p, _, HF.out, rfl, HFA.out⟩⟩
end
end Go.Proofs.YtbbdammdiplagaaGreatDoor
