/- net: what holds of a net, whatever is called (pure). Letters compared. net: a double that comes late (pure). -/
import Derived.Test.YtlopoddllfkkfaaDoorJ8
import Derived.Test.YtlopoddllfkkfaaDoorJ4
import Derived.Laws.StructEq
namespace Go.Proofs.YtlopoddllfkkfaaDoor
section
/-- A letter of those sent. -/
def Of (n : NetP) (l : Let) : Prop := hasB n.k l.f = true ∧ hasB n.k l.t = true ∧ ∃ s : Nat, l.s = s ∧ s < n.sent l.f l.t
/-- What holds of a net: T is the text of each letter, by its name; L the letters that never came. -/
structure Inv (n : NetP) (T : Int → Int → Int → ByteArray) (L : List Let) : Prop where
  fly : ∀ l ∈ n.fly, Of n l ∧ l.x = T l.f l.t l.s
  came : ∀ a c s l, n.came a c s = some l → l = ⟨a, c, s, T a c s⟩ ∧ Of n l
  nd : L.Nodup
  len : n.miss = L.length
  miss : ∀ l ∈ L, l ∈ n.fly ∧ n.came l.f l.t l.s = none
  all : ∀ l ∈ n.fly, l ∈ L ∨ n.came l.f l.t l.s = some l
theorem Inv.fresh (k : Nat) : Inv (freshP k) (fun _ _ _ => ⟨#[]⟩) [] :=
  ⟨fun l hl => by simp [freshP] at hl, fun a c s l hl => by simp [freshP] at hl, List.nodup_nil, rfl, fun l hl => by simp at hl, fun l hl => by simp [freshP] at hl⟩
theorem Inv.send {n : NetP} {T : Int → Int → Int → ByteArray} {L : List Let} (h : Inv n T L) {a c : Int} (x : ByteArray) (ha : hasB n.k a = true) (hc : hasB n.k c = true) :
    ∃ T', Inv (sendP n a c x) T' (⟨a, c, n.sent a c, x⟩ :: L) := by
  obtain ⟨nl, hnl⟩ : ∃ nl : Let, nl = ⟨a, c, n.sent a c, x⟩ := ⟨_, rfl⟩
  have hmono : ∀ l, Of n l → Of (sendP n a c x) l := fun l ⟨h1, h2, s, h3, h4⟩ => ⟨h1, h2, s, h3, by
    show s < (if l.f = a ∧ l.t = c then n.sent a c + 1 else n.sent l.f l.t)
    split
    · rename_i e; rw [e.1, e.2] at h4; omega
    · exact h4⟩
  have hne : ∀ l, Of n l → ¬ (l.f = a ∧ l.t = c ∧ l.s = n.sent a c) := fun l ⟨_, _, s, h3, h4⟩ ⟨e1, e2, e3⟩ => by
    rw [e1, e2] at h4
    omega
  have hof : Of (sendP n a c x) ⟨a, c, n.sent a c, x⟩ := ⟨ha, hc, n.sent a c, rfl, by
    show n.sent a c < (if a = a ∧ c = c then n.sent a c + 1 else n.sent a c)
    rw [if_pos ⟨rfl, rfl⟩]; omega⟩
  have hnone : n.came a c (n.sent a c) = none := by
    cases hca : n.came a c (n.sent a c) with
    | none => rfl
    | some l =>
      obtain ⟨e, ho⟩ := h.came _ _ _ _ hca
      subst e
      exact absurd ⟨rfl, rfl, rfl⟩ (hne _ ho)
  refine ⟨fun p q s => if p = a ∧ q = c ∧ s = n.sent a c then x else T p q s, ?_, ?_, ?_, ?_, ?_, ?_⟩
  · intro l hl
    have hl' : l ∈ n.fly ++ [⟨a, c, n.sent a c, x⟩] := hl
    rcases List.mem_append.1 hl' with h1 | h1
    · obtain ⟨h2, h3⟩ := h.fly l h1
      refine ⟨hmono l h2, ?_⟩
      rw [if_neg (hne l h2)]
      exact h3
    · rw [List.mem_singleton] at h1
      subst h1
      refine ⟨hof, ?_⟩
      dsimp only
      rw [if_pos ⟨rfl, rfl, rfl⟩]
  · intro p q s l hl
    obtain ⟨e, ho⟩ := h.came p q s l hl
    refine ⟨?_, hmono l ho⟩
    have hn := hne l ho
    rw [e] at hn
    rw [if_neg hn]
    exact e
  · refine List.nodup_cons.2 ⟨fun hl => ?_, h.nd⟩
    have := (h.fly _ (h.miss _ hl).1).1
    exact absurd ⟨rfl, rfl, rfl⟩ (hne _ this)
  · show n.miss + 1 = _
    rw [h.len, List.length_cons]
    rfl
  · intro l hl
    rcases List.mem_cons.1 hl with rfl | hl
    · exact ⟨List.mem_append.2 (Or.inr (List.mem_singleton.2 rfl)), hnone⟩
    · exact ⟨List.mem_append.2 (Or.inl (h.miss l hl).1), (h.miss l hl).2⟩
  · intro l hl
    have hl' : l ∈ n.fly ++ [⟨a, c, n.sent a c, x⟩] := hl
    rcases List.mem_append.1 hl' with h1 | h1
    · rcases h.all l h1 with h2 | h2
      · exact Or.inl (List.mem_cons_of_mem _ h2)
      · exact Or.inr h2
    · rw [List.mem_singleton] at h1
      subst h1
      exact Or.inl (List.mem_cons_self ..)
theorem Inv.dup {n : NetP} {T : Int → Int → Int → ByteArray} {L : List Let} (h : Inv n T L) {l : Let} (hl : l ∈ n.fly) : Inv (dupP n l) T L := by
  have hm : ∀ q, q ∈ (dupP n l).fly → q ∈ n.fly := fun q hq => by
    have hq' : q ∈ n.fly ++ [l] := hq
    rcases List.mem_append.1 hq' with h1 | h1
    · exact h1
    · rw [List.mem_singleton] at h1
      subst h1
      exact hl
  exact ⟨fun q hq => h.fly q (hm q hq), h.came, h.nd, h.len, fun q hq => ⟨List.mem_append.2 (Or.inl (h.miss q hq).1), (h.miss q hq).2⟩, fun q hq => h.all q (hm q hq)⟩
/-- Letters of one name are one letter. -/
theorem Inv.one {n : NetP} {T : Int → Int → Int → ByteArray} {L : List Let} (h : Inv n T L) {l q : Let} (hl : l ∈ n.fly) (hq : q ∈ n.fly) (e1 : l.f = q.f) (e2 : l.t = q.t) (e3 : l.s = q.s) : l = q := by
  have h1 := (h.fly l hl).2
  have h2 := (h.fly q hq).2
  rw [e1, e2, e3, ← h2] at h1
  exact Let.ext' e1 e2 e3 h1
open Classical in
theorem Inv.deliver {n : NetP} {T : Int → Int → Int → ByteArray} {L : List Let} (h : Inv n T L) (i : Nat) (hi : i < n.fly.length) : ∃ L', Inv (cameP (dropP n i) n.fly[i]) T L' ∧ ∀ q ∈ L', q ∈ L := by
  obtain ⟨l, hl⟩ : ∃ l, n.fly[i] = l := ⟨_, rfl⟩
  have hlm : l ∈ n.fly := by rw [← hl]; exact List.getElem_mem _
  rw [hl]
  have hm : ∀ q, q ∈ (dropP n i).fly → q ∈ n.fly := fun q hq => by
    have hq' : q ∈ n.fly.take i ++ n.fly.drop (i + 1) := hq
    rcases List.mem_append.1 hq' with h1 | h1
    · exact List.mem_of_mem_take h1
    · exact List.mem_of_mem_drop h1
  have hk : ∀ q, q ∈ n.fly → q ≠ l → q ∈ (dropP n i).fly := fun q hq hne => by
    show q ∈ n.fly.take i ++ n.fly.drop (i + 1)
    have e : n.fly = n.fly.take i ++ (l :: n.fly.drop (i + 1)) := by
      rw [← hl, List.getElem_cons_drop, List.take_append_drop]
    rw [e] at hq
    rcases List.mem_append.1 hq with h1 | h1
    · exact List.mem_append.2 (Or.inl h1)
    · rcases List.mem_cons.1 h1 with h2 | h2
      · exact absurd h2 hne
      · exact List.mem_append.2 (Or.inr h2)
  by_cases hc : (n.came l.f l.t l.s).isSome = true
  · have e : cameP (dropP n i) l = dropP n i := if_pos hc
    rw [e]
    refine ⟨L, ⟨fun q hq => h.fly q (hm q hq), h.came, h.nd, h.len, fun q hq => ⟨hk q (h.miss q hq).1 fun e => ?_, (h.miss q hq).2⟩, fun q hq => h.all q (hm q hq)⟩, fun q hq => hq⟩
    subst e
    rw [(h.miss q hq).2] at hc
    cases hc
  · have hno : n.came l.f l.t l.s = none := by simpa using hc
    have e : cameP (dropP n i) l = { dropP n i with came := fun p q r => if p = l.f ∧ q = l.t ∧ r = l.s then some l else n.came p q r, miss := n.miss - 1 } := if_neg hc
    rw [e]
    have hlL : l ∈ L := by
      rcases h.all l hlm with h1 | h1
      · exact h1
      · rw [hno] at h1; cases h1
    have hlen : (L.erase l).length = L.length - 1 := by rw [List.length_erase_of_mem hlL]
    have hpos : 0 < L.length := List.length_pos_of_mem hlL
    refine ⟨L.erase l, ⟨fun q hq => h.fly q (hm q hq), fun p q r y hy => ?_, h.nd.erase l, ?_, fun q hq => ?_, fun q hq => ?_⟩, fun q hq => List.mem_of_mem_erase hq⟩
    · have hy' : (if p = l.f ∧ q = l.t ∧ r = l.s then some l else n.came p q r) = some y := hy
      split at hy'
      · rename_i he
        obtain ⟨rfl, rfl, rfl⟩ := he
        injection hy' with hy'
        subst hy'
        obtain ⟨h1, h2⟩ := h.fly l hlm
        refine ⟨?_, h1⟩
        rw [← h2]
      · exact h.came p q r y hy'
    · show n.miss - 1 = _
      rw [h.len, hlen]
      omega
    · have hne : q ≠ l := fun e => by subst e; exact absurd hq (List.Nodup.not_mem_erase h.nd)
      have hq2 := h.miss q (List.mem_of_mem_erase hq)
      refine ⟨hk q hq2.1 hne, ?_⟩
      show (if q.f = l.f ∧ q.t = l.t ∧ q.s = l.s then some l else n.came q.f q.t q.s) = none
      rw [if_neg (fun e => hne (h.one hq2.1 hlm e.1 e.2.1 e.2.2))]
      exact hq2.2
    · show q ∈ L.erase l ∨ (if q.f = l.f ∧ q.t = l.t ∧ q.s = l.s then some l else n.came q.f q.t q.s) = some q
      by_cases hql : q = l
      · subst hql
        exact Or.inr (if_pos ⟨rfl, rfl, rfl⟩)
      · rcases h.all q (hm q hq) with h1 | h1
        · exact Or.inl ((List.mem_erase_of_ne hql).2 h1)
        · refine Or.inr ?_
          rw [if_neg (fun e => hql (h.one (hm q hq) hlm e.1 e.2.1 e.2.2))]
          exact h1
theorem Inv.step {n : NetP} {T : Int → Int → Int → ByteArray} {L : List Let} (h : Inv n T L) (kind a c : Int) (x : ByteArray) : ∃ T' L', Inv (stepP n kind a c x).1 T' L' ∧ L'.length ≤ L.length + 1 := by
  unfold stepP
  split
  · split
    · rename_i hh
      rw [Bool.and_eq_true] at hh
      obtain ⟨T', h1⟩ := h.send x hh.1 hh.2
      exact ⟨T', _, h1, by simp⟩
    · exact ⟨T, L, h, Nat.le_succ _⟩
  · split
    · rename_i hh
      split
      · exact ⟨T, L, h.dup (List.getElem_mem _), Nat.le_succ _⟩
      · obtain ⟨L', h1, h2⟩ := h.deliver a.toNat (by omega)
        refine ⟨T, L', h1, ?_⟩
        have h3 := h1.nd
        exact Nat.le_succ_of_le (List.Nodup.length_le_of_subset h3 h2)
    · exact ⟨T, L, h, Nat.le_succ _⟩
end

section
open Go.RowKit

/-- Are letters the same? -/
def eqLB (l q : Let) : Bool := l.f == q.f && (l.t == q.t && (l.s == q.s && l.x.toList == q.x.toList))
theorem eqLB_iff (l q : Let) : eqLB l q = true ↔ l = q := by
  unfold eqLB
  constructor
  · intro h
    simp only [Bool.and_eq_true, beq_iff_eq] at h
    refine Let.ext' h.1 h.2.1 h.2.2.1 ?_
    have h4 : l.x.toList = q.x.toList := h.2.2.2
    rw [ByteArray.toList_eq, ByteArray.toList_eq] at h4
    exact ByteArray.ext (Array.toList_inj.1 h4)
  · rintro rfl
    simp
theorem part_i (xs : Array Value) (i : Nat) (v : Value) (w : World) (h : xs[i]? = some v) : (part 3 xs i).run Tryd.prog w = .ok v w := by
  simp [part, h]
theorem part_s (xs : Array Value) (i : Nat) (v : Value) (w : World) (h : xs[i]? = some v) : (part 9 xs i).run Tryd.prog w = .ok v w := by
  simp [part, h]
theorem fields_let (l q : Let) (n1 n2 n3 n4 : String) (h1 : n1 ≠ "_") (h2 : n2 ≠ "_") (h3 : n3 ≠ "_") (h4 : n4 ≠ "_") (t1 t2 t3 t4 p1 p2 p3 p4 : String) (b1 b2 b3 b4 : Nat) (w : World) :
    (Op.eqFields 9999 #[.int .i64 l.f, .int .i64 l.t, .int .i64 l.s, .string l.x] #[.int .i64 q.f, .int .i64 q.t, .int .i64 q.s, .string q.x] [⟨n1, 3, 0, false, t1, p1, b1⟩, ⟨n2, 3, 1, false, t2, p2, b2⟩, ⟨n3, 3, 2, false, t3, p3, b3⟩, ⟨n4, 9, 3, false, t4, p4, b4⟩]).run Tryd.prog w = .ok (eqLB l q) w := by
  have e1 := run_equalIn_int (P := Tryd.prog) w 9998 3 .i64 .i64 l.f q.f Tryd.underlying3
  have e2 := run_equalIn_int (P := Tryd.prog) w 9998 3 .i64 .i64 l.t q.t Tryd.underlying3
  have e3 := run_equalIn_int (P := Tryd.prog) w 9998 3 .i64 .i64 l.s q.s Tryd.underlying3
  have e4 := run_equalIn_string (P := Tryd.prog) w 9998 9 l.x q.x Tryd.underlying9
  have a1 := part_i #[.int .i64 l.f, .int .i64 l.t, .int .i64 l.s, .string l.x] 0 (.int .i64 l.f) w rfl
  have a2 := part_i #[.int .i64 l.f, .int .i64 l.t, .int .i64 l.s, .string l.x] 1 (.int .i64 l.t) w rfl
  have a3 := part_i #[.int .i64 l.f, .int .i64 l.t, .int .i64 l.s, .string l.x] 2 (.int .i64 l.s) w rfl
  have a4 := part_s #[.int .i64 l.f, .int .i64 l.t, .int .i64 l.s, .string l.x] 3 (.string l.x) w rfl
  have c1 := part_i #[.int .i64 q.f, .int .i64 q.t, .int .i64 q.s, .string q.x] 0 (.int .i64 q.f) w rfl
  have c2 := part_i #[.int .i64 q.f, .int .i64 q.t, .int .i64 q.s, .string q.x] 1 (.int .i64 q.t) w rfl
  have c3 := part_i #[.int .i64 q.f, .int .i64 q.t, .int .i64 q.s, .string q.x] 2 (.int .i64 q.s) w rfl
  have c4 := part_s #[.int .i64 q.f, .int .i64 q.t, .int .i64 q.s, .string q.x] 3 (.string q.x) w rfl
  simp only [Nat.reduceAdd] at e1 e2 e3 e4
  unfold eqLB
  unfold Op.eqFields
  rw [if_pos h1]
  simp only [Sem.run_bind, a1, c1, Result.andThen_ok, e1]
  cases k1 : l.f == q.f
  · simp
  simp only [Bool.not_true, Bool.false_eq_true, if_false, Bool.true_and]
  unfold Op.eqFields
  rw [if_pos h2]
  simp only [Sem.run_bind, a2, c2, Result.andThen_ok, e2]
  cases k2 : l.t == q.t
  · simp
  simp only [Bool.not_true, Bool.false_eq_true, if_false, Bool.true_and]
  unfold Op.eqFields
  rw [if_pos h3]
  simp only [Sem.run_bind, a3, c3, Result.andThen_ok, e3]
  cases k3 : l.s == q.s
  · simp
  simp only [Bool.not_true, Bool.false_eq_true, if_false, Bool.true_and]
  unfold Op.eqFields
  rw [if_pos h4]
  simp only [Sem.run_bind, a4, c4, Result.andThen_ok, e4]
  cases k4 : l.x.toList == q.x.toList
  · simp
  simp [Op.eqFields]
theorem eql_let (l q : Let) (w : World) : (binOp .eql 83 (letV l) (letV q)).run Tryd.prog w = .ok (.bool (eqLB l q)) w := by
  unfold letV
  rw [run_eql_struct, run_equalIn_struct _ 9999 _ _ _ (by kernel_rfl) (by kernel_rfl)]
  simp only [Program.fieldsOf, Tryd.underlying83]
  rw [fields_let l q "From" "To" "Seq" "Text" (by decide) (by decide) (by decide) (by decide), Result.andThen_ok]
theorem neq_let (l q : Let) (w : World) : (binOp .neq 83 (letV l) (letV q)).run Tryd.prog w = .ok (.bool (!eqLB l q)) w := by
  unfold letV
  rw [run_neq_struct, run_equalIn_struct _ 9999 _ _ _ (by kernel_rfl) (by kernel_rfl)]
  simp only [Program.fieldsOf, Tryd.underlying83]
  rw [fields_let l q "From" "To" "Seq" "Text" (by decide) (by decide) (by decide) (by decide), Result.andThen_ok]
theorem guard_let (op : BinOp) (x y : Operand) (xs ys : Array Value) (w : World) : (eqGuard op 83 x y (.agg xs) (.agg ys)).run Tryd.prog w = .ok () w := run_eqGuard_agg w op _ x y xs ys (by kernel_rfl)
end

section
/-- How often a letter came, of those of one way. -/
theorem inRow_count {n : NetP} {T : Int → Int → Int → ByteArray} {L : List Let} (h : Inv n T L) {x : Let} (hx : n.came x.f x.t x.s = some x) {s0 : Nat} (hs : x.s = s0) (a : Int) : ∀ j : Nat,
    (inRow n x.t a j).countP (fun l => eqLB l x) = if a = x.f ∧ s0 < j then 1 else 0
  | 0 => by simp [inRow]
  | j + 1 => by
    rw [inRow_succ, List.countP_append, inRow_count h hx hs a j]
    cases hc : n.came a x.t j with
    | none =>
      have hne : ¬ (a = x.f ∧ s0 = j) := fun ⟨e1, e2⟩ => by
        rw [e1, show (j : Int) = x.s by omega, hx] at hc
        cases hc
      simp only [Option.toList_none, List.countP_nil, Nat.add_zero]
      by_cases h1 : a = x.f ∧ s0 < j
      · rw [if_pos h1, if_pos ⟨h1.1, by omega⟩]
      · rw [if_neg h1, if_neg (fun e => h1 ⟨e.1, by have : ¬ s0 = j := fun e2 => hne ⟨e.1, e2⟩; omega⟩)]
    | some l =>
      have hl := (h.came _ _ _ _ hc).1
      have hz : eqLB l x = decide (a = x.f ∧ s0 = j) := by
        by_cases e : a = x.f ∧ s0 = j
        · have : l = x := by
            rw [e.1, show (j : Int) = x.s by omega, hx] at hc
            injection hc with hc
            exact hc.symm
          rw [decide_eq_true e, (eqLB_iff l x).2 this]
        · have hne : ¬ l = x := fun e2 => e (by
            rw [e2] at hl
            have h1 : x.f = a := by rw [hl]
            have h2 : x.s = j := by rw [hl]
            exact ⟨h1.symm, by omega⟩)
          rw [decide_eq_false e]
          cases hb : eqLB l x with
          | false => rfl
          | true => exact absurd ((eqLB_iff l x).1 hb) hne
      simp only [Option.toList_some, List.countP_cons, List.countP_nil, hz, Nat.zero_add]
      by_cases e : a = x.f ∧ s0 = j
      · rw [if_neg (fun h1 => by omega), if_pos (decide_eq_true e), if_pos ⟨e.1, by omega⟩]
      · rw [if_neg (show ¬ decide (a = x.f ∧ s0 = j) = true by simpa using e)]
        by_cases h1 : a = x.f ∧ s0 < j
        · rw [if_pos h1, if_pos ⟨h1.1, by omega⟩]
        · rw [if_neg h1, if_neg (fun e3 => h1 ⟨e3.1, by have : ¬ s0 = j := fun e2 => e ⟨e3.1, e2⟩; omega⟩)]
/-- Each letter that came is in its inbox once. -/
theorem inbox_count {n : NetP} {T : Int → Int → Int → ByteArray} {L : List Let} (h : Inv n T L) {x : Let} (hx : n.came x.f x.t x.s = some x) : (inboxL n x.t n.k).countP (fun l => eqLB l x) = 1 := by
  obtain ⟨_, h1, h2, s0, hs, hlt⟩ := h.came _ _ _ _ hx
  have key : ∀ i : Nat, (inboxL n x.t i).countP (fun l => eqLB l x) = if x.f < (i : Int) then 1 else 0 := by
    intro i
    have h0 : 0 ≤ x.f := by
      unfold hasB at h1
      rw [Bool.and_eq_true, decide_eq_true_eq] at h1
      exact h1.1
    induction i with
    | zero =>
      rw [if_neg (by omega)]
      rfl
    | succ i ih =>
      rw [inboxL_succ, List.countP_append, ih, inRow_count h hx hs]
      by_cases e : (i : Int) = x.f
      · rw [if_neg (by omega), if_pos ⟨e, by rw [e]; exact hlt⟩, if_pos (by omega)]
      · rw [if_neg (show ¬ ((i : Int) = x.f ∧ s0 < n.sent i x.t) from fun e2 => e e2.1)]
        by_cases e3 : x.f < (i : Int)
        · rw [if_pos e3, if_pos (by omega)]
        · rw [if_neg e3, if_neg (by omega)]
  rw [key, if_pos]
  unfold hasB at h1
  rw [Bool.and_eq_true, decide_eq_true_eq, decide_eq_true_eq] at h1
  exact h1.2
/-- An inbox hangs on what was sent and what came. -/
theorem inbox_of (n n' : NetP) (c : Int) (h1 : n'.sent = n.sent) (h2 : n'.came = n.came) (i : Nat) : inboxL n' c i = inboxL n c i := by
  unfold inboxL inRow
  rw [h1, h2]
theorem stepP_k (n : NetP) (kind a c : Int) (x : ByteArray) : (stepP n kind a c x).1.k = n.k := by
  unfold stepP
  split
  · split <;> rfl
  · split
    · split
      · rfl
      · unfold cameP
        split <;> rfl
    · rfl
/-- What a call makes of what is missing. -/
theorem step_miss (n : NetP) (kind a c : Int) (x : ByteArray) :
    ((stepP n kind a c x).2 ≠ 0 → (stepP n kind a c x).1.miss = n.miss) ∧ ((stepP n kind a c x).2 = 0 →
      (kind = 0 → (stepP n kind a c x).1.miss = n.miss + 1) ∧ (kind = 1 → (stepP n kind a c x).1.miss = n.miss) ∧ (kind ≠ 0 → kind ≠ 1 → (stepP n kind a c x).1.miss = n.miss ∨ (stepP n kind a c x).1.miss = n.miss - 1)) := by
  unfold stepP
  split
  · rename_i k0
    split
    · exact ⟨fun h => absurd rfl h, fun _ => ⟨fun _ => rfl, fun h => by omega, fun h => absurd k0 h⟩⟩
    · exact ⟨fun _ => rfl, fun h => by cases h⟩
  · rename_i k0
    split
    · split
      · rename_i k1
        exact ⟨fun h => absurd rfl h, fun _ => ⟨fun h => absurd h k0, fun _ => rfl, fun _ h => absurd k1 h⟩⟩
      · rename_i k1
        refine ⟨fun h => absurd rfl h, fun _ => ⟨fun h => absurd h k0, fun h => absurd h k1, fun _ _ => ?_⟩⟩
        unfold cameP
        split
        · exact Or.inl rfl
        · exact Or.inr rfl
    · exact ⟨fun _ => rfl, fun h => by cases h⟩
/-- A letter doubled, delivered, and its double delivered. -/
theorem late_pure {n : NetP} {T : Int → Int → Int → ByteArray} {L : List Let} (h : Inv n T L) (i : Nat) (hi : i < n.fly.length) {x : Let} (hx : n.fly[i] = x) :
    ∃ (n2 n3 n4 : NetP) (T3 : Int → Int → Int → ByteArray) (L3 : List Let), stepP n 1 i 0 ⟨#[]⟩ = (n2, 0) ∧ stepP n2 2 i 0 ⟨#[]⟩ = (n3, 0) ∧ n3.fly.length = n.fly.length ∧ stepP n3 2 ((n.fly.length : Int) - 1) 0 ⟨#[]⟩ = (n4, 0) ∧
      Inv n3 T3 L3 ∧ n3.came x.f x.t x.s = some x ∧ n4.sent = n3.sent ∧ n4.came = n3.came ∧ n4.miss = n3.miss ∧ n3.k = n.k ∧ n4.k = n.k ∧ hasB n.k x.t = true := by
  have hxm : x ∈ n.fly := by rw [← hx]; exact List.getElem_mem _
  have h2 := h.dup hxm
  have e2 : stepP n 1 i 0 ⟨#[]⟩ = (dupP n x, 0) := by
    unfold stepP
    rw [if_neg (by decide), dif_pos ⟨by omega, by omega⟩, if_pos rfl]
    simp only [Int.toNat_natCast, hx]
  have hi2 : i < (dupP n x).fly.length := by
    show i < (n.fly ++ [x]).length
    rw [List.length_append]
    omega
  have hx2 : (dupP n x).fly[i] = x := by
    have e := List.getElem_append_left (bs := [x]) hi (h' := by rw [List.length_append]; omega)
    exact e.trans hx
  obtain ⟨L3, h3, _⟩ := h2.deliver i hi2
  rw [hx2] at h3
  have e3 : stepP (dupP n x) 2 i 0 ⟨#[]⟩ = (cameP (dropP (dupP n x) i) x, 0) := by
    unfold stepP
    rw [if_neg (by decide), dif_pos ⟨by omega, by omega⟩, if_neg (by decide)]
    simp only [Int.toNat_natCast, hx2]
  have hfl : (cameP (dropP (dupP n x) i) x).fly = (n.fly ++ [x]).take i ++ (n.fly ++ [x]).drop (i + 1) := by
    unfold cameP
    split <;> rfl
  have hlen : (cameP (dropP (dupP n x) i) x).fly.length = n.fly.length := by
    rw [hfl, List.length_append, List.length_take, List.length_drop, List.length_append]
    simp
    omega
  have hcame : (cameP (dropP (dupP n x) i) x).came x.f x.t x.s = some x := by
    unfold cameP
    split
    · rename_i hs
      obtain ⟨y, hy⟩ := Option.isSome_iff_exists.1 hs
      have hy' : n.came x.f x.t x.s = some y := hy
      have h5 := (h.came _ _ _ _ hy').1
      have h6 := (h.fly x hxm).2
      show n.came x.f x.t x.s = some x
      rw [hy', h5, ← h6]
    · exact if_pos ⟨rfl, rfl, rfl⟩
  have hlast : (cameP (dropP (dupP n x) i) x).fly[n.fly.length - 1]'(by rw [hlen]; omega) = x := by
    have e : (cameP (dropP (dupP n x) i) x).fly = (n.fly.take i ++ n.fly.drop (i + 1)) ++ [x] := by
      rw [hfl, List.take_append_of_le_length (by omega), List.drop_append_of_le_length (by omega), List.append_assoc]
    have hl2 : (n.fly.take i ++ n.fly.drop (i + 1)).length = n.fly.length - 1 := by
      rw [List.length_append, List.length_take, List.length_drop]
      omega
    simp only [e]
    rw [List.getElem_append_right (by omega)]
    simp [hl2]
  obtain ⟨n3, hn3⟩ : ∃ m, cameP (dropP (dupP n x) i) x = m := ⟨_, rfl⟩
  have hk3 : n3.k = n.k := by
    rw [← hn3]
    unfold cameP
    split <;> rfl
  rw [hn3] at h3 e3 hlen hcame
  simp only [hn3] at hlast
  have e4 : stepP n3 2 ((n.fly.length : Int) - 1) 0 ⟨#[]⟩ = (dropP n3 (n.fly.length - 1), 0) := by
    unfold stepP
    rw [if_neg (by decide), dif_pos ⟨by omega, by omega⟩, if_neg (by decide)]
    have e5 : ((n.fly.length : Int) - 1).toNat = n.fly.length - 1 := by omega
    simp only [e5, hlast]
    rw [show cameP (dropP n3 (n.fly.length - 1)) x = dropP n3 (n.fly.length - 1) from if_pos (by show (n3.came x.f x.t x.s).isSome = true; rw [hcame]; rfl)]
  exact ⟨_, n3, _, T, L3, e2, e3, hlen, e4, h3, hcame, rfl, rfl, rfl, hk3, hk3, (h.fly x hxm).1.2.1⟩
end
end Go.Proofs.YtlopoddllfkkfaaDoor
