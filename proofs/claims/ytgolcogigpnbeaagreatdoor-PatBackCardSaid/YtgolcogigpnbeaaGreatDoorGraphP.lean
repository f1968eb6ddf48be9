/- Graphs: pure. -/
namespace Go.Proofs.YtgolcogigpnbeaaGreatDoor

/-- An edge with its lesser vertex first. -/
def ris (e : Int × Int) : Int × Int := (min e.1 e.2, max e.1 e.2)
/-- Ahead of another one? -/
def ltE (a b : Int × Int) : Prop := a.1 < b.1 ∨ (a.1 = b.1 ∧ a.2 < b.2)
instance (a b : Int × Int) : Decidable (ltE a b) := by unfold ltE; infer_instance
theorem ltE_trans {a b c : Int × Int} (h : ltE a b) (k : ltE b c) : ltE a c := by unfold ltE at *; omega
theorem ltE_irrefl (a : Int × Int) : ¬ ltE a a := by unfold ltE; omega
theorem ltE_total {a b : Int × Int} (h : ¬ ltE a b) (k : ¬ ltE b a) : a = b := by
  unfold ltE at *
  exact Prod.ext (by omega) (by omega)
def RisingE (S : List (Int × Int)) : Prop := S.Pairwise ltE
theorem RisingE.nodup {S : List (Int × Int)} (h : RisingE S) : S.Nodup := List.Pairwise.imp (fun h e => by subst e; exact ltE_irrefl _ h) h
theorem risingE_eq {A B : List (Int × Int)} (ha : RisingE A) (hb : RisingE B) (h : A.Perm B) : A = B :=
  List.Perm.eq_of_pairwise (le := ltE) (fun _ _ _ _ h1 h2 => absurd (ltE_trans h1 h2) (ltE_irrefl _)) ha hb h
/-- How many are ahead of one, from the left. -/
def lowerE : List (Int × Int) → Int × Int → Nat
  | [], _ => 0
  | a :: t, e => if ltE a e then lowerE t e + 1 else 0
theorem lowerE_le : ∀ (S : List (Int × Int)) (e : Int × Int), lowerE S e ≤ S.length
  | [], _ => Nat.le_refl _
  | a :: t, e => by
    rw [lowerE]
    split
    · have := lowerE_le t e; simp; omega
    · simp
def insE (S : List (Int × Int)) (e : Int × Int) : List (Int × Int) := S.take (lowerE S e) ++ [e] ++ S.drop (lowerE S e)
theorem insE_perm (S : List (Int × Int)) (e : Int × Int) : (insE S e).Perm (e :: S) := by
  unfold insE
  have h : (S.take (lowerE S e) ++ [e] ++ S.drop (lowerE S e)).Perm ([e] ++ (S.take (lowerE S e) ++ S.drop (lowerE S e))) := by
    rw [← List.append_assoc]
    exact List.Perm.append_right _ List.perm_append_comm
  rw [List.take_append_drop] at h
  exact h
theorem insE_cons (a : Int × Int) (t : List (Int × Int)) (e : Int × Int) : insE (a :: t) e = if ltE a e then a :: insE t e else e :: a :: t := by
  unfold insE
  rw [lowerE]
  split <;> simp
theorem insE_rising : ∀ {S : List (Int × Int)} {e : Int × Int}, RisingE S → e ∉ S → RisingE (insE S e)
  | [], e, _, _ => by simp [insE, lowerE, RisingE]
  | a :: t, e, h, hn => by
    rw [insE_cons]
    have h' := List.pairwise_cons.1 h
    have hne : e ≠ a := fun x => hn (by simp [x])
    split
    · rename_i hlt
      refine List.pairwise_cons.2 ⟨fun x hx => ?_, insE_rising h'.2 (fun x => hn (by simp [x]))⟩
      rcases List.mem_cons.1 ((insE_perm t e).mem_iff.1 hx) with rfl | hx
      · exact hlt
      · exact h'.1 x hx
    · rename_i hlt
      have hea : ltE e a := by
        by_cases h2 : ltE e a
        · exact h2
        · exact absurd (ltE_total h2 hlt) hne
      refine List.pairwise_cons.2 ⟨fun x hx => ?_, h⟩
      rcases List.mem_cons.1 hx with rfl | hx
      · exact hea
      · exact ltE_trans hea (h'.1 x hx)
/-- All edges, the lesser vertex first, in order. -/
def sortE (E : List (Int × Int)) : List (Int × Int) := E.foldl (fun S e => insE S (ris e)) []
theorem sortE_snoc (E : List (Int × Int)) (e : Int × Int) : sortE (E ++ [e]) = insE (sortE E) (ris e) := by simp [sortE]
theorem sortE_perm : ∀ (n : Nat) (E : List (Int × Int)), E.length = n → (sortE E).Perm (E.map ris)
  | 0, E, h => by
    have : E = [] := List.eq_nil_of_length_eq_zero h
    subst this
    exact List.Perm.refl _
  | n + 1, E, h => by
    have hne : E ≠ [] := fun e => by simp [e] at h
    have hd := List.dropLast_concat_getLast hne
    rw [← hd, sortE_snoc, List.map_append]
    have ih := sortE_perm n E.dropLast (by simp [h])
    exact (insE_perm _ _).trans ((ih.cons _).trans (by simpa using (List.perm_append_comm (l₁ := [ris (E.getLast hne)]) (l₂ := E.dropLast.map ris))))
theorem sortE_rising : ∀ (n : Nat) (E : List (Int × Int)), E.length = n → (E.map ris).Nodup → RisingE (sortE E)
  | 0, E, h, _ => by
    have : E = [] := List.eq_nil_of_length_eq_zero h
    subst this
    exact List.Pairwise.nil
  | n + 1, E, h, hn => by
    have hne : E ≠ [] := fun e => by simp [e] at h
    have hd := List.dropLast_concat_getLast hne
    rw [← hd, List.map_append, List.nodup_append] at hn
    rw [← hd, sortE_snoc]
    refine insE_rising (sortE_rising n E.dropLast (by simp [h]) hn.1) (fun hx => ?_)
    have := (sortE_perm n E.dropLast (by simp [h])).mem_iff.1 hx
    exact hn.2.2 _ this _ (by simp) rfl
/-- Whatever is in order and has just these edges. -/
theorem sorted_eq {E D : List (Int × Int)} (hn : (E.map ris).Nodup) (hp : D.Perm (E.map ris)) (hs : D.Pairwise (fun a b => ¬ ltE b a)) : D = sortE E := by
  have hr : RisingE D := by
    have hd : D.Nodup := hp.nodup_iff.2 hn
    refine List.Pairwise.imp₂ (R := fun a b => ¬ ltE b a) (S := fun a b => a ≠ b) (fun a b h1 h2 => ?_) hs hd
    by_cases h : ltE a b
    · exact h
    · exact absurd (ltE_total h h1) h2
  exact risingE_eq hr (sortE_rising _ E rfl hn) (hp.trans (sortE_perm _ E rfl).symm)

/-- Those beside a vertex, edge by edge. -/
def nearL (S : List (Int × Int)) (v : Int) : List Int := S.filterMap fun e => if e.1 = v then some e.2 else if e.2 = v then some e.1 else none
/-- The numbers of the edges at a vertex. -/
def atL (S : List (Int × Int)) (v : Int) : List Int := ((List.range S.length).filter fun i => decide ((S.getD i (0, 0)).1 = v ∨ (S.getD i (0, 0)).2 = v)).map fun (i : Nat) => (i : Int)
theorem nearL_snoc (S : List (Int × Int)) (e : Int × Int) (v : Int) : nearL (S ++ [e]) v = nearL S v ++ (if e.1 = v then [e.2] else if e.2 = v then [e.1] else []) := by
  unfold nearL
  rw [List.filterMap_append]
  congr 1
  by_cases h1 : e.1 = v
  · simp [h1]
  · by_cases h2 : e.2 = v
    · simp [h1, h2]
    · simp [h1, h2]
theorem atL_snoc (S : List (Int × Int)) (e : Int × Int) (v : Int) : atL (S ++ [e]) v = atL S v ++ (if e.1 = v ∨ e.2 = v then [(S.length : Int)] else []) := by
  unfold atL
  rw [List.length_append, List.length_singleton, List.range_succ, List.filter_append, List.map_append]
  congr 1
  · congr 1
    refine List.filter_congr fun i hi => ?_
    have hi := List.mem_range.1 hi
    have e1 : (S ++ [e]).getD i (0, 0) = S.getD i (0, 0) := by simp [List.getD, List.getElem?_append_left hi]
    rw [e1]
  · by_cases h : e.1 = v ∨ e.2 = v
    · simp [h]
    · simp [h]
theorem near_at_len (S : List (Int × Int)) (v : Int) : ∀ (n : Nat), S.length = n → (nearL S v).length = (atL S v).length := by
  intro n
  induction n generalizing S with
  | zero =>
    intro h
    have : S = [] := List.eq_nil_of_length_eq_zero h
    subst this
    rfl
  | succ n ih =>
    intro h
    have hne : S ≠ [] := fun e => by simp [e] at h
    have hd := List.dropLast_concat_getLast hne
    rw [← hd, nearL_snoc, atL_snoc, List.length_append, List.length_append, ih S.dropLast (by simp [h])]
    congr 1
    by_cases h1 : (S.getLast hne).1 = v
    · simp [h1]
    · by_cases h2 : (S.getLast hne).2 = v <;> simp [h1, h2]
end Go.Proofs.YtgolcogigpnbeaaGreatDoor
