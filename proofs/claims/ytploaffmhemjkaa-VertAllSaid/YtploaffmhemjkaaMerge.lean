/- sets.merge and those that call it: contracts. -/
import Derived.Test.YtploaffmhemjkaaSets2
namespace Go.Proofs.Ytploaffmhemjkaa
open Go.RowKit

def opt (b : Bool) (x : Int) : List Int := if b then [x] else []
/-- Two sets gone through at once. -/
def mergeL (f t s : Bool) : List Int → List Int → List Int
  | [], B => if s then B else []
  | a :: A, [] => if f then a :: A else []
  | a :: A, b :: B => if a < b then opt f a ++ mergeL f t s A (b :: B) else if b < a then opt s b ++ mergeL f t s (a :: A) B else opt t a ++ mergeL f t s A B
  termination_by A B => A.length + B.length
theorem mergeL_lt (f t s : Bool) {a b : Int} (A B : List Int) (h : a < b) : mergeL f t s (a :: A) (b :: B) = opt f a ++ mergeL f t s A (b :: B) := by rw [mergeL, if_pos h]
theorem mergeL_gt (f t s : Bool) {a b : Int} (A B : List Int) (h : ¬ a < b) (h2 : b < a) : mergeL f t s (a :: A) (b :: B) = opt s b ++ mergeL f t s (a :: A) B := by rw [mergeL, if_neg h, if_pos h2]
theorem mergeL_eq (f t s : Bool) {a b : Int} (A B : List Int) (h : ¬ a < b) (h2 : ¬ b < a) : mergeL f t s (a :: A) (b :: B) = opt t a ++ mergeL f t s A B := by rw [mergeL, if_neg h, if_neg h2]
theorem opt_len (b : Bool) (x : Int) : (opt b x).length ≤ 1 := by unfold opt; split <;> simp
theorem mem_opt {b : Bool} {x y : Int} : y ∈ opt b x ↔ b = true ∧ y = x := by unfold opt; split <;> simp [*]
theorem mergeL_len (f t s : Bool) : ∀ (N : Nat) (A B : List Int), A.length + B.length ≤ N → (mergeL f t s A B).length ≤ A.length + B.length
  | _, [], B, _ => by rw [mergeL]; split <;> simp
  | _, a :: A, [], _ => by rw [mergeL]; split <;> simp
  | 0, a :: A, b :: B, h => by simp at h
  | N + 1, a :: A, b :: B, h => by
    simp at h
    by_cases h1 : a < b
    · rw [mergeL_lt _ _ _ _ _ h1]
      have := mergeL_len f t s N A (b :: B) (by simp; omega)
      have := opt_len f a
      simp at *; omega
    · by_cases h2 : b < a
      · rw [mergeL_gt _ _ _ _ _ h1 h2]
        have := mergeL_len f t s N (a :: A) B (by simp; omega)
        have := opt_len s b
        simp at *; omega
      · rw [mergeL_eq _ _ _ _ _ h1 h2]
        have := mergeL_len f t s N A B (by omega)
        have := opt_len t a
        simp at *; omega
theorem rising_opt {b : Bool} {x : Int} {L : List Int} (hL : Rising L) (h : ∀ y, y ∈ L → x < y) : Rising (opt b x ++ L) := by
  unfold opt
  split
  · exact List.pairwise_cons.2 ⟨h, hL⟩
  · exact hL
/-- What is in it. -/
theorem mergeL_spec (f t s : Bool) : ∀ (N : Nat) (A B : List Int), A.length + B.length ≤ N → Rising A → Rising B →
    Rising (mergeL f t s A B) ∧ ∀ y, y ∈ mergeL f t s A B ↔ (f = true ∧ y ∈ A ∧ y ∉ B) ∨ (t = true ∧ y ∈ A ∧ y ∈ B) ∨ (s = true ∧ y ∉ A ∧ y ∈ B)
  | _, [], B, _, _, hB => by
    rw [mergeL]
    cases s
    · exact ⟨List.Pairwise.nil, fun y => by simp⟩
    · exact ⟨hB, fun y => by simp⟩
  | _, a :: A, [], _, hA, _ => by
    rw [mergeL]
    cases f
    · exact ⟨List.Pairwise.nil, fun y => by simp⟩
    · exact ⟨hA, fun y => by simp⟩
  | 0, a :: A, b :: B, h, _, _ => by simp at h
  | N + 1, a :: A, b :: B, h, hA, hB => by
    simp at h
    obtain ⟨ha1, ha2⟩ := List.pairwise_cons.1 hA
    obtain ⟨hb1, hb2⟩ := List.pairwise_cons.1 hB
    by_cases h1 : a < b
    · obtain ⟨r1, m1⟩ := mergeL_spec f t s N A (b :: B) (by simp; omega) ha2 hB
      rw [mergeL_lt _ _ _ _ _ h1]
      have hnB : a ∉ b :: B := fun hm => by
        rcases List.mem_cons.1 hm with rfl | hm
        · omega
        · have := hb1 a hm; omega
      have hnA : a ∉ A := fun hm => by have := ha1 a hm; omega
      refine ⟨rising_opt r1 fun y hy => ?_, fun y => ?_⟩
      · rcases (m1 y).1 hy with ⟨_, h3, _⟩ | ⟨_, h3, _⟩ | ⟨_, _, h3⟩
        · exact ha1 y h3
        · exact ha1 y h3
        · rcases List.mem_cons.1 h3 with rfl | h3
          · exact h1
          · have := hb1 y h3; omega
      · rw [List.mem_append, mem_opt, m1 y, List.mem_cons (a := y) (b := a)]
        by_cases hy : y = a
        · subst hy
          simp [hnB, hnA]
        · simp [hy]
    · by_cases h2 : b < a
      · obtain ⟨r1, m1⟩ := mergeL_spec f t s N (a :: A) B (by simp; omega) hA hb2
        rw [mergeL_gt _ _ _ _ _ h1 h2]
        have hnA : b ∉ a :: A := fun hm => by
          rcases List.mem_cons.1 hm with rfl | hm
          · omega
          · have := ha1 b hm; omega
        have hnB : b ∉ B := fun hm => by have := hb1 b hm; omega
        refine ⟨rising_opt r1 fun y hy => ?_, fun y => ?_⟩
        · have key : y ∈ a :: A → b < y := fun h3 => by
            rcases List.mem_cons.1 h3 with rfl | h3
            · exact h2
            · have := ha1 y h3; omega
          rcases (m1 y).1 hy with ⟨_, h3, _⟩ | ⟨_, h3, _⟩ | ⟨_, _, h3⟩
          · exact key h3
          · exact key h3
          · exact hb1 y h3
        · rw [List.mem_append, mem_opt, m1 y, List.mem_cons (a := y) (b := b)]
          by_cases hy : y = b
          · subst hy
            simp [hnB, hnA]
          · simp [hy]
      · have he : a = b := by omega
        subst he
        obtain ⟨r1, m1⟩ := mergeL_spec f t s N A B (by omega) ha2 hb2
        rw [mergeL_eq _ _ _ _ _ h1 h2]
        have hnA : a ∉ A := fun hm => by have := ha1 a hm; omega
        have hnB : a ∉ B := fun hm => by have := hb1 a hm; omega
        refine ⟨rising_opt r1 fun y hy => ?_, fun y => ?_⟩
        · rcases (m1 y).1 hy with ⟨_, h3, _⟩ | ⟨_, h3, _⟩ | ⟨_, _, h3⟩
          · exact ha1 y h3
          · exact ha1 y h3
          · exact hb1 y h3
        · rw [List.mem_append, mem_opt, m1 y, List.mem_cons (a := y) (b := a), List.mem_cons (a := y) (b := a)]
          by_cases hy : y = a
          · subst hy
            simp [hnB, hnA]
          · simp [hy]
def unionL (A B : List Int) : List Int := mergeL true true true A B
def bothL (A B : List Int) : List Int := mergeL false true false A B
def butL (A B : List Int) : List Int := mergeL true false false A B
theorem unionL_spec {A B : List Int} (hA : Rising A) (hB : Rising B) : Rising (unionL A B) ∧ ∀ y, y ∈ unionL A B ↔ y ∈ A ∨ y ∈ B := by
  obtain ⟨h1, h2⟩ := mergeL_spec true true true _ A B (Nat.le_refl _) hA hB
  refine ⟨h1, fun y => (h2 y).trans ?_⟩
  by_cases ha : y ∈ A <;> by_cases hb : y ∈ B <;> simp [ha, hb]
theorem bothL_spec {A B : List Int} (hA : Rising A) (hB : Rising B) : Rising (bothL A B) ∧ ∀ y, y ∈ bothL A B ↔ y ∈ A ∧ y ∈ B := by
  obtain ⟨h1, h2⟩ := mergeL_spec false true false _ A B (Nat.le_refl _) hA hB
  exact ⟨h1, fun y => (h2 y).trans (by simp)⟩
theorem butL_spec {A B : List Int} (hA : Rising A) (hB : Rising B) : Rising (butL A B) ∧ ∀ y, y ∈ butL A B ↔ y ∈ A ∧ y ∉ B := by
  obtain ⟨h1, h2⟩ := mergeL_spec true false false _ A B (Nat.le_refl _) hA hB
  exact ⟨h1, fun y => (h2 y).trans (by simp)⟩

/-- The slice that is built lies in a cell of its own. -/
def Built (B0 Bs : Nat) (w w' : World) (M : List Int) : Prop :=
  ∃ v, Whole w' Bs 22 #[v] ∧ w'.ownsRow B0 3 1 v M.length (intCells M) ∧ Below B0 w w'

set_option maxRecDepth 100000 in
set_option maxHeartbeats 1000000 in
theorem keep_any (B0 Bs : Nat) (M : List Int) (x : Int) (wanted : Bool) (w w0 : World) (h : Built B0 Bs w0 w M) (hB : B0 ≤ Bs) (hM : M.length ≤ 100000000) (hb0 : B0 ≤ w.heap.size) :
    Calls Try.prog 68 #[.int .i64 x, .bool wanted, .pointer (some ⟨Bs, 0, none⟩)] w fun e w' => e = .returned (.tuple #[]) ∧ Built B0 Bs w0 w' (M ++ opt wanted x) ∧ w.heap.size ≤ w'.heap.size := by
  obtain ⟨i0, hi, hz0, hz1, hz2⟩ := info_parts Try.infoInt6
  obtain ⟨v, hw, hown, hbel⟩ := h
  cases wanted with
  | false =>
    have HB : Hid (Built B0 Bs w0 w (M ++ opt false x)) := Lib.hid (by
      have : M ++ opt false x = M := by simp [opt]
      rw [this]; exact ⟨v, hw, hown, hbel⟩)
    clear hw hown hbel
    go_enter Try.func68, Try.ntmps68
    go_wp2_with fail
    refine bodyPost_end (results_none rfl _ _ _) rfl ?_
    exact ⟨rfl, HB.out, Nat.le_refl _⟩
  | true =>
    have hne := own_ne hown hw (by decide)
    obtain ⟨n, hn⟩ : ∃ n, M.length = n := ⟨_, rfl⟩
    rw [hn] at hown hM
    obtain ⟨A, c, rfl⟩ := own_form hown
    have HOWN := Lib.hid hown; have HW := Lib.hid hw; have HBEL := Lib.hid hbel; have HN := Lib.hid hn; have HNE := Lib.hid hne
    have c1 : w.cell? ⟨Bs, 0, none⟩ = some (.slice A n c) := hw.cell 0
    have hbl := hw.lt
    clear hw hown hbel hn hne
    go_enter Try.func68, Try.ntmps68
    go_wp2_with (at_builtin; refine wpList_app1g _ rfl _ _ 22 rfl B0 3 i0 (.int .i64 0) 8 Try.underlying22 hi hz0 hz1 hz2 rfl _ n _ rfl HOWN.out _ rfl rfl (by omega) (by omega) hb0 ?_)
    intro A2 k2 w2 hown2 hgrow2
    have hw2 : Whole w2 Bs 22 #[.slice A n c] := HW.out.grown hgrow2.1 (fun h => HNE.out h.symm)
    have hb2 : Below B0 w0 w2 := HBEL.out.grown hgrow2.1 hb0 (fun k hk => (HOWN.out.lt k hk).1)
    have hs2 := hgrow2.1.size
    have hown3 : w2.ownsRow B0 3 1 (.slice A2 (n + 1) k2) (n + 1) (intCells (M ++ [x])) := by rw [intCells_app]; exact hown2
    have hne2 := own_ne hown3 hw2 (by decide)
    have c2 : w2.cell? ⟨Bs, 0, none⟩ = some (.slice A n c) := hw2.cell 0
    have f2 := hw2.free 0
    have hwp := hw2.put 0 (.slice A2 (n + 1) k2)
    have hownp := own_put (p := ⟨Bs, 0, none⟩) hown3 hne2 (.slice A2 (n + 1) k2)
    have hbp := hb2.setCell (p := ⟨Bs, 0, none⟩) hB (.slice A2 (n + 1) k2)
    have HF : Hid (Built B0 Bs w0 (w2.setCell ⟨Bs, 0, none⟩ (.slice A2 (n + 1) k2)) (M ++ opt true x)) := Lib.hid ⟨_, hwp, by
      have e1 : (M ++ opt true x).length = n + 1 := by simp [opt, HN.out]
      rw [e1]; exact hownp, hbp⟩
    have HS : Hid (w.heap.size ≤ (w2.setCell ⟨Bs, 0, none⟩ (.slice A2 (n + 1) k2)).heap.size) := Lib.hid (by simpa [World.setCell] using hs2)
    clear hown2 hgrow2 hw2 hb2 hs2 hown3 hne2 hwp hownp hbp
    go_wp2_with fail
    refine bodyPost_end (results_none rfl _ _ _) rfl ?_
    exact ⟨rfl, HF.out, HS.out⟩

/-- The rest of a list behind its first. -/
theorem seqC_tail {w : World} {b off k c : Nat} {x : Int} {T : List Int} (h : SeqV w (.slice (some ⟨b, off, none⟩) (k + 1) c) (x :: T)) (hk : T.length = k) (hle : k + 1 ≤ c) : SeqC w (.slice (some ⟨b, off + 1, none⟩) k (c - 1)) T := by
  subst hk
  rcases h with ⟨h0, _⟩ | ⟨_, b', off', c', e, hx⟩
  · simp at h0
  · injection e with e1 e2 e3
    injection e1 with e1
    injection e1 with e1 e4
    subst e1 e4
    refine ⟨?_, _, _, rfl, by omega⟩
    rcases Nat.eq_zero_or_pos T.length with h0 | h0
    · exact Or.inl ⟨h0, _, _, by rw [h0]⟩
    · refine Or.inr ⟨h0, b, off + 1, _, rfl, fun i hi => ?_⟩
      have := hx (i + 1) (by simpa using hi)
      rw [Nat.add_assoc, Nat.add_comm 1 i]
      exact this
theorem seqC_one (w : World) (A : Option Addr) (c : Nat) : SeqC w (.slice A 0 c) [] := ⟨seqV_nil _ _ _, _, _, rfl, Nat.zero_le _⟩

theorem Built.drewN {B0 Bs : Nat} {w w' : World} {M : List Int} (h : Built B0 Bs w w' M) (d : Nat) : Built B0 Bs w (w'.drewN d) M := by
  obtain ⟨v, h1, h2, h3⟩ := h
  exact ⟨v, h1, h2, below_drewN' h3 d⟩
theorem Built.below {B0 Bs : Nat} {w w' : World} {M : List Int} (h : Built B0 Bs w w' M) : Below B0 w w' := by
  obtain ⟨v, h1, h2, h3⟩ := h
  exact h3
/-- Where the two sets are gone through. -/
def MergeAt (f t s : Bool) (A B : List Int) (w : World) (g : Nat) (x y : Value) (wr : World) : Prop :=
  ∃ A' B' M, A'.length + B'.length = g ∧ SeqC w x A' ∧ SeqC w y B' ∧ mergeL f t s A B = M ++ mergeL f t s A' B' ∧ Built w.heap.size w.heap.size w wr M ∧ w.heap.size ≤ wr.heap.size ∧ A'.length ≤ 10000000 ∧ B'.length ≤ 10000000
def sel (b : Bool) (L : List Int) : List Int := match b with | true => L | false => []
theorem mergeL_end (f t s : Bool) {A B : List Int} (h : A = [] ∨ B = []) : mergeL f t s A B = sel f A ++ sel s B := by
  cases A with
  | nil => rw [mergeL]; cases f <;> cases s <;> rfl
  | cons a A =>
    rcases h with h | rfl
    · cases h
    · rw [mergeL]; cases f <;> cases s <;> simp [sel]
theorem seqC_head {w : World} {v : Value} {x : Int} {T : List Int} (h : SeqC w v (x :: T)) : ∃ b off c, v = .slice (some ⟨b, off, none⟩) (T.length + 1) c ∧ T.length + 1 ≤ c ∧ w.cell? ⟨b, off, none⟩ = some (.int .i64 x) := by
  obtain ⟨h1, A, c, rfl, hc⟩ := h
  rcases h1 with ⟨h0, _⟩ | ⟨_, b, off, c', e, hx⟩
  · simp at h0
  · injection e with e1 e2 e3
    subst e1
    refine ⟨b, off, c, rfl, by simpa using hc, ?_⟩
    exact hx 0 (by simp)

/-- Numbers of a slice behind the slice that is built. -/
theorem built_app {B0 Bs n : Nat} {M l : List Int} {w0 w w1 : World} {v v' : Value} (hbs : B0 ≤ Bs) (hb0 : B0 ≤ w.heap.size) (hw : Whole w Bs 22 #[v]) (hown : w.ownsRow B0 3 1 v n (intCells M)) (hb : Below B0 w0 w)
    (h : w1.ownsRow B0 3 1 v' (n + l.length) (intCells M ++ intCells l)) (hg : Grew w v w1 v') :
    Whole w1 Bs 22 #[v] ∧ Whole (w1.setCell ⟨Bs, 0, none⟩ v') Bs 22 #[v'] ∧ (w1.setCell ⟨Bs, 0, none⟩ v').ownsRow B0 3 1 v' (n + l.length) (intCells (M ++ l)) ∧ Below B0 w0 (w1.setCell ⟨Bs, 0, none⟩ v') ∧ w.heap.size ≤ (w1.setCell ⟨Bs, 0, none⟩ v').heap.size := by
  have hne := own_ne hown hw (by decide)
  have h1 : Whole w1 Bs 22 #[v] := hw.grown hg.1 (fun e => hne e.symm)
  have h2 : Below B0 w0 w1 := hb.grown hg.1 hb0 (fun k hk => (hown.lt k hk).1)
  have h3 : w1.ownsRow B0 3 1 v' (n + l.length) (intCells (M ++ l)) := by rw [intCells_app]; exact h
  have hne2 := own_ne h3 h1 (by decide)
  exact ⟨h1, h1.put 0 v', own_put h3 hne2 v', h2.setCell hbs v', by have := hg.1.size; simpa [World.setCell] using this⟩

set_option maxRecDepth 100000 in
set_option maxHeartbeats 8000000 in
theorem merge_own (f t s : Bool) (A B : List Int) (v u : Value) (w : World) (ha : SeqC w v A) (hb : SeqC w u B) (hl : A.length ≤ 10000000) (hm : B.length ≤ 10000000) :
    Calls Try.prog 56 #[v, u, .bool f, .bool t, .bool s] w fun e w' => ∃ v', e = .returned v' ∧ w'.ownsRow w.heap.size 3 1 v' (mergeL f t s A B).length (intCells (mergeL f t s A B)) ∧ Below w.heap.size w w' := by
  obtain ⟨i0, hi, hz0, hz1, hz2⟩ := info_parts Try.infoInt6
  have HB0 : Hid (Built w.heap.size w.heap.size w (w.alloc (.cells #[.slice none 0 0] 22)) []) := Lib.hid ⟨_, Whole.new _ _ _, World.ownsRow_nil _ _ _ _, (Below.refl _ _).alloc (Nat.le_refl _) _⟩
  have HLEN : Hid ((mergeL f t s A B).length ≤ 20000000) := Lib.hid (by have := mergeL_len f t s _ A B (Nat.le_refl _); omega)
  have HAT : Hid (MergeAt f t s A B w (A.length + B.length) v u (w.alloc (.cells #[.slice none 0 0] 22))) := Lib.hid ⟨A, B, [], rfl, ha, hb, rfl, HB0.out, by simp, hl, hm⟩
  obtain ⟨_, Aa, ca, rfl, hca⟩ := ha
  obtain ⟨_, Ab, cb, rfl, hcb⟩ := hb
  obtain ⟨n, hn⟩ : ∃ n, A.length = n := ⟨_, rfl⟩
  obtain ⟨m, hm'⟩ : ∃ m, B.length = m := ⟨_, rfl⟩
  rw [hn, hm'] at HAT
  rw [hn] at hl ⊢
  rw [hm'] at hm ⊢
  clear hn hm' hca hcb
  go_enter Try.func56, Try.ntmps56
  go_wp2_with fail
  go_loopg [0, 1] (n + m) (fun g x y wr => MergeAt f t s A B w g x y wr)
  case atStart => exact HAT.out
  case round =>
    obtain ⟨A', B', M, hg, hA, hB, heq, hbu, hsz, hlA, hlB⟩ := hrel
    have HEQ := Lib.hid heq; have HBU := Lib.hid hbu
    have hMl : M.length ≤ 20000000 := by have := HLEN.out; rw [heq, List.length_append] at this; omega
    have HG := Lib.hid hg
    clear heq hbu hg
    by_cases hgo : A' = [] ∨ B' = []
    · have hfin := mergeL_end f t s hgo
      have HA := Lib.hid hA; have HB := Lib.hid hB
      have hA' := hA.1; have hB' := hB.1
      obtain ⟨_, Ax, cx, rfl, _⟩ := id hA
      obtain ⟨_, Ay, cy, rfl, _⟩ := id hB
      have hcase : decide (0 < A'.length) = false ∨ (decide (0 < A'.length) = true ∧ decide (0 < B'.length) = false) := by
        cases A' with
        | nil => exact Or.inl rfl
        | cons a T =>
          rcases hgo with h | rfl
          · cases h
          · exact Or.inr ⟨rfl, rfl⟩
      obtain ⟨p, hp⟩ : ∃ p, A'.length = p := ⟨_, rfl⟩
      obtain ⟨q, hq⟩ : ∃ p, B'.length = p := ⟨_, rfl⟩
      have HFIN : Hid (mergeL f t s A B = M ++ (sel f A' ++ sel s B')) := Lib.hid (by rw [HEQ.out, hfin])
      rw [hp, hq] at hcase ⊢
      rw [hp] at hlA
      rw [hq] at hlB
      have hA2 : SeqV wr (.slice Ax p cx) A' := by rw [← hp]; exact hA'.below HBU.out.below (Nat.le_refl _)
      have HAr := Lib.hid hA2
      have hB2 : SeqV w (.slice Ay q cy) B' := by rw [← hq]; exact hB'
      have HBr := Lib.hid hB2
      have HP := Lib.hid hp; have HQ := Lib.hid hq
      clear hA hB hA' hB' hA2 hB2 hfin hgo hp hq
      obtain ⟨vM, hwM, hoM, hbM⟩ := HBU.out
      obtain ⟨AM, cM, rfl⟩ := own_form hoM
      obtain ⟨k, hk⟩ : ∃ k, M.length = k := ⟨_, rfl⟩
      rw [hk] at hwM hoM hMl
      have HWM := Lib.hid hwM; have HOM := Lib.hid hoM; have HBM := Lib.hid hbM; have HK := Lib.hid hk
      have c1 : wr.cell? ⟨w.heap.size, 0, none⟩ = some (.slice AM k cM) := hwM.cell 0
      have f1 := hwM.free 0
      clear hwM hoM hbM hk HBU
      have hsw : Hid (Below w.heap.size w wr) := Lib.hid HBM.out
      rcases hcase with t1 | ⟨t1, t2⟩
      all_goals
        cases f with
        | true =>
          go_wp2_with (at_builtin; refine wpList_appInts _ rfl _ _ 22 rfl w.heap.size i0 Try.underlying22 hi hz0 hz1 hz2 _ k _ rfl HOM.out _ A' rfl HAr.out (by rw [HP.out]; omega) hsz ?_)
          intro A2 k2 w2 hown2 hgrow2
          obtain ⟨hw2, hwp2, hop2, hbp2, hsp2⟩ := built_app (Nat.le_refl _) hsz HWM.out HOM.out HBM.out hown2 hgrow2
          have ca2 : w2.cell? ⟨w.heap.size, 0, none⟩ = some _ := hw2.cell 0
          have fa2 := hw2.free 0
          rw [HP.out] at hwp2 hop2 hbp2 hsp2
          rw [HP.out]
          have HWP2 := Lib.hid hwp2; have HOP2 := Lib.hid hop2; have HBP2 := Lib.hid hbp2
          clear hown2 hgrow2 hw2 hwp2 hop2 hbp2
          have HB2' : Hid (SeqV (w2.setCell ⟨w.heap.size, 0, none⟩ (.slice A2 (k + p) k2)) (.slice Ay q cy) B') := Lib.hid (HBr.out.below HBP2.out (Nat.le_refl _))
          have hsz2 : w.heap.size ≤ (w2.setCell ⟨w.heap.size, 0, none⟩ (.slice A2 (k + p) k2)).heap.size := HBP2.out.size
          cases s with
          | true =>
            go_wp2_with (at_builtin; refine wpList_appInts _ rfl _ _ 22 rfl w.heap.size i0 Try.underlying22 hi hz0 hz1 hz2 _ (k + p) _ rfl HOP2.out _ B' rfl HB2'.out (by rw [HQ.out]; omega) hsz2 ?_)
            intro A3 k3 w3 hown3 hgrow3
            obtain ⟨hw3, hwp3, hop3, hbp3, hsp3⟩ := built_app (Nat.le_refl _) hsz2 HWP2.out HOP2.out HBP2.out hown3 hgrow3
            have ca3 : w3.cell? ⟨w.heap.size, 0, none⟩ = some _ := hw3.cell 0
            have fa3 := hw3.free 0
            rw [HQ.out] at hwp3 hop3 hbp3 hsp3
            rw [HQ.out]
            have HWP3 := Lib.hid hwp3; have HOP3 := Lib.hid hop3; have HBP3 := Lib.hid hbp3
            clear hown3 hgrow3 hw3 hwp3 hop3 hbp3
            go_wp2_with fail
            go_ret
            exact ⟨_, rfl, by rw [HFIN.out]; have h := HOP3.out; simpa [sel, HP.out, HQ.out, HK.out, Nat.add_assoc] using h, HBP3.out⟩
          | false =>
            go_wp2_with fail
            go_ret
            exact ⟨_, rfl, by rw [HFIN.out]; have h := HOP2.out; simpa [sel, HP.out, HQ.out, HK.out, Nat.add_assoc] using h, HBP2.out⟩
        | false =>
          have HB2' : Hid (SeqV wr (.slice Ay q cy) B') := Lib.hid (HBr.out.below HBM.out (Nat.le_refl _))
          cases s with
          | true =>
            go_wp2_with (at_builtin; refine wpList_appInts _ rfl _ _ 22 rfl w.heap.size i0 Try.underlying22 hi hz0 hz1 hz2 _ k _ rfl HOM.out _ B' rfl HB2'.out (by rw [HQ.out]; omega) hsz ?_)
            intro A3 k3 w3 hown3 hgrow3
            obtain ⟨hw3, hwp3, hop3, hbp3, hsp3⟩ := built_app (Nat.le_refl _) hsz HWM.out HOM.out HBM.out hown3 hgrow3
            have ca3 : w3.cell? ⟨w.heap.size, 0, none⟩ = some _ := hw3.cell 0
            have fa3 := hw3.free 0
            rw [HQ.out] at hwp3 hop3 hbp3 hsp3
            rw [HQ.out]
            have HWP3 := Lib.hid hwp3; have HOP3 := Lib.hid hop3; have HBP3 := Lib.hid hbp3
            clear hown3 hgrow3 hw3 hwp3 hop3 hbp3
            go_wp2_with fail
            go_ret
            exact ⟨_, rfl, by rw [HFIN.out]; have h := HOP3.out; simpa [sel, HP.out, HQ.out, HK.out, Nat.add_assoc] using h, HBP3.out⟩
          | false =>
            go_wp2_with fail
            go_ret
            exact ⟨_, rfl, by rw [HFIN.out]; have h := HOM.out; simpa [sel, HP.out, HQ.out, HK.out, Nat.add_assoc] using h, HBM.out⟩
    · have hA0 : A' ≠ [] := fun h => hgo (Or.inl h)
      have hB0 : B' ≠ [] := fun h => hgo (Or.inr h)
      obtain ⟨a, TA, rfl⟩ := List.exists_cons_of_ne_nil hA0
      obtain ⟨b, TB, rfl⟩ := List.exists_cons_of_ne_nil hB0
      have HA := Lib.hid hA; have HB := Lib.hid hB
      obtain ⟨pa, oa, xa, rfl, hxa, hca⟩ := seqC_head hA
      obtain ⟨pb, ob, xb, rfl, hxb, hcb⟩ := seqC_head hB
      have hbel := HBU.out.below
      have c1 : wr.cell? ⟨pa, oa, none⟩ = some (.int .i64 a) := (hbel.cell (p := ⟨pa, oa, none⟩) (World.block_lt_of_cell? _ _ hca)).trans hca
      have c2 : wr.cell? ⟨pb, ob, none⟩ = some (.int .i64 b) := (hbel.cell (p := ⟨pb, ob, none⟩) (World.block_lt_of_cell? _ _ hcb)).trans hcb
      obtain ⟨p, hp⟩ : ∃ p, TA.length = p := ⟨_, rfl⟩
      obtain ⟨q, hq⟩ : ∃ p, TB.length = p := ⟨_, rfl⟩
      rw [hp] at hxa ⊢
      rw [hq] at hxb ⊢
      rw [List.length_cons, hp] at hlA
      rw [List.length_cons, hq] at hlB
      have HP := Lib.hid hp; have HQ := Lib.hid hq
      have hG' := HG.out
      rw [List.length_cons, List.length_cons, hp, hq] at hG'
      have HG' := Lib.hid hG'
      clear hG' hA hB hA0 hB0 hgo hca hcb hbel hp hq HG
      have KE := fun (x : Int) (fl : Bool) (d : Nat) => keep_any w.heap.size w.heap.size M x fl (wr.drewN d) w (HBU.out.drewN d) (Nat.le_refl _) (by omega) hsz
      have HKE := Lib.hid KE
      clear KE
      by_cases h1 : a < b
      · have t1 : decide (a < b) = true := decide_eq_true h1
        have HST : Hid (mergeL f t s A B = (M ++ opt f a) ++ mergeL f t s TA (b :: TB)) := Lib.hid (by rw [HEQ.out, mergeL_lt _ _ _ _ _ h1, List.append_assoc])
        clear h1
        go_wp2_with fail
        go_quiet (fail)
        go_wp2_with fail
        refine (HKE.out a f _).mono ?_; rintro e w2 ⟨rfl, hb2, hs2⟩
        have HB2 := Lib.hid hb2; have HS2 : Hid (w.heap.size ≤ w2.heap.size) := Lib.hid (by simp at hs2; omega)
        clear hb2 hs2
        by_cases hx : xa = 1
        · have hp0 : p = 0 := by omega
          subst hx hp0
          have hTA : TA = [] := List.eq_nil_of_length_eq_zero HP.out
          subst hTA
          go_wp2_with fail
          go_roundg (0 + (q + 1))
          case rel => exact ⟨[], b :: TB, _, by rw [List.length_cons, HQ.out]; rfl, seqC_one _ _ _, by rw [← HQ.out]; exact HB.out, HST.out, HB2.out, HS2.out, by simp, by rw [List.length_cons, HQ.out]; exact hlB⟩
          case measure => have := HG'.out; omega
        · go_wp2_with fail
          go_roundg (p + (q + 1))
          case rel => exact ⟨TA, b :: TB, _, by rw [List.length_cons, HQ.out, HP.out], seqC_tail (by have := HA.out.1; rw [HP.out] at this; exact this) HP.out hxa, by rw [← HQ.out]; exact HB.out, HST.out, HB2.out, HS2.out, by rw [HP.out]; omega, by rw [List.length_cons, HQ.out]; exact hlB⟩
          case measure => have := HG'.out; omega
      · have t1 : decide (a < b) = false := decide_eq_false h1
        by_cases h2 : b < a
        · have t2 : decide (b < a) = true := decide_eq_true h2
          have HST : Hid (mergeL f t s A B = (M ++ opt s b) ++ mergeL f t s (a :: TA) TB) := Lib.hid (by rw [HEQ.out, mergeL_gt _ _ _ _ _ h1 h2, List.append_assoc])
          clear h1 h2
          go_wp2_with fail
          go_quiet (fail)
          go_wp2_with fail
          go_quiet (fail)
          go_wp2_with fail
          refine (HKE.out b s _).mono ?_; rintro e w2 ⟨rfl, hb2, hs2⟩
          have HB2 := Lib.hid hb2; have HS2 : Hid (w.heap.size ≤ w2.heap.size) := Lib.hid (by simp at hs2; omega)
          clear hb2 hs2
          by_cases hx : xb = 1
          · have hp0 : q = 0 := by omega
            subst hx hp0
            have hTB : TB = [] := List.eq_nil_of_length_eq_zero HQ.out
            subst hTB
            go_wp2_with fail
            go_roundg (p + 1 + 0)
            case rel => exact ⟨a :: TA, [], _, by rw [List.length_cons, HP.out]; rfl, by rw [← HP.out]; exact HA.out, seqC_one _ _ _, HST.out, HB2.out, HS2.out, by rw [List.length_cons, HP.out]; exact hlA, by simp⟩
            case measure => have := HG'.out; omega
          · go_wp2_with fail
            go_roundg (p + 1 + q)
            case rel => exact ⟨a :: TA, TB, _, by rw [List.length_cons, HQ.out, HP.out], by rw [← HP.out]; exact HA.out, seqC_tail (by have := HB.out.1; rw [HQ.out] at this; exact this) HQ.out hxb, HST.out, HB2.out, HS2.out, by rw [List.length_cons, HP.out]; exact hlA, by rw [HQ.out]; omega⟩
            case measure => have := HG'.out; omega
        · have t2 : decide (b < a) = false := decide_eq_false h2
          have HST : Hid (mergeL f t s A B = (M ++ opt t a) ++ mergeL f t s TA TB) := Lib.hid (by rw [HEQ.out, mergeL_eq _ _ _ _ _ h1 h2, List.append_assoc])
          clear h1 h2
          go_wp2_with fail
          go_quiet (fail)
          go_wp2_with fail
          go_quiet (fail)
          go_wp2_with fail
          refine (HKE.out a t _).mono ?_; rintro e w2 ⟨rfl, hb2, hs2⟩
          have HB2 := Lib.hid hb2; have HS2 : Hid (w.heap.size ≤ w2.heap.size) := Lib.hid (by simp at hs2; omega)
          clear hb2 hs2
          by_cases hx : xa = 1
          · have hp0 : p = 0 := by omega
            subst hx hp0
            have hTA : TA = [] := List.eq_nil_of_length_eq_zero HP.out
            subst hTA
            by_cases hy : xb = 1
            · have hq0 : q = 0 := by omega
              subst hy hq0
              have hTB : TB = [] := List.eq_nil_of_length_eq_zero HQ.out
              subst hTB
              go_wp2_with fail
              go_quiet (fail)
              go_wp2_with fail
              go_roundg 0
              case rel => exact ⟨[], [], _, rfl, seqC_one _ _ _, seqC_one _ _ _, HST.out, HB2.out.drewN _, HS2.out, by simp, by simp⟩
              case measure => have := HG'.out; omega
            · go_wp2_with fail
              go_quiet (fail)
              go_wp2_with fail
              go_roundg (0 + q)
              case rel => exact ⟨[], TB, _, by rw [HQ.out]; rfl, seqC_one _ _ _, seqC_tail (by have := HB.out.1; rw [HQ.out] at this; exact this) HQ.out hxb, HST.out, HB2.out.drewN _, HS2.out, by simp, by rw [HQ.out]; omega⟩
              case measure => have := HG'.out; omega
          · by_cases hy : xb = 1
            · have hq0 : q = 0 := by omega
              subst hy hq0
              have hTB : TB = [] := List.eq_nil_of_length_eq_zero HQ.out
              subst hTB
              go_wp2_with fail
              go_quiet (fail)
              go_wp2_with fail
              go_roundg (p + 0)
              case rel => exact ⟨TA, [], _, by rw [HP.out]; rfl, seqC_tail (by have := HA.out.1; rw [HP.out] at this; exact this) HP.out hxa, seqC_one _ _ _, HST.out, HB2.out.drewN _, HS2.out, by rw [HP.out]; omega, by simp⟩
              case measure => have := HG'.out; omega
            · go_wp2_with fail
              go_quiet (fail)
              go_wp2_with fail
              go_roundg (p + q)
              case rel => exact ⟨TA, TB, _, by rw [HP.out, HQ.out], seqC_tail (by have := HA.out.1; rw [HP.out] at this; exact this) HP.out hxa, seqC_tail (by have := HB.out.1; rw [HQ.out] at this; exact this) HQ.out hxb, HST.out, HB2.out.drewN _, HS2.out, by rw [HP.out]; omega, by rw [HQ.out]; omega⟩
              case measure => have := HG'.out; omega
theorem merge_any (f t s : Bool) (A B : List Int) (v u : Value) (w : World) (ha : SeqC w v A) (hb : SeqC w u B) (hl : A.length ≤ 10000000) (hm : B.length ≤ 10000000) :
    Calls Try.prog 56 #[v, u, .bool f, .bool t, .bool s] w fun e w' => ∃ v', e = .returned v' ∧ SeqC w' v' (mergeL f t s A B) ∧ Below w.heap.size w w' :=
  (merge_own f t s A B v u w ha hb hl hm).mono fun _ _ ⟨v', h1, h2, h3⟩ => ⟨v', h1, own_seqC h2, h3⟩
end Go.Proofs.Ytploaffmhemjkaa
