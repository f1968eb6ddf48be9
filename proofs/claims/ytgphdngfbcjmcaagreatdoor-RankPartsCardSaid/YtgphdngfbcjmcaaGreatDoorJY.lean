/- Lists that are handed over, collected in a box: between two of them. rank: the paths of a part, collected: the law's own function, by contract. The document's sets: Has, Add: their contracts (as in layer 6). The document's rows and links: Row, Linked: their contracts. Numbers and values appended at a step of a region that draws; lists that are the same. The document's paths: Paths: its contract. RankParts: the walk. -/
import Derived.Test.YtgphdngfbcjmcaaGreatDoorJW
import Derived.Test.YtgphdngfbcjmcaaGreatDoorAppVals
import Derived.Test.YtgphdngfbcjmcaaGreatDoorJE
import Derived.Test.YtgphdngfbcjmcaaGreatDoorJB
import Derived.Maps.OwnIn
import Derived.OwnWalkIn
import Derived.Test.YtgphdngfbcjmcaaGreatDoorRisP
import Derived.Test.YtgphdngfbcjmcaaGreatDoorSeq
import Derived.WalkSpells
import Derived.Test.YtgphdngfbcjmcaaGreatDoorOdP13
import Derived.Test.YtgphdngfbcjmcaaGreatDoorRowsOwn
import Derived.Test.YtgphdngfbcjmcaaGreatDoorSameInts
import Derived.RegionTactic
import Derived.Deep.AppendLies
import Derived.Test.YtgphdngfbcjmcaaGreatDoorJP
import Derived.BigQuiet
import Derived.Deep.RegionHeld3
import Derived.Deep.DrawnRows
import Derived.Deep.CutBlock
import Derived.Deep.DeepCutAuto
import Derived.Deep.QuietTactic
import Derived.WalkSmall
import Derived.Sort.LoopGhostIn
import Derived.LoopNIn
import Derived.LoopIn
namespace Go.Proofs.YtgphdngfbcjmcaaGreatDoor
section
open Go.RowKit

/-- Rows of numbers in a row of their own, none of them in G. -/
def OutR (W : World) (B : Nat) (v : Value) (C : List (List Int)) (G : Nat → Prop) : Prop :=
  ∃ us : List Value, W.ownsRow B 23 1 v C.length us ∧ (∀ b, v.ownBlock = some b → ¬ G b) ∧ ∀ (i : Nat) (u : Value) (L : List Int), us[i]? = some u → C[i]? = some L → W.ownsRow B 3 1 u L.length (intCells L) ∧ ∀ b, u.ownBlock = some b → ¬ G b
section
variable {w0 W W' A A' : World} {B D oB k : Nat} {v v' u : Value} {C S : List (List Int)} {L : List Int} {G G' : Nat → Prop} {row : Option Nat}
theorem OutR.nil (W : World) (B : Nat) (G : Nat → Prop) : OutR W B (.slice none 0 0) [] G := ⟨[], World.ownsRow_nil W B _ 1, fun b hb => by simp [Value.ownBlock] at hb, fun i u L h => by simp at h⟩
theorem OutR.rows (h : OutR W B v C G) : RowsOwn W B v C := by
  obtain ⟨us, h1, _, h3⟩ := h
  exact ⟨us, h1, fun i u L hu hL => (h3 i u L hu hL).1⟩
theorem OutR.kept (h : OutR W B v C G) (hg : W.grownBy W' row) (hrow : ∀ r, row = some r → r < B ∨ G r) : OutR W' B v C G := by
  obtain ⟨us, h1, h2, h3⟩ := h
  have far : ∀ {e : TypeId} {x : Value} {n : Nat} {xs : List Value}, W.ownsRow B e 1 x n xs → (∀ b, x.ownBlock = some b → ¬ G b) → x.ownBlock = none ∨ x.ownBlock ≠ row := fun {e x n xs} ho hx => by
    cases hb : x.ownBlock with
    | none => exact Or.inl rfl
    | some b =>
      refine Or.inr (fun e => ?_)
      rcases hrow b e.symm with h | h
      · have := (ho.lt b hb).1; omega
      · exact hx b hb h
  exact ⟨us, h1.kept hg (far h1 h2), h2, fun i u L hu hL => ⟨(h3 i u L hu hL).1.kept hg (far (h3 i u L hu hL).1 (h3 i u L hu hL).2), (h3 i u L hu hL).2⟩⟩
theorem OutR.takes (h : OutR W B v C G) (hG : ∀ b, G' b → G b ∨ W.heap.size ≤ b) : OutR W B v C G' := by
  obtain ⟨us, h1, h2, h3⟩ := h
  have far : ∀ {e : TypeId} {x : Value} {n : Nat} {xs : List Value}, W.ownsRow B e 1 x n xs → (∀ b, x.ownBlock = some b → ¬ G b) → ∀ b, x.ownBlock = some b → ¬ G' b := fun {e x n xs} ho hx b hb hg => by
    rcases hG b hg with h | h
    · exact hx b hb h
    · have := (ho.lt b hb).2; omega
  exact ⟨us, h1, far h1 h2, fun i u L hu hL => ⟨(h3 i u L hu hL).1, far (h3 i u L hu hL).1 (h3 i u L hu hL).2⟩⟩
/-- One more. -/
theorem OutR.more {us : List Value} (h1 : W.ownsRow B 23 1 v C.length us) (h2 : ∀ b, v.ownBlock = some b → ¬ G b) (h3 : ∀ (i : Nat) (u : Value) (L : List Int), us[i]? = some u → C[i]? = some L → W.ownsRow B 3 1 u L.length (intCells L) ∧ ∀ b, u.ownBlock = some b → ¬ G b)
    (hu : W.ownsRow B 3 1 u L.length (intCells L)) (huG : ∀ b, u.ownBlock = some b → ¬ G b) (h' : W'.ownsRow B 23 1 v' (C.length + 1) (us ++ [u])) (hg : W.grownBy W' v.ownBlock) (hloc : v'.ownBlock = v.ownBlock ∨ ∃ g, v'.ownBlock = some g ∧ W.heap.size ≤ g) (hG : ∀ b, G b → b < W.heap.size) : OutR W' B v' (C ++ [L]) G := by
  have hl : us.length = C.length := by have := h1.1; simpa using this
  have hne : 3 ≠ 23 := by decide
  refine ⟨us ++ [u], by simpa using h', fun b hb hgb => ?_, fun i x M hx hM => ?_⟩
  · rcases hloc with h | ⟨g, h, hge⟩
    · exact h2 b (by rw [← h]; exact hb) hgb
    · rw [h] at hb
      have e := Option.some.inj hb
      have := hG b hgb
      omega
  · rcases Nat.lt_or_ge i C.length with hi | hi
    · rw [List.getElem?_append_left (by omega)] at hx hM
      have h := h3 i x M hx hM
      exact ⟨h.1.kept hg (own_apart h.1 h1 hne), h.2⟩
    · rw [List.getElem?_append_right (by omega)] at hx hM
      rcases (by omega : i = C.length ∨ C.length < i) with rfl | h4
      · rw [hl, Nat.sub_self] at hx
        rw [Nat.sub_self] at hM
        simp at hx hM
        subst hx hM
        exact ⟨hu.kept hg (own_apart hu h1 hne), huG⟩
      · rw [List.getElem?_eq_none (by simp; omega)] at hx; cases hx
/-- Between two lists: those that came are in the box oB. -/
def CollI (w0 : World) (oB D : Nat) (S : List (List Int)) (G : Nat → Prop) (k : Nat) (W : World) : Prop := Below oB w0 W ∧ D ≤ W.heap.size ∧ ∃ v, Whole W oB 22 #[v] ∧ OutR W (D + 2) v (S.take k) G
theorem CollI.grown (h : CollI w0 oB D S G k A) (ho : oB < D) (hG : ∀ b, G b → D + 2 ≤ b) (hrow : ∀ r, row = some r → r = D ∨ r = D + 1 ∨ G r) (hg : A.grownBy A' row) : CollI w0 oB D S G k A' := by
  obtain ⟨h1, h2, x, h3, h4⟩ := h
  have hr : ∀ r, row = some r → oB < r := fun r e => by
    rcases hrow r e with h | h | h
    · omega
    · omega
    · have := hG r h; omega
  refine ⟨h1.grown hg (by omega) (fun r e => Nat.le_of_lt (hr r e)), Nat.le_trans h2 hg.size, x, h3.grown hg (fun e => by have := hr _ e.symm; omega), h4.kept hg (fun r e => ?_)⟩
  rcases hrow r e with h | h | h
  · exact Or.inl (by omega)
  · exact Or.inl (by omega)
  · exact Or.inr h
theorem CollI.takes (h : CollI w0 oB D S G k A) (hG : ∀ b, G' b → G b ∨ A.heap.size ≤ b) : CollI w0 oB D S G' k A := by
  obtain ⟨h1, h2, x, h3, h4⟩ := h
  exact ⟨h1, h2, x, h3, h4.takes hG⟩
/-- A list was appended: W3 behind the append, W4 behind the store. -/
theorem CollI.round {Cp : Nat → Prop} {us : List Value} {W3 : World} {A3 : Option Addr} {c3 m : Nat} (h1 : Below oB w0 W) (hoD : oB < D) (hk : k < S.length) (hm : (S.take k).length = m) (hbox : Whole W oB 22 #[v]) (hv : W.ownsRow (D + 2) 23 1 v m us) (hvG : ∀ b, v.ownBlock = some b → ¬ G b)
    (h3 : ∀ (i : Nat) (u : Value) (L : List Int), us[i]? = some u → (S.take k)[i]? = some L → W.ownsRow (D + 2) 3 1 u L.length (intCells L) ∧ ∀ b, u.ownBlock = some b → ¬ G b)
    (hL : S[k]? = some L) (hu : W.ownsRow (D + 2) 3 1 u L.length (intCells L)) (huG : ∀ b, u.ownBlock = some b → ¬ G b) (hG : ∀ b, G b → D + 2 ≤ b ∧ b < W.heap.size) (hCp : ∀ b, Cp b → b < D ∧ b ≠ oB) (hD : D + 2 ≤ W.heap.size)
    (ho : W3.ownsRow (D + 2) 23 1 (.slice A3 (m + 1) c3) (m + 1) (us ++ [u])) (hg : W.grownBy W3 v.ownBlock) (hloc : (Value.slice A3 (m + 1) c3).ownBlock = v.ownBlock ∨ ∃ g, (Value.slice A3 (m + 1) c3).ownBlock = some g ∧ W.heap.size ≤ g) (a : Act) (I : (Nat → Prop) → Nat → World → Prop) (hI : I = fun G k W => CollI w0 oB D S G k W) :
    roundW Cp I (fun _ _ _ _ => False) D G k W .normal a (W3.setCell ⟨oB, 0, none⟩ (.slice A3 (m + 1) c3)) := by
  subst hI
  subst hm
  have hs := hg.size
  have hvb : ∀ b, v.ownBlock = some b → D + 2 ≤ b ∧ ¬ G b := fun b hb => ⟨(hv.lt b hb).1, hvG b hb⟩
  have hbox3 : Whole W3 oB 22 #[v] := hbox.grown hg (fun e => by have := (hvb _ e.symm).1; omega)
  have hmore := OutR.more hv hvG h3 hu huG ho hg hloc (fun b hb => (hG b hb).2)
  have htk : S.take k ++ [L] = S.take (k + 1) := by
    rw [List.take_succ_eq_append_getElem hk]
    obtain ⟨_, e⟩ := List.getElem?_eq_some_iff.1 hL
    rw [e]
  rw [htk] at hmore
  refine ⟨⟨by rw [size_put]; exact hs, fun b hb => ?_⟩, ?_, by rw [size_put]; omega, _, hbox3.put 0 _, ?_⟩
  · have hb' : b < W.heap.size ∧ b ≠ oB ∧ v.ownBlock ≠ some b := by
      rcases hb with h | h | h | h
      · exact ⟨by omega, by omega, fun e => by have := (hvb _ e).1; omega⟩
      · exact ⟨by omega, by omega, fun e => by have := (hvb _ e).1; omega⟩
      · exact ⟨(hG b h).2, by have := (hG b h).1; omega, fun e => (hvb _ e).2 h⟩
      · exact ⟨by have := (hCp b h).1; omega, (hCp b h).2, fun e => by have := (hvb _ e).1; have := (hCp b h).1; omega⟩
    rw [Below.heap_setCell _ _ _ _ (by simpa using hb'.2.1), hg.block b hb'.1 (fun e => hb'.2.2 e.symm)]
  · exact (h1.grown hg (by omega) (fun r hr => by have := (hvb r hr).1; omega)).setCell (by simp) _
  · have hput : W3.grownBy (W3.setCell ⟨oB, 0, none⟩ (.slice A3 ((S.take k).length + 1) c3)) (some oB) := by
      have hpg : Below oB W3 (W3.setCell ⟨oB, 0, none⟩ (.slice A3 ((S.take k).length + 1) c3)) := (Below.refl oB W3).setCell (Nat.le_refl _) _
      exact ⟨hpg.os, hpg.tape, hpg.output, hpg.size, fun q _ hq => Below.heap_setCell W3 _ _ q (fun e => hq (by rw [e]))⟩
    exact hmore.kept hput (fun r hr => by obtain rfl := Option.some.inj hr; exact Or.inl (by omega))
end
end

section
open Go.RowKit
attribute [local go_sem] Oper.semAt_some

/-- The paths of a part. -/
def segP (n : Nat) (C : List (List Int)) (a N : Nat) : List (List Int) := (List.range N).map fun i => (allP n C).getD (a + i) []
theorem segP_len (n : Nat) (C : List (List Int)) (a N : Nat) : (segP n C a N).length = N := by simp [segP]
theorem segP_at (n : Nat) (C : List (List Int)) (a : Nat) {N i : Nat} (h : i < N) : (segP n C a N)[i]? = some ((allP n C).getD (a + i) []) := by simp [segP, h]

set_option maxRecDepth 100000 in
set_option maxHeartbeats 4000000 in
theorem collect_any {Wo w : World} {vr : Value} {n : Nat} {C : List (List Int)} {f t : Int} (h : RanksV Wo vr n C) (hcells : ∀ b, b < Wo.heap.size → w.heap[b]? = Wo.heap[b]?) (hs : Wo.heap.size ≤ w.heap.size) (hn : 1 ≤ n) (hn8 : n ≤ 8) (hC : C.length ≤ 100000) (hM : totP n C ≤ 1000000)
    {N : Nat} (hN : (min t (totP n C) - max f 0).toNat = N) :
    Calls Tryz.prog 19 #[vr, .agg #[.int .i64 f, .int .i64 t]] w fun e w' => ∃ u, e = .returned u ∧ RowsOwn w' w.heap.size u (segP n C (max f 0).toNat N) ∧ Below w.heap.size w w' := by
  obtain ⟨j0, hj, ky0, ky1, ky2⟩ := info_parts Tryz.infoRow
  obtain ⟨S, hS⟩ : ∃ S, segP n C (max f 0).toNat N = S := ⟨_, rfl⟩
  have hSl : S.length = N := by rw [← hS]; exact segP_len _ _ _ _
  have hSa : ∀ i, i < N → S[i]? = some ((allP n C).getD ((max f 0).toNat + i) []) := fun i hi => by rw [← hS]; exact segP_at _ _ _ hi
  have hNM : N ≤ 1000000 := by omega
  rw [hS]
  obtain ⟨rb, tt, ends, rfl, _⟩ := id h
  -- the boxes of the part and the lists
  obtain ⟨w1, hw1⟩ : ∃ X, w.alloc (.cells #[.int .i64 f, .int .i64 t] 46) = X := ⟨_, rfl⟩
  obtain ⟨w2, hw2⟩ : ∃ X, w1.alloc (.cells #[.slice none 0 0] 22) = X := ⟨_, rfl⟩
  have hb1 : Below w.heap.size w w1 := by rw [← hw1]; exact (Below.refl _ _).alloc (Nat.le_refl _) _
  have hb2 : Below w1.heap.size w1 w2 := by rw [← hw2]; exact (Below.refl _ _).alloc (Nat.le_refl _) _
  have hp1 : Whole w1 w.heap.size 46 #[.int .i64 f, .int .i64 t] := by rw [← hw1]; exact Whole.new _ _ _
  have ho2 : Whole w2 w1.heap.size 22 #[.slice none 0 0] := by rw [← hw2]; exact Whole.new _ _ _
  have hs1 : w1.heap.size = w.heap.size + 1 := by rw [← hw1]; simp
  have hs2 : w2.heap.size = w1.heap.size + 1 := by rw [← hw2]; simp
  have hp2 := hp1.below hb2 hp1.lt
  have hb02 : Below w.heap.size w w2 := hb1.trans (hb2.mono hb1.size)
  obtain ⟨oB, hoB⟩ : ∃ x, w1.heap.size = x := ⟨_, rfl⟩
  rw [hoB] at ho2 hs2 hs1
  have HW1 := Lib.hid hw1; have HW2 := Lib.hid hw2; have HO2 := Lib.hid ho2; have HS1 := Lib.hid hs1; have HS2 := Lib.hid hs2; have HB02 := Lib.hid hb02; have HOB := Lib.hid hoB; have HB1 := Lib.hid hb1; have HB2 := Lib.hid hb2
  have HH := Lib.hid h; have HCE := Lib.hid hcells; have HSZ := Lib.hid hs; have HN := Lib.hid hN; have HSL := Lib.hid hSl; have HSA := Lib.hid hSa; have HM := Lib.hid hM
  have c1 := hp2.cell 0
  have c2 := hp2.cell 1
  clear h hcells hs hN hS hw1 hw2 hb1 hb2 hp1 ho2 hs1 hs2 hp2 hb02 hoB hSl hSa hM
  refine (callsIn_wide (n := 6)).1 ?_
  refine callsIn_of_wp_marks Tryz.func19 rfl trivial ?_ rfl
  simp only [Tryz.ntmps19, List.size_toArray, List.length_cons, List.length_nil, Nat.reduceAdd, Nat.reduceSub, Array.replicate_succ, Array.replicate_zero, List.push_toArray, List.append_toArray, List.nil_append, List.cons_append]
  refine wpIn_wide.2 ?_
  go_upto_region 1 with fail
  rw [HW1.out]
  go_upto_region 2 with fail
  rw [HW2.out, HOB.out]
  go_wp2_with fail
  refine (each_any _ _ _ _).mono ?_; rintro e w3 ⟨rfl, h3⟩
  have L3 := Lib.hid (each_laid h3)
  clear h3 c1 c2
  have hb03 : Below w.heap.size w w3 := HB02.out.trans (L3.out.2.2.2.1.mono HB02.out.size)
  have HIT := Lib.hid (each_ways HH.out (fun b hb => (hb03.block b (Nat.lt_of_lt_of_le hb HSZ.out)).trans (HCE.out b hb)) (Nat.le_trans HSZ.out hb03.size) hn hn8 hC (by have := HM.out; omega) L3.out.1 L3.out.2.1 L3.out.2.2.1 HN.out)
  have h0 : CollI w2 oB w3.heap.size S (fun _ => False) 0 w3 :=
    ⟨L3.out.2.2.2.1.mono (by have := HS2.out; omega), Nat.le_refl _, _, HO2.out.below L3.out.2.2.2.1 HO2.out.lt, by rw [List.take_zero]; exact OutR.nil _ _ _⟩
  have HD : Hid (w3.heap.size = oB + 3) := Lib.hid (by rw [L3.out.2.2.2.2, HS2.out])
  have H0 := Lib.hid h0; have HB03 := Lib.hid hb03
  clear h0 hb03
  go_wp2_with fail
  refine range_ways (gf := 36) (lb := #[.pointer (some ⟨w2.heap.size + 1, 0, none⟩), .pointer (some ⟨w2.heap.size, 0, none⟩)]) rfl (enters_of Tryz.func36 (by kernel_rfl) rfl) HIT.out (fun b hb => by have := HS2.out; have := HS1.out; have := HD.out; have := HSZ.out; rcases hb with h | h <;> omega) rfl
    (fun G k W => CollI w2 oB w3.heap.size S G k W) (fun _ _ _ _ => False)
    (fun G k A A' row hG hrow h hg => h.grown (by have := HD.out; omega) hG hrow hg) (fun _ _ _ _ _ _ _ _ h _ => h) (fun G G' k A _ hG h => h.takes hG) H0.out ?a1 ?assign ?body ?done ?stop
  case assign =>
    intro l v W K hK
    gi_wp2
    exact hK
  case stop =>
    rintro c G k W _ _ _ h _
    exact h.elim
  case body => as_aux_lemma =>
    rintro l G k v W hG hk ⟨i1, i2, x, hbox, us, o1, o2, o3⟩ hsz hrow hvG
    obtain ⟨m, hm⟩ : ∃ m, (S.take k).length = m := ⟨_, rfl⟩
    have hmk : m = k := by rw [← hm, List.length_take, HSL.out]; omega
    rw [hm] at o1
    have hL := HSA.out k hk
    obtain ⟨Lk, hLk⟩ : ∃ Lk, (allP n C).getD ((max f 0).toNat + k) [] = Lk := ⟨_, rfl⟩
    rw [hLk] at hL
    have hrow' : W.ownsRow (w3.heap.size + 2) 3 1 v Lk.length (intCells Lk) := by rw [← hLk]; exact hrow
    have hd := HD.out
    have NX := fun (W3 : World) (A3 : Option Addr) (c3 : Nat) (a : Act) (ho : W3.ownsRow (w3.heap.size + 2) 23 1 (.slice A3 (m + 1) c3) (m + 1) (us ++ [v])) (hg : W.grownBy W3 x.ownBlock) (hloc : (Value.slice A3 (m + 1) c3).ownBlock = x.ownBlock ∨ ∃ g, (Value.slice A3 (m + 1) c3).ownBlock = some g ∧ W.heap.size ≤ g) =>
      CollI.round (Cp := fun b => b < Wo.heap.size ∨ b = w2.heap.size) i1 (by omega) (by rw [HSL.out]; exact hk) hm hbox o1 o2 o3 hL hrow' hvG (fun b hb => hG b hb) (fun b hb => by have := HS2.out; have := HS1.out; have := HSZ.out; rcases hb with h | h <;> omega) hsz ho hg hloc a _ rfl
    have c0 := hbox.cell 0
    have HNX := Lib.hid NX; have HO1 := Lib.hid o1; have HBX := Lib.hid hbox; have HSZW := Lib.hid hsz
    obtain ⟨Ax, cx, rfl⟩ := own_form o1
    obtain ⟨Av, cv, rfl⟩ := own_form hrow'
    have hm6 : m ≤ 1000000 := by omega
    clear hG i1 i2 hbox o1 o2 o3 hrow hrow' hvG hL hLk hm hmk NX hsz hk hd
    gi_wp2_with (gi_at_builtin; refine wpListIn_append_own_at _ rfl _ _ 22 rfl (w3.heap.size + 2) 23 j0 (.slice none 0 0) 1 24 Tryz.underlying22 hj ky0 ky1 ky2 rfl (by decide) _ m _ rfl (HO1.out.alloc _) ⟨W.heap.size, 0, none⟩ 1 1 [.slice Av Lk.length cv] rfl rfl ?_ (by simp [Value.oneCell']) (by unfold maxLen; omega) (by omega) (by have := HSZW.out; simp; omega) ?_)
    · intro j u hj
      match j, hj with
      | 0, hj => simp at hj; subst hj; simp [Addr.add]
    · intro v' W3 hown' hg3 _ hat
      obtain ⟨A3, c3, rfl⟩ := own_form hown'
      have hg3' : W.grownBy W3 (Value.slice Ax m cx).ownBlock := grown_of_alloc hg3
      have hbox3 := HBX.out.grown hg3' (fun e => own_ne HO1.out HBX.out (by decide) e.symm)
      have f3 := hbox3.free 0
      have c3' : W3.cell? ⟨oB, 0, none⟩ = some (.slice Ax m cx) := hbox3.cell 0
      have HF := Lib.hid (fun a => HNX.out W3 A3 c3 a hown' hg3' (by
        rcases hat with h | h
        · exact Or.inl h
        · exact Or.inr ⟨_, h, by simp⟩))
      clear hown' hg3 hg3' hbox3 hat c0
      gi_wp2_with fail
      exact HF.out _
  case done =>
    rintro G1 X1 hG1 ⟨i1, i2, x, hbox, ho⟩ hD1
    rw [List.take_of_length_le (by rw [HSL.out]; exact Nat.le_refl _)] at ho
    obtain ⟨Ax, cx, rfl⟩ := ho.rows.form
    have c0 := hbox.cell 0
    have HO := Lib.hid ho; have HI1 := Lib.hid i1; have HD1 := Lib.hid hD1
    obtain ⟨sl, hsl⟩ : ∃ x, S.length = x := ⟨_, rfl⟩
    rw [hsl] at HO c0
    clear hG1 i1 i2 hbox ho hD1
    go_wp2_with fail
    refine ⟨by simp, .inl ⟨_, _, rfl, run_takeDeferred HD1.out, ?_⟩⟩
    have hg := grownBy_putObj' X1 w3.heap.size (.deferred none)
    refine ⟨_, results_tmp rfl _ _ _, ?_⟩
    have h1 := HO.out.kept hg (fun r hr => Or.inl (by have := Option.some.inj hr; omega))
    have hB : Below w.heap.size w X1 := HB02.out.trans (HI1.out.mono (by have := HS1.out; omega))
    refine ⟨_, rfl, ?_, hB.grown hg hB.size (fun r hr => by have := Option.some.inj hr; have := HD.out; have := HS1.out; omega)⟩
    exact h1.rows.lower (by have := HD.out; have := HS1.out; omega)
end

section
section
open Go.RowKit

theorem take_succ_contains (L : List Int) (x : Int) (k : Nat) (hk : k < L.length) : (L.take (k + 1)).contains x = ((L.take k).contains x || (L.getD k 0 == x)) := by
  have hg : L.getD k 0 = L[k] := by simp [List.getD, hk]
  rw [Bool.eq_iff_iff, Bool.or_eq_true, List.contains_iff_mem, List.contains_iff_mem, beq_iff_eq, List.take_succ_eq_append_getElem hk, List.mem_append, List.mem_singleton, hg]
  exact ⟨fun h => h.imp id Eq.symm, fun h => h.imp id Eq.symm⟩

set_option maxRecDepth 100000 in
set_option maxHeartbeats 1000000 in
theorem refHas_any (L : List Int) (x : Int) (v : Value) (w : World) (h : SeqV w v L) (hn : L.length ≤ 1000000000) :
    Calls Tryz.prog 68 #[v, .int .i64 x] w fun e w' => e = .returned (.bool (L.contains x)) ∧ w' = w := by
  obtain ⟨A, c, rfl⟩ := IntsV.form h
  obtain ⟨n, hl⟩ : ∃ n, L.length = n := ⟨_, rfl⟩
  have H : Hid (IntsV w (.slice A n c) n (fun i => L.getD i 0)) := Lib.hid (by rw [← hl]; exact h)
  have HL := Lib.hid hl
  rw [hl] at hn ⊢
  clear h hl
  go_enter Tryz.func68, Tryz.ntmps68
  go_wp2_with fail
  go_loopg [5] n (fun g y wr => ∃ k, k ≤ n ∧ g = n - k ∧ y = .int .i64 (k : Nat) ∧ (L.take k).contains x = false ∧ wr = w)
  case atStart => exact ⟨0, by omega, rfl, rfl, by simp, rfl⟩
  case round =>
    obtain ⟨k, hk, rfl, rfl, hno, rfl⟩ := hrel
    have HNO := Lib.hid hno
    clear hno
    by_cases hlt : k < n
    · obtain ⟨b, off, rfl, hcell⟩ := H.out.pos hlt
      have hc := hcell k hlt
      obtain ⟨z, hz⟩ : ∃ z : Int, L.getD k 0 = z := ⟨_, rfl⟩
      have hc' : wr.cell? ⟨b, off + k, none⟩ = some (.int .i64 z) := by rw [← hz]; exact hc
      have HT := Lib.hid (take_succ_contains L x k (by rw [HL.out]; exact hlt))
      have HZ := Lib.hid hz
      have HLT := Lib.hid hlt
      have t7 : decide (k < n) = true := decide_eq_true hlt
      have i1 : (k : Int) < n := by omega
      have i2 : (0 : Int) ≤ k := by omega
      clear hcell hc hz hlt
      by_cases hzx : z = x
      · have t8 : (z == x) = true := by simp [hzx]
        have HK : Hid (L.contains x = true) := Lib.hid (by
          have h1 := HT.out
          rw [HNO.out, HZ.out, t8] at h1
          simp at h1
          simpa using List.mem_of_mem_take h1)
        clear hzx
        go_wp2_with fail
        go_ret
        exact ⟨by rw [HK.out]; rfl, rfl⟩
      · have t8 : (z == x) = false := by simp [hzx]
        have HK : Hid ((L.take (k + 1)).contains x = false) := Lib.hid (by rw [HT.out, HNO.out, HZ.out, t8]; rfl)
        clear hzx
        go_wp2_with fail
        go_roundg (n - (k + 1))
        case rel => exact ⟨k + 1, HLT.out, rfl, by go_num, HK.out, rfl⟩
        case measure => have := HLT.out; omega
    · obtain rfl : k = n := by omega
      have t7 : decide (k < k) = false := by simp
      have HK : Hid (L.contains x = false) := Lib.hid (by have h1 := HNO.out; rwa [List.take_of_length_le (by rw [HL.out]; omega)] at h1)
      clear hlt
      go_wp2
      go_ret
      exact ⟨by rw [HK.out]; rfl, rfl⟩
set_option maxRecDepth 100000 in
set_option maxHeartbeats 4000000 in
theorem refAdd_any (L : List Int) (x : Int) (v : Value) (w : World) (h : SeqC w v L) (hn : L.length ≤ 100000000) :
    Calls Tryz.prog 51 #[v, .int .i64 x] w fun e w' => ∃ v', e = .returned v' ∧ SeqC w' v' (addR L x) ∧ Below w.heap.size w w' := by
  obtain ⟨i0, hi, hz0, hz1, hz2⟩ := info_parts Tryz.infoInt6
  obtain ⟨hs, A, c, rfl, hcap⟩ := id h
  have H0 := refHas_any L x _ w hs (by omega)
  cases hc : L.contains x with
  | true =>
    rw [hc] at H0
    have HH := Lib.hid H0
    have HR : Hid (addR L x = L) := Lib.hid (by unfold addR; rw [if_pos hc])
    have HS := Lib.hid h
    clear h hs H0 hc hcap
    go_enter Tryz.func51, Tryz.ntmps51
    go_wp2_with fail
    refine HH.out.mono ?_; rintro e w1 ⟨rfl, hw1⟩; obtain rfl := hw1.symm
    go_wp2_with fail
    go_ret
    exact ⟨_, rfl, by rw [HR.out]; exact HS.out, Below.refl _ _⟩
  | false =>
    rw [hc] at H0
    have HR : Hid (addR L x = L.take (lower L x) ++ [x] ++ L.drop (lower L x)) := Lib.hid (by unfold addR; rw [if_neg (by rw [hc]; simp)])
    obtain ⟨n, hl⟩ : ∃ n, L.length = n := ⟨_, rfl⟩
    have hs' : IntsV w (.slice A n c) n (fun i => L.getD i 0) := by have := hs; unfold SeqV at this; rw [hl] at this; exact this
    rw [hl] at H0
    have HH := Lib.hid H0
    have HS := Lib.hid hs'; have HL := Lib.hid hl
    have hlo := lower_le L x
    obtain ⟨m, hm⟩ : ∃ m, lower L x = m := ⟨_, rfl⟩
    have hlt' := lower_lt L x
    have hge' := lower_ge L x
    rw [hm] at hlo hlt' hge'
    rw [hl] at hlo hn hcap hge' ⊢
    have HM := Lib.hid hm; have HLT := Lib.hid hlt'; have HGE := Lib.hid hge'
    clear h hs hs' H0 hc hl hm hlt' hge'
    go_enter Tryz.func51, Tryz.ntmps51
    go_wp2_with fail
    refine HH.out.mono ?_; rintro e w1 ⟨rfl, hw1⟩; obtain rfl := hw1.symm
    go_wp2_with fail
    go_loopg [5] m (fun g y wr => ∃ k, k ≤ m ∧ g = m - k ∧ y = .int .i64 (k : Nat) ∧ wr = w)
    case atStart => exact ⟨0, by omega, rfl, rfl, rfl⟩
    case round =>
      obtain ⟨k, hk, rfl, rfl, rfl⟩ := hrel
      by_cases hkm : k < m
      · obtain ⟨b, off, rfl, hcell⟩ := HS.out.pos (show k < n by omega)
        have hc := hcell k (by omega)
        have hlt := HLT.out k hkm
        obtain ⟨z, hz⟩ : ∃ z : Int, L.getD k 0 = z := ⟨_, rfl⟩
        have hc' : wr.cell? ⟨b, off + k, none⟩ = some (.int .i64 z) := by rw [← hz]; exact hc
        rw [hz] at hlt
        have HK := Lib.hid hkm
        have t7 : decide (k < n) = true := decide_eq_true (by omega)
        have t7' : decide ((k : Int) < n) = true := decide_eq_true (by omega)
        have t8 : decide (z < x) = true := decide_eq_true hlt
        have i1 : (k : Int) < n := by omega
        have i2 : (0 : Int) ≤ k := by omega
        clear hcell hc hz hlt hkm
        go_wp2_with fail
        go_roundg (m - (k + 1))
        case rel => exact ⟨k + 1, HK.out, rfl, by go_num, rfl⟩
        case measure => have := HK.out; omega
      · obtain rfl : k = m := by omega
        clear hkm
        have hpre : SeqV wr (.slice A k c) (L.take k) := by
          have hlen : (L.take k).length = k := by rw [List.length_take, HL.out]; omega
          rcases HS.out with ⟨h0, A0, c0, e⟩ | ⟨h0, b, off, c0, e, hcell⟩
          · have hk0 : k = 0 := by omega
            subst hk0
            exact Or.inl ⟨by simp, _, _, rfl⟩
          · injection e with e1 e2 e3
            rcases Nat.eq_zero_or_pos k with hk0 | hk0
            · subst hk0
              exact Or.inl ⟨by simp, _, _, rfl⟩
            · refine Or.inr ⟨by omega, b, off, c, by rw [hlen, e1], fun i hi => ?_⟩
              rw [hlen] at hi
              rw [hcell i (by omega)]
              simp [List.getD, hi]
        have OW0 := World.ownsRow_lit (base := wr.heap.size) (e := 3) (size := 1) wr #[] 0 (Nat.le_refl _) (by unfold maxLen; omega) rfl
        have hA0 : Below wr.heap.size wr (wr.alloc (.cells #[] 3)) := (Below.refl _ _).alloc (Nat.le_refl _) _
        have HPRE := Lib.hid (hpre.below hA0 (Nat.le_refl _))
        have HOW0 := Lib.hid OW0; have HA0 := Lib.hid hA0
        have hsz0 : wr.heap.size ≤ (wr.alloc (.cells #[] 3)).heap.size := hA0.size
        have HTL : Hid ((L.take k).length = k) := Lib.hid (by rw [List.length_take, HL.out]; omega)
        have i1 : (k : Int) ≤ c := by omega
        have i2 : (0 : Int) ≤ k := by omega
        have i3 : (k : Int) ≤ n := by omega
        clear hpre OW0 hA0
        have hend : ((decide (k < n) = false) ∧ k = n) ∨ (∃ (b off : Nat) (z : Int), A = some ⟨b, off, none⟩ ∧ wr.cell? ⟨b, off + k, none⟩ = some (.int .i64 z) ∧ decide (k < n) = true ∧ decide (z < x) = false ∧ k < n) := by
          rcases (by omega : k = n ∨ k < n) with h1 | h1
          · exact Or.inl ⟨decide_eq_false (by omega), h1⟩
          · obtain ⟨b, off, hA, hcell⟩ := HS.out.pos h1
            exact Or.inr ⟨b, off, _, hA, hcell k h1, decide_eq_true h1, decide_eq_false (by have := HGE.out h1; omega), h1⟩
        obtain ⟨P1, hP1⟩ : ∃ P, L.take k = P := ⟨_, rfl⟩
        rw [hP1] at HPRE HTL
        have HP1 := Lib.hid hP1
        clear hP1
        rcases hend with ⟨t7, hkn⟩ | ⟨b, off, z, rfl, hc', t7, t8, hkn⟩
        · subst hkn
          have HFIN : Hid (addR L x = P1 ++ [x]) := Lib.hid (by rw [HR.out, HM.out, HP1.out, List.drop_of_length_le (by rw [HL.out]; omega), List.append_nil])
          go_wp2_with (at_builtin; refine wpList_appInts _ rfl _ _ 23 rfl wr.heap.size i0 Tryz.underlying23 hi hz0 hz1 hz2 _ 0 _ rfl HOW0.out _ P1 rfl HPRE.out (by rw [HTL.out]; omega) hsz0 ?_)
          intro A2 c2 w2 hown2 hgrow2
          have hb2 : Below wr.heap.size wr w2 := hgrow2.below HOW0.out HA0.out (Nat.le_refl _) hsz0
          rw [HTL.out] at hown2
          rw [HTL.out]
          have hs2 := hb2.size
          have hown2' : w2.ownsRow wr.heap.size 3 1 (.slice A2 k c2) k (intCells P1) := by simpa using hown2
          have HOW2 := Lib.hid hown2'; have HB2 := Lib.hid hb2
          clear hown2 hgrow2 hb2 hown2'
          go_wp2_with (at_builtin; refine wpList_app1g _ rfl _ _ 23 rfl wr.heap.size 3 i0 (.int .i64 0) 8 Tryz.underlying23 hi hz0 hz1 hz2 rfl _ k _ rfl HOW2.out _ rfl rfl (by omega) (by omega) hs2 ?_)
          intro A3 c3 w3 hown3 hgrow3
          have hb3 : Below wr.heap.size wr w3 := hgrow3.below HOW2.out HB2.out (Nat.le_refl _) hs2
          have hs3 := hb3.size
          have HOW3 := Lib.hid hown3; have HB3 := Lib.hid hb3
          clear hown3 hgrow3 hb3
          go_wp2_with (at_builtin; refine wpList_appInts _ rfl _ _ 23 rfl wr.heap.size i0 Tryz.underlying23 hi hz0 hz1 hz2 _ (k + 1) _ rfl HOW3.out _ [] rfl (seqV_nil _ _ _) (by simp; omega) hs3 ?_)
          all_goals
            intro A4 c4 w4 hown4 hgrow4
            have hb4 : Below wr.heap.size wr w4 := hgrow4.below HOW3.out HB3.out (Nat.le_refl _) hs3
            have ho4 : w4.ownsRow wr.heap.size 3 1 (.slice A4 (k + 1) c4) (k + 1) (intCells (addR L x)) := by rw [HFIN.out, intCells_app]; simpa [intCells] using hown4
            have HO4 := Lib.hid (own_seqC ho4); have HB4 := Lib.hid hb4
            clear hown4 hgrow4 hb4 ho4
            go_wp2_with fail
            go_ret
            exact ⟨_, rfl, HO4.out, HB4.out⟩
        · obtain ⟨P2, hP2⟩ : ∃ P, L.drop k = P := ⟨_, rfl⟩
          have hP2l : P2.length = n - k := by rw [← hP2, List.length_drop, HL.out]
          have HFIN : Hid (addR L x = P1 ++ [x] ++ P2) := Lib.hid (by rw [HR.out, HM.out, HP1.out, hP2])
          have hck : ¬ c = k := by omega
          have hbl : b < wr.heap.size := World.block_lt_of_cell? _ _ hc'
          have HSUF : Hid (SeqV wr (.slice (some ⟨b, off + k, none⟩) (n - k) (c - k)) P2) := Lib.hid (by
            rcases HS.out with ⟨h0, _⟩ | ⟨_, b', off', c0, e, hcell⟩
            · omega
            · injection e with e1 e2 e3
              injection e1 with e1
              injection e1 with e1 e4
              subst e1 e4
              refine Or.inr ⟨by omega, b, off + k, c - k, by rw [hP2l], fun i hi => ?_⟩
              rw [hP2l] at hi
              rw [Nat.add_assoc, hcell (k + i) (by omega), ← hP2]
              simp [List.getD, List.getElem?_drop])
          have HP2L := Lib.hid hP2l
          clear hP2 hP2l hbl
          go_wp2_with (at_builtin; refine wpList_appInts _ rfl _ _ 23 rfl wr.heap.size i0 Tryz.underlying23 hi hz0 hz1 hz2 _ 0 _ rfl HOW0.out _ P1 rfl HPRE.out (by rw [HTL.out]; omega) hsz0 ?_)
          intro A2 c2 w2 hown2 hgrow2
          have hb2 : Below wr.heap.size wr w2 := hgrow2.below HOW0.out HA0.out (Nat.le_refl _) hsz0
          rw [HTL.out] at hown2
          rw [HTL.out]
          have hs2 := hb2.size
          have hown2' : w2.ownsRow wr.heap.size 3 1 (.slice A2 k c2) k (intCells P1) := by simpa using hown2
          have HOW2 := Lib.hid hown2'; have HB2 := Lib.hid hb2
          clear hown2 hgrow2 hb2 hown2'
          go_wp2_with (at_builtin; refine wpList_app1g _ rfl _ _ 23 rfl wr.heap.size 3 i0 (.int .i64 0) 8 Tryz.underlying23 hi hz0 hz1 hz2 rfl _ k _ rfl HOW2.out _ rfl rfl (by omega) (by omega) hs2 ?_)
          intro A3 c3 w3 hown3 hgrow3
          have hb3 : Below wr.heap.size wr w3 := hgrow3.below HOW2.out HB2.out (Nat.le_refl _) hs2
          have hs3 := hb3.size
          have HOW3 := Lib.hid hown3; have HB3 := Lib.hid hb3
          clear hown3 hgrow3 hb3
          have HSUF3 := Lib.hid (HSUF.out.below HB3.out (Nat.le_refl _))
          go_wp2_with (at_builtin; refine wpList_appInts _ rfl _ _ 23 rfl wr.heap.size i0 Tryz.underlying23 hi hz0 hz1 hz2 _ (k + 1) _ rfl HOW3.out _ P2 rfl HSUF3.out (by rw [HP2L.out]; omega) hs3 ?_)
          intro A4 c4 w4 hown4 hgrow4
          have hb4 : Below wr.heap.size wr w4 := hgrow4.below HOW3.out HB3.out (Nat.le_refl _) hs3
          have ho4 : w4.ownsRow wr.heap.size 3 1 (.slice A4 (k + 1 + P2.length) c4) (k + 1 + P2.length) (intCells (addR L x)) := by rw [HFIN.out, intCells_app, intCells_app]; simpa [intCells] using hown4
          have HO4 := Lib.hid (own_seqC ho4); have HB4 := Lib.hid hb4
          clear hown4 hgrow4 hb4 ho4
          go_wp2_with fail
          go_ret
          exact ⟨_, rfl, HO4.out, HB4.out⟩
end

section
open Go.RowKit

theorem ofR_take {L : List Int} {k : Nat} (h : k < L.length) : ofR (L.take (k + 1)) = addR (ofR (L.take k)) (L.getD k 0) := by
  rw [List.take_succ_eq_append_getElem h, ofR_snoc]
  simp [List.getD, h]
set_option maxRecDepth 100000 in
set_option maxHeartbeats 4000000 in
theorem refRow_any (C : List (List Int)) (n i : Nat) (v : Value) (w : World) (hv : ListsV w v C) (hC : C.length ≤ 100000) (hL : ∀ l ∈ C, l.length = n) (hin : i < n) :
    Calls Tryz.prog 28 #[v, .int .i64 i] w fun e w' => ∃ v', e = .returned v' ∧ SeqC w' v' (rowP C i) ∧ Below w.heap.size w w' := by
  obtain ⟨A, c, rfl⟩ := hv.form
  obtain ⟨m, hm⟩ : ∃ m, C.length = m := ⟨_, rfl⟩
  rw [hm] at hv hC ⊢
  have HV := Lib.hid hv; have HM := Lib.hid hm; have HL := Lib.hid hL
  obtain ⟨N, hN⟩ : ∃ N, C.map (fun l => l.getD i 0) = N := ⟨_, rfl⟩
  have hNl : N.length = m := by rw [← hN, List.length_map, hm]
  have HR : Hid (rowP C i = ofR N) := Lib.hid (by rw [← hN]; rfl)
  have HN : Hid (∀ (k : Nat) (h : k < C.length), N.getD k 0 = C[k].getD i 0) := Lib.hid (fun k h => by rw [← hN]; simp [List.getD, h])
  have HNL := Lib.hid hNl
  have HI := Lib.hid hin
  clear hv hm hL hN hNl
  go_enter Tryz.func28, Tryz.ntmps28
  go_wp2_with fail
  go_loopg [5, 6] m (fun gh x y wr => ∃ k, k ≤ m ∧ gh = m - k ∧ y = .int .i64 (k : Nat) ∧ SeqC wr x (ofR (N.take k)) ∧ Below w.heap.size w wr)
  case atStart => exact ⟨0, Nat.zero_le _, rfl, rfl, ⟨Or.inl ⟨rfl, _, _, rfl⟩, _, _, rfl, Nat.le_refl _⟩, Below.refl _ _⟩
  case round =>
    obtain ⟨k, hk, rfl, rfl, hx, hb⟩ := hrel
    have HX := Lib.hid hx; have HB := Lib.hid hb
    obtain ⟨_, Ax, cx, rfl, _⟩ := hx
    by_cases hlt : k < m
    · have hkC : k < C.length := by rw [HM.out]; exact hlt
      obtain ⟨bb, off, u, rfl, hc, hu⟩ := (HV.out.below hb (Nat.le_refl _)).pos hkC
      have hlen := HL.out C[k] (List.getElem_mem _)
      have hz := HN.out k hkC
      obtain ⟨l, hl⟩ : ∃ l, C[k] = l := ⟨_, rfl⟩
      rw [hl] at hu hlen hz
      obtain ⟨hus, A2, c2, rfl, _⟩ := hu
      obtain ⟨b2, off2, rfl, hcA⟩ := IntsV.pos hus (i := i) (by rw [hlen]; exact HI.out)
      have hc2 := hcA i (by rw [hlen]; exact HI.out)
      rw [← hz] at hc2
      rw [hlen] at hc
      have hst := ofR_take (L := N) (k := k) (by rw [HNL.out]; exact hlt)
      obtain ⟨z, hzz⟩ : ∃ z, N.getD k 0 = z := ⟨_, rfl⟩
      rw [hzz] at hc2 hst
      have hll : (ofR (N.take k)).length ≤ 100000 := by
        have := ofR_len (N.take k)
        rw [List.length_take, HNL.out] at this
        omega
      have ADD := Lib.hid (refAdd_any _ z _ wr HX.out (by omega))
      have HST := Lib.hid hst
      have t1 : decide (k < m) = true := decide_eq_true hlt
      have i1 : (k : Int) < m := by omega
      have i2 : (0 : Int) ≤ k := by omega
      have i3 : (i : Int) < n := by have := HI.out; omega
      have i4 : (0 : Int) ≤ i := by omega
      have HLT := Lib.hid hlt
      clear hb hkC hlen hz hl hus hcA hst hzz hll hlt
      go_wp2_with fail
      refine ADD.out.mono ?_; rintro e w2 ⟨v2, rfl, hv2, hb2⟩
      have HV2 := Lib.hid hv2; have HB2 := Lib.hid (HB.out.trans (hb2.mono HB.out.size))
      obtain ⟨_, A3, c3, rfl, _⟩ := hv2
      clear hb2 hc hc2
      go_wp2_with fail
      go_roundg (m - (k + 1))
      case rel => exact ⟨k + 1, HLT.out, rfl, by go_num, by rw [HST.out]; exact HV2.out, HB2.out⟩
      case measure => have := HLT.out; omega
    · obtain rfl : k = m := by omega
      have t1 : decide (k < k) = false := by simp
      have HF : Hid (ofR (N.take k) = rowP C i) := Lib.hid (by rw [HR.out, List.take_of_length_le (by rw [HNL.out]; exact Nat.le_refl _)])
      clear hb hlt
      go_wp2_with fail
      go_ret
      exact ⟨_, rfl, by rw [← HF.out]; exact HX.out, HB.out⟩
set_option maxRecDepth 100000 in
set_option maxHeartbeats 4000000 in
theorem refLinked_any (C : List (List Int)) (n i : Nat) (a b : Int) (v : Value) (w : World) (hv : ListsV w v C) (hC : C.length ≤ 100000) (hL : ∀ l ∈ C, l.length = n) (hin : i + 1 < n) (hn : n ≤ 100) :
    Calls Tryz.prog 29 #[v, .int .i64 i, .int .i64 a, .int .i64 b] w fun e w' => e = .returned (.bool ((linkP C i a).contains b)) ∧ w' = w := by
  obtain ⟨A, c, rfl⟩ := hv.form
  obtain ⟨m, hm⟩ : ∃ m, C.length = m := ⟨_, rfl⟩
  rw [hm] at hv hC ⊢
  have HV := Lib.hid hv; have HM := Lib.hid hm; have HL := Lib.hid hL
  have HI := Lib.hid hin
  obtain ⟨B, hB⟩ : ∃ B, (linkP C i a).contains b = B := ⟨_, rfl⟩
  have HBB := Lib.hid hB
  rw [hB]
  clear hv hm hL hB
  go_enter Tryz.func29, Tryz.ntmps29
  go_wp2_with fail
  go_loopg [9] m (fun gh y wr => ∃ k, k ≤ m ∧ gh = m - k ∧ y = .int .i64 (k : Nat) ∧ (∀ l ∈ C.take k, ¬ (l.getD i 0 = a ∧ l.getD (i + 1) 0 = b)) ∧ wr = w)
  case atStart => exact ⟨0, Nat.zero_le _, rfl, rfl, by simp, rfl⟩
  case round =>
    obtain ⟨k, hk, rfl, rfl, hno, rfl⟩ := hrel
    have HNO := Lib.hid hno
    clear hno
    by_cases hlt : k < m
    · have hkC : k < C.length := by rw [HM.out]; exact hlt
      obtain ⟨bb, off, u, rfl, hc, hu⟩ := HV.out.pos hkC
      have hlen := HL.out C[k] (List.getElem_mem _)
      have htk : C.take (k + 1) = C.take k ++ [C[k]] := List.take_succ_eq_append_getElem hkC
      have hmem : C[k] ∈ C := List.getElem_mem _
      obtain ⟨l, hl⟩ : ∃ l, C[k] = l := ⟨_, rfl⟩
      rw [hl] at hu hlen htk hmem
      obtain ⟨hus, A2, c2, rfl, _⟩ := hu
      obtain ⟨b2, off2, rfl, hcA⟩ := IntsV.pos hus (i := i) (by rw [hlen]; have := HI.out; omega)
      have hc2 := hcA i (by rw [hlen]; have := HI.out; omega)
      have hc3 := hcA (i + 1) (by rw [hlen]; exact HI.out)
      rw [hlen] at hc
      have HTK := Lib.hid htk; have HMEM := Lib.hid hmem
      obtain ⟨x, hx⟩ : ∃ z, l.getD i 0 = z := ⟨_, rfl⟩
      obtain ⟨y, hy⟩ : ∃ z, l.getD (i + 1) 0 = z := ⟨_, rfl⟩
      rw [hx] at hc2
      rw [hy] at hc3
      have HXX := Lib.hid hx; have HYY := Lib.hid hy
      have t1 : decide (k < m) = true := decide_eq_true hlt
      have t2 : decide (i + 1 < n) = true := decide_eq_true HI.out
      have t2' : decide ((i : Int) + 1 < n) = true := decide_eq_true (by have := HI.out; omega)
      have i1 : (k : Int) < m := by omega
      have i2 : (0 : Int) ≤ k := by omega
      have i3 : (i : Int) + 1 < n := by have := HI.out; omega
      have i4 : (0 : Int) ≤ i := by omega
      have i5 : (n : Int) ≤ 100 := by omega
      have HLT := Lib.hid hlt
      clear hkC hlen htk hmem hl hus hcA hx hy hlt
      have hno : ∀ (_ : ¬ (x = a ∧ y = b)), ∀ l ∈ C.take (k + 1), ¬ (l.getD i 0 = a ∧ l.getD (i + 1) 0 = b) := fun hxy l' hl' => by
        rw [HTK.out, List.mem_append, List.mem_singleton] at hl'
        rcases hl' with hl' | rfl
        · exact HNO.out l' hl'
        · rw [HXX.out, HYY.out]; exact hxy
      by_cases hxa : x = a
      · have t3 : (x == a) = true := by simpa using hxa
        by_cases hyb : y = b
        · have t4 : (y == b) = true := by simpa using hyb
          have HF : Hid (B = true) := Lib.hid (by
            rw [← HBB.out]
            have : b ∈ linkP C i a := link_mem.2 ⟨l, HMEM.out, by rw [HXX.out, hxa], by rw [HYY.out, hyb]⟩
            simpa using this)
          clear hxa hyb hno
          go_wp2_with fail
          go_ret
          have h := HF.out
          subst h
          exact ⟨rfl, rfl⟩
        · have t4 : (y == b) = false := by simpa using hyb
          have HNX := Lib.hid (hno (fun h => hyb h.2))
          clear hxa hyb hno
          go_wp2_with fail
          go_roundg (m - (k + 1))
          case rel => exact ⟨k + 1, HLT.out, rfl, by go_num, HNX.out, rfl⟩
          case measure => have := HLT.out; omega
      · have t3 : (x == a) = false := by simpa using hxa
        have HNX := Lib.hid (hno (fun h => hxa h.1))
        clear hxa hno
        go_wp2_with fail
        go_roundg (m - (k + 1))
        case rel => exact ⟨k + 1, HLT.out, rfl, by go_num, HNX.out, rfl⟩
        case measure => have := HLT.out; omega
    · obtain rfl : k = m := by omega
      have t1 : decide (k < k) = false := by simp
      have HF : Hid (B = false) := Lib.hid (by
        rw [← HBB.out]
        have h1 := HNO.out
        rw [List.take_of_length_le (by rw [HM.out]; exact Nat.le_refl _)] at h1
        have : b ∉ linkP C i a := fun h => by
          obtain ⟨l, h2, h3, h4⟩ := link_mem.1 h
          exact h1 l h2 ⟨h3, h4⟩
        simpa using this)
      clear hlt
      go_wp2_with fail
      go_ret
      have h := HF.out
      subst h
      exact ⟨rfl, rfl⟩
end

section
open Go.RowKit

section
variable {P : Program}
/-- Numbers behind a row of the call's own: the run. -/
theorem run_appInts (w : World) (t ty : TypeId) (base : Nat) (i : TypeInfo) (ht : P.underlying t = some (.slice 3)) (hi : P.info? 3 = some i) (hz : i.zero = some (.int .i64 0))
    (hsize : i.size = 1) (hby : i.bytes = 8) (v : Value) (n : Nat) (xs : List Value) (hown : w.ownsRow base 3 1 v n xs)
    (u : Value) (l : List Int) (hu : SeqV w u l) (hn : n + l.length ≤ 1000000000) (hbase : base ≤ w.heap.size) :
    ∃ A' c' w', (Builtin.append_ #[t, t] ty #[v, u]).run P w = .ok (.slice A' (n + l.length) c') w' ∧ w'.ownsRow base 3 1 (.slice A' (n + l.length) c') (n + l.length) (xs ++ intCells l) ∧ w.grownBy w' v.ownBlock := by
  obtain ⟨A, c, rfl⟩ := IntsV.form hu
  have key : ∀ ad : Addr, A = some ad → ∃ A' c' w', (Builtin.append_ #[t, t] ty #[v, .slice A l.length c]).run P w = .ok (.slice A' (n + l.length) c') w' ∧ w'.ownsRow base 3 1 (.slice A' (n + l.length) c') (n + l.length) (xs ++ intCells l) ∧ w.grownBy w' v.ownBlock := by
    intro ad hA
    subst hA
    obtain ⟨v', w', hr, h2, h3, _⟩ := run_append_own_at (P := P) w base t ty 3 i (.int .i64 0) 1 8 ht hi hz hsize hby rfl (by decide) v n xs hown ad l.length c (intCells l) (by simp [intCells])
      (by
        rcases hu with ⟨h0, _⟩ | ⟨_, b, off, c', e, hc⟩
        · intro j u hj
          rw [List.eq_nil_of_length_eq_zero h0] at hj
          simp [intCells] at hj
        · injection e with e1 e2 e3
          injection e1 with e1
          subst e1
          exact seq_cells (c := l.length) hc rfl (Nat.le_refl _)) (fun u hu => by simp [intCells] at hu; obtain ⟨z, _, rfl⟩ := hu; rfl) (by unfold maxLen; omega) (by omega) hbase
    obtain ⟨A', c', rfl⟩ := own_form h2
    exact ⟨A', c', w', hr, h2, h3⟩
  rcases A with _ | ad
  · have hl0 : l = [] := by
      rcases hu with ⟨h0, _⟩ | ⟨_, b, off, c', e, _⟩
      · exact List.eq_nil_of_length_eq_zero h0
      · cases e
    subst hl0
    obtain ⟨A', c', rfl⟩ := own_form hown
    have hr : (Builtin.append_ #[t, t] ty #[.slice A' n c', .slice none 0 c]).run P w = .ok (.slice A' n c') w := by
      rcases hown.2 with ⟨h1, h2⟩ | ⟨g, cap, cur, h1, _, _, hnc, _⟩
      · injection h1 with e1 e2 e3
        subst e1 e2 e3
        simp [Builtin.append_, run_underlying ht, sizeOf, typeInfo, hi, Builtin.lenOf, Builtin.firstCells]
      · injection h1 with e1 e2 e3
        subst e1 e3
        simp [Builtin.append_, run_underlying ht, sizeOf, typeInfo, hi, Builtin.lenOf, Builtin.firstCells, hnc, storeCells]
    exact ⟨A', c', w, hr, by simpa [intCells] using hown, (Grew.refl w (.slice A' n c')).1⟩
  · exact key ad rfl
/-- At a step of a region that draws. -/
theorem step_appInts {ops : Array Oper} {o : Oper} {a : Act} {w : World} {K : Act → World → Prop} {Q : Exit → Act → World → Prop} {E : Prop} (hw : Region.wanted o (yielded ops a.tmps) = true) (s x : Operand) (t : TypeId)
    (ho : o.op = .call { callee := .builtin .append, args := #[s, x], argTypes := #[t, t] })
    (base : Nat) (i : TypeInfo) (ht : P.underlying t = some (.slice 3)) (hi : P.info? 3 = some i) (hz : i.zero = some (.int .i64 0))
    (hsize : i.size = 1) (hby : i.bytes = 8) (v : Value) (n : Nat) (xs : List Value) (hs : a.eval s = v) (hown : w.ownsRow base 3 1 v n xs)
    (u : Value) (l : List Int) (hx : a.eval x = u) (hu : SeqV w u l) (hn : n + l.length ≤ 1000000000) (hbase : base ≤ w.heap.size)
    (h : ∀ A' c' w', w'.ownsRow base 3 1 (.slice A' (n + l.length) c') (n + l.length) (xs ++ intCells l) → w.grownBy w' v.ownBlock → K (a.put o.dst (.slice A' (n + l.length) c')) w') :
    if Region.wanted o (yielded ops a.tmps) = true then Oper.wp P o a w K Q else E := by
  rw [if_pos hw]
  obtain ⟨A', c', w', hr, h2, h3⟩ := run_appInts (P := P) w t o.type base i ht hi hz hsize hby v n xs hown u l hu hn hbase
  unfold Oper.wp execOp
  simp only [ho, resolve, invoke, builtin, Sem.run_bind, Sem.run_pure, Result.andThen_ok, List.map_toArray, List.map_cons, List.map_nil, hs, hx, hr]
  exact h A' c' w' h2 h3
end
/-- One number in a block of its own. -/
theorem seq_cell1 {w : World} {b : Nat} {x : Int} (h : w.cell? ⟨b, 0, none⟩ = some (.int .i64 x)) : SeqV w (.slice (some ⟨b, 0, none⟩) 1 1) [x] := by
  refine Or.inr ⟨Nat.zero_lt_one, b, 0, 1, rfl, fun i hi => ?_⟩
  obtain rfl : i = 0 := by simpa using hi
  exact h
theorem own_empty (W : World) (base : Nat) (hb : base ≤ W.heap.size) : (W.alloc (.cells #[] 3)).ownsRow base 3 1 (.slice (some ⟨W.heap.size, 0, none⟩) 0 0) 0 [] :=
  World.ownsRow_lit (size := 1) W #[] 0 hb (by decide) rfl
theorem cell_new1 (W : World) (x : Int) : (W.alloc (.cells #[.int .i64 x] 3)).cell? ⟨W.heap.size, 0, none⟩ = some (.int .i64 x) := (Whole.new W 3 #[.int .i64 x]).cell 0
theorem sameI_self (L : List Int) : sameI (fun i => L.getD i 0) L.length (fun i => L.getD i 0) L.length = true := by
  unfold sameI
  rw [Bool.and_eq_true, eqUpto_iff]
  exact ⟨by simp, fun i _ => rfl⟩
theorem sameI_iff {L M : List Int} : sameI (fun i => L.getD i 0) L.length (fun i => M.getD i 0) M.length = true ↔ L = M := by
  constructor
  · intro h
    unfold sameI at h
    rw [Bool.and_eq_true, eqUpto_iff, decide_eq_true_eq] at h
    apply List.ext_getElem h.1
    intro i h1 h2
    have := h.2 i h1
    simpa [List.getD, h1, h2] using this
  · rintro rfl
    exact sameI_self L
theorem same_dec {A B : List Int} {u v : Value} {w : World} (h : SeqV w u A) (k : SeqV w v B) (hl : A.length ≤ 1000000000) :
    Calls Tryz.prog 15 #[u, v] w fun e w' => e = .returned (.bool (decide (A = B))) ∧ Below w.heap.size w w' := by
  refine (sameInts_any A.length B.length _ _ u v w h k hl).mono ?_
  rintro e w' ⟨rfl, d, rfl⟩
  refine ⟨?_, below_drewN' (Below.refl _ _) d⟩
  congr 2
  rw [Bool.eq_iff_iff, sameI_iff, decide_eq_true_eq]
/-- One value appended at a step of a region that draws. -/
theorem step_app1 {P : Program} {ops : Array Oper} {o : Oper} {a : Act} {w : World} {K : Act → World → Prop} {Q : Exit → Act → World → Prop} {E : Prop} (hw : Region.wanted o (yielded ops a.tmps) = true) (s x : Operand) (t : TypeId)
    (ho : o.op = .call { callee := .builtin .append, args := #[s, x], argTypes := #[t, t] })
    (base : Nat) (e : TypeId) (i : TypeInfo) (z : Value) (bytes : Nat) (ht : P.underlying t = some (.slice e)) (hi : P.info? e = some i) (hz : i.zero = some z)
    (hsize : i.size = 1) (hby : i.bytes = bytes) (hzs : z.cells.size = 1) (v : Value) (n : Nat) (xs : List Value) (hs : a.eval s = v) (hown : w.ownsRow base e 1 v n xs)
    (u : Value) (hu : u.oneCell' = true) (b : Nat) (hx : a.eval x = .slice (some ⟨b, 0, none⟩) 1 1) (hc : w.cell? ⟨b, 0, none⟩ = some u) (hn : n ≤ 1000000000) (hbytes : bytes ≤ 128) (hbase : base ≤ w.heap.size)
    (h : ∀ A' c' w', w'.ownsRow base e 1 (.slice A' (n + 1) c') (n + 1) (xs ++ [u]) → Grew w v w' (.slice A' (n + 1) c') → K (a.put o.dst (.slice A' (n + 1) c')) w') :
    if Region.wanted o (yielded ops a.tmps) = true then Oper.wp P o a w K Q else E := by
  rw [if_pos hw]
  have hb2 : (n + 1) * bytes ≤ 140737488355328 := Nat.le_trans (Nat.mul_le_mul (show n + 1 ≤ 1000000001 by omega) hbytes) (by decide)
  obtain ⟨v', w', hr, h2, h3, _, h5⟩ := run_append_own_at (P := P) w base t o.type e i z 1 bytes ht hi hz hsize hby hzs (by decide) v n xs hown ⟨b, 0, none⟩ 1 1 [u] rfl
    (by
      intro j y hj
      match j, hj with
      | 0, hj =>
        simp at hj; subst hj
        exact hc) (by intro y hy; rw [List.mem_singleton] at hy; subst hy; exact hu) (by unfold maxLen; omega) hb2 hbase
  obtain ⟨A', c', rfl⟩ := own_form h2
  unfold Oper.wp execOp
  simp only [ho, resolve, invoke, builtin, Sem.run_bind, Sem.run_pure, Result.andThen_ok, List.map_toArray, List.map_cons, List.map_nil, hs, hx, hr]
  refine h A' c' w' h2 ⟨h3, ?_⟩
  rcases h5 with h5 | h5
  · exact Or.inl h5
  · exact Or.inr ⟨_, h5, Nat.le_refl _⟩
end
end

section
open Go.RowKit

theorem RowsOwn.base {w : World} {base base' : Nat} {v : Value} {C : List (List Int)} (h : RowsOwn w base v C) (hb : base' ≤ base) : RowsOwn w base' v C := by
  obtain ⟨us, h, hr⟩ := h
  exact ⟨us, own_base h hb, fun i u L hu hL => own_base (hr i u L hu hL) hb⟩
theorem rows_first (w : World) : RowsOwn ((w.alloc (.cells #[] 3)).alloc (.cells #[.slice (some ⟨w.heap.size, 0, none⟩) 0 0] 23)) w.heap.size (.slice (some ⟨w.heap.size + 1, 0, none⟩) 1 1) [[]] := by
  have h0 := World.ownsRow_lit (base := w.heap.size) (e := 3) (size := 1) w #[] 0 (Nat.le_refl _) (by unfold maxLen; omega) rfl
  have h1 := World.ownsRow_lit (base := w.heap.size) (e := 23) (size := 1) (w.alloc (.cells #[] 3)) #[.slice (some ⟨w.heap.size, 0, none⟩) 0 0] 1 (by simp) (by unfold maxLen; omega) rfl
  rw [World.size_alloc] at h1
  refine ⟨_, h1, fun i u L hu hL => ?_⟩
  rcases (by omega : i = 0 ∨ 1 ≤ i) with rfl | hi
  · simp at hu hL
    subst hu hL
    exact own_below h0 ((Below.refl _ _).alloc (Nat.le_refl _) _) (Nat.le_refl _)
  · rw [List.getElem?_eq_none (by simp; omega)] at hL; cases hL
theorem ext_take {C : List (List Int)} {i : Nat} {p R : List Int} {j : Nat} (h : j < R.length) : extP C i p (R.take (j + 1)) = extP C i p (R.take j) ++ (if goesB C i p (R.getD j 0) then [p ++ [R.getD j 0]] else []) := by
  unfold extP
  rw [List.take_succ_eq_append_getElem h, List.filter_append, List.map_append]
  have e : R.getD j 0 = R[j] := by simp [List.getD, h]
  rw [e]
  by_cases hg : goesB C i p R[j] = true
  · rw [List.filter_cons_of_pos hg, if_pos hg]; rfl
  · rw [List.filter_cons_of_neg hg, if_neg hg]; rfl
/-- The lists that k of some lists go on to. -/
def nextP (C : List (List Int)) (i : Nat) (R : List Int) (D : List (List Int)) (k : Nat) : List (List Int) := (D.take k).flatMap fun p => extP C i p R
theorem next_succ {C : List (List Int)} {i : Nat} {R : List Int} {D : List (List Int)} {k : Nat} (h : k < D.length) : nextP C i R D (k + 1) = nextP C i R D k ++ extP C i D[k] R := by
  unfold nextP
  rw [List.take_succ_eq_append_getElem h, List.flatMap_append]
  simp

set_option maxRecDepth 100000 in
set_option maxHeartbeats 16000000 in
theorem refPaths_any (C : List (List Int)) (n : Nat) (v : Value) (w : World) (hv : ListsV w v C) (hC : C.length ≤ 12) (hL : ∀ l ∈ C, l.length = n) (hn : n ≤ 5) :
    Calls Tryz.prog 11 #[v, .int .i64 n] w fun e w' => ∃ v', e = .returned v' ∧ ListsV w' v' (prefP C n) ∧ Below w.heap.size w w' := by
  obtain ⟨j1, hi1, ky0, ky1, ky2⟩ := info_parts Tryz.infoInt6
  obtain ⟨j2, hi2, kz0, kz1, kz2⟩ := info_parts Tryz.infoRow
  obtain ⟨Al, cl, rfl⟩ := hv.form
  have HCL := Lib.hid hC; have HL := Lib.hid hL
  have HR0 := Lib.hid (rows_first w)
  have HB0 : Hid (Below w.heap.size w ((w.alloc (.cells #[] 3)).alloc (.cells #[.slice (some ⟨w.heap.size, 0, none⟩) 0 0] 23))) := Lib.hid (((Below.refl _ _).alloc (Nat.le_refl _) _).alloc (by simp) _)
  obtain ⟨cN, hcN⟩ : ∃ x, C.length = x := ⟨_, rfl⟩
  rw [hcN] at hv ⊢
  have HV := Lib.hid hv
  clear hv hC hL hcN
  go_enter Tryz.func11, Tryz.ntmps11
  go_wp2_with fail
  go_loopg [5, 6] n (fun g x y wr => ∃ i, i ≤ n ∧ g = n - i ∧ y = .int .i64 (i : Nat) ∧ RowsOwn wr w.heap.size x (prefP C i) ∧ Below w.heap.size w wr)
  case atStart => exact ⟨0, Nat.zero_le _, rfl, rfl, HR0.out, HB0.out⟩
  case round =>
    obtain ⟨i, hi, rfl, rfl, hown, hb⟩ := hrel
    obtain ⟨Ay, cy, rfl⟩ := hown.form
    by_cases hlt : i < n
    · have hfew := pref_few C i
      have h12 : C.length ^ i ≤ 12 ^ 4 := Nat.le_trans (Nat.pow_le_pow_left HCL.out i) (Nat.pow_le_pow_right (by omega) (by omega))
      have hnx : ∀ R, rowP C i = R → prefP C (i + 1) = nextP C i R (prefP C i) (prefP C i).length := fun R hR => by
        rw [← hR, nextP, List.take_length]; rfl
      have hRl := Nat.le_trans (row_len C i) HCL.out
      have heach := pref_len C i
      obtain ⟨D, hD⟩ : ∃ D, prefP C i = D := ⟨_, rfl⟩
      rw [hD] at hown hfew hnx heach ⊢
      obtain ⟨q, hq⟩ : ∃ q, D.length = q := ⟨_, rfl⟩
      rw [hq] at hfew hnx ⊢
      have hq4 : q ≤ 20736 := Nat.le_trans hfew (Nat.le_trans h12 (by decide))
      have ROW := Lib.hid (refRow_any C n i _ wr (HV.out.below hb (Nat.le_refl _)) (by have := HCL.out; omega) HL.out hlt)
      have t1 : decide (i < n) = true := decide_eq_true hlt
      have HOWN := Lib.hid hown; have HB := Lib.hid hb; have HQ := Lib.hid hq; have HNX := Lib.hid hnx; have HLT := Lib.hid hlt; have HEACH := Lib.hid heach
      clear hown hb hq hnx hlt hfew h12 hD heach
      go_wp2_with fail
      refine ROW.out.mono ?_; rintro e w1 ⟨vr, rfl, hvr, hb1⟩
      have HW1 := Lib.hid (HB.out.trans (hb1.mono HB.out.size))
      have HO1 := Lib.hid (HOWN.out.below hb1 (Nat.le_refl _))
      obtain ⟨R, hR⟩ : ∃ R, rowP C i = R := ⟨_, rfl⟩
      have HRP := Lib.hid (HNX.out R hR)
      rw [hR] at hvr hRl
      obtain ⟨s, hs⟩ : ∃ s, R.length = s := ⟨_, rfl⟩
      obtain ⟨hvs, Ar, cr, rfl, _⟩ := id hvr
      rw [hs] at hvs hRl ⊢
      have HVR := Lib.hid hvs; have HS := Lib.hid hs
      clear hvr hvs hR hs hb1 ROW
      go_wp2_with fail
      go_loopg [8, 9] q (fun g x y wr => ∃ k O, k ≤ q ∧ g = q - k ∧ y = .int .i64 (k : Nat) ∧ RowsOwn wr w1.heap.size x O ∧ O = nextP C i R D k ∧ O.length ≤ 12 * k ∧ Below w1.heap.size w1 wr)
      case atStart => exact ⟨0, [], Nat.zero_le _, rfl, rfl, RowsOwn.nil _ _, rfl, Nat.zero_le _, Below.refl _ _⟩
      case round =>
        obtain ⟨k, O, hk, rfl, rfl, hown, hO, hlen, hb⟩ := hrel
        obtain ⟨Az, cz, rfl⟩ := hown.form
        have HOW := Lib.hid hown; have HO := Lib.hid hO; have HB1 := Lib.hid hb; have HOL := Lib.hid hlen
        by_cases hlk : k < q
        · have t2 : decide (k < q) = true := decide_eq_true hlk
          have HLK := Lib.hid hlk
          have i1 : (k : Int) < q := by omega
          have i2 : (0 : Int) ≤ k := by omega
          clear hown hO hb hlk hlen
          go_wp2_with fail
          go_loopg [8, 10] s (fun g x y wr => ∃ j P, j ≤ s ∧ g = s - j ∧ y = .int .i64 (j : Nat) ∧ RowsOwn wr w1.heap.size x P ∧ P = nextP C i R D k ++ extP C i (D.getD k []) (R.take j) ∧ P.length ≤ 12 * k + j ∧ Below w1.heap.size w1 wr)
          case atStart => exact ⟨0, O, Nat.zero_le _, rfl, rfl, HOW.out, by rw [HO.out]; simp [extP], by have := HOL.out; omega, HB1.out⟩
          case round =>
            obtain ⟨j, P, hj, rfl, rfl, hrow, hP, hPl, hbr⟩ := hrel
            obtain ⟨Ap, cp, rfl⟩ := hrow.form
            by_cases hjt : j < s
            · have hkD : k < D.length := by rw [HQ.out]; exact HLK.out
              obtain ⟨bo, oo, uo, rfl, hco, huo⟩ := HO1.out.lists.pos hkD
              have hXl := HEACH.out D[k] (List.getElem_mem _)
              have eX : D.getD k [] = D[k] := by simp [List.getD, hkD]
              obtain ⟨X, hX⟩ : ∃ X, D[k] = X := ⟨_, rfl⟩
              rw [eX, hX] at hP
              rw [hX] at huo hXl
              obtain ⟨hxs, Ax, cx, rfl, _⟩ := huo
              obtain ⟨px, hpx⟩ : ∃ p, X.length = p := ⟨_, rfl⟩
              rw [hpx] at hco hxs hXl
              have hpx5 : px ≤ 5 := by omega
              have HXL0 := Lib.hid hXl
              clear hXl
              obtain ⟨bg, og, rfl, hcg⟩ := HVR.out.pos (i := j) (by rw [HS.out]; exact hjt)
              have hext := ext_take (C := C) (i := i) (p := X) (R := R) (j := j) (by rw [HS.out]; exact hjt)
              obtain ⟨u, hu⟩ : ∃ u, R.getD j 0 = u := ⟨_, rfl⟩
              have hcg : w1.cell? ⟨bg, og + j, none⟩ = some (.int .i64 u) := by rw [← hu]; exact hcg
              rw [hu] at hext
              obtain ⟨B, hB⟩ : ∃ B, goesB C i X u = B := ⟨_, rfl⟩
              rw [hB] at hext
              have HKS1 := Lib.hid (fun (W : World) (hb : Below w1.heap.size w1 W) => (show Below w1.heap.size w1 W ∧ W.cell? ⟨bo, oo + k, none⟩ = some (.slice Ax px cx) ∧ W.cell? ⟨bg, og + j, none⟩ = some (.int .i64 u) from ⟨hb, cell_below hco hb (Nat.le_refl _), cell_below hcg hb (Nat.le_refl _)⟩))
              have HXS := Lib.hid hxs
              have HCO := Lib.hid hco; have HCG := Lib.hid hcg
              have HROW := Lib.hid hrow; have HP := Lib.hid hP; have HBR := Lib.hid hbr; have HPL := Lib.hid hPl; have HEXT := Lib.hid hext; have HJT := Lib.hid hjt; have HPX := Lib.hid hpx; have HGB := Lib.hid hB; have HEX := Lib.hid (show D.getD k [] = X by rw [eX, hX])
              have t3 : decide (j < s) = true := decide_eq_true hjt
              have m1 : (j : Int) < s := by omega
              have m2 : (0 : Int) ≤ j := by omega
              clear hkD hco hcg hX eX hxs hpx hu hB hext hrow hP hbr hjt
              obtain ⟨z, hz⟩ : ∃ z, P.length = z := ⟨_, rfl⟩
              rw [hz] at hPl HPL ⊢
              have HZ := Lib.hid hz
              have z1 : z ≤ 12 * k + j := hPl
              clear hz hPl
              go_upto_region 13 with fail
              go_cut [52] (fun x wx => x = .bool B ∧ Below wr.heap.size wr wx)
              case first =>
                by_cases hi0 : i = 0
                · have hBt : B = true := by rw [← HGB.out, hi0]; rfl
                  have t4 : ((i : Int) == 0) = true := by simp [hi0]
                  have t4' : (i == 0) = true := by simp [hi0]
                  subst hBt
                  clear hi0
                  refine wp_region_held_drew (S := fun _ => True) (by kernel_rfl) ?_ (fun hHeld => ?_)
                  · (try dsimp only); all_goals trivial
                  refine wpAnyH_take (i := 0) (oi := ({ dst := some 33, op := Op.move (Operand.tmp 6), type := 3, pos := "ref.go:47", after := #[], guard := none } : Oper)) (v := ?vgb1) rfl (by kernel_rfl) (by kernel_rfl) (by kernel_rfl) (fun _ _ _ h => h) (Or.inl ⟨by rfl, ?hygb1⟩) (by assumption) ?restgb1
                  case hygb1 => intro w hSw; (try dsimp only at hSw); go_simp; all_goals (with_reducible rfl)
                  try simp only [Act.put, List.setIfInBounds_toArray, List.set_cons_zero, List.set_cons_succ]
                  refine wpAnyH_take (i := 1) (oi := ({ dst := some 34, op := Op.binOp BinOp.eql 3 (Operand.tmp 33) (Operand.const (Value.int IntKind.i64 0)) 3, type := 4, pos := "ref.go:47", after := #[{ on := 0, ground := Ground.data }], guard := none } : Oper)) (v := ?vgb2) rfl (by kernel_rfl) (by kernel_rfl) (by kernel_rfl) (fun _ _ _ h => h) (Or.inl ⟨by rfl, ?hygb2⟩) (by assumption) ?restgb2
                  case hygb2 => intro w hSw; (try dsimp only at hSw); go_simp; all_goals (with_reducible rfl)
                  try simp only [Act.put, List.setIfInBounds_toArray, List.set_cons_zero, List.set_cons_succ]
                  refine wpAnyH_take (i := 2) (oi := ({ dst := some 35, op := Op.move (Operand.tmp 34), type := 4, pos := "ref.go:47", after := #[{ on := 1, ground := Ground.data }], guard := none } : Oper)) (v := ?vgb3) rfl (by kernel_rfl) (by kernel_rfl) (by kernel_rfl) (fun _ _ _ h => h) (Or.inl ⟨by rfl, ?hygb3⟩) (by assumption) ?restgb3
                  case hygb3 => intro w hSw; (try dsimp only at hSw); go_simp; all_goals (with_reducible rfl)
                  try simp only [Act.put, List.setIfInBounds_toArray, List.set_cons_zero, List.set_cons_succ]
                  refine wpAnyH_take (i := 3) (oi := ({ dst := some 36, op := Op.move (Operand.tmp 0), type := 22, pos := "ref.go:47", after := #[{ on := 2, ground := Ground.guard }], guard := some (2, false) } : Oper)) (v := undef) rfl (by kernel_rfl) (by kernel_rfl) (by kernel_rfl) (fun _ _ _ h => h) (Or.inr ⟨by rfl, rfl⟩) (by assumption) ?_
                  try simp only [Act.put, List.setIfInBounds_toArray, List.set_cons_zero, List.set_cons_succ]
                  refine wpAnyH_take (i := 4) (oi := ({ dst := some 37, op := Op.move (Operand.tmp 6), type := 3, pos := "ref.go:47", after := #[{ on := 2, ground := Ground.guard }], guard := some (2, false) } : Oper)) (v := undef) rfl (by kernel_rfl) (by kernel_rfl) (by kernel_rfl) (fun _ _ _ h => h) (Or.inr ⟨by rfl, rfl⟩) (by assumption) ?_
                  try simp only [Act.put, List.setIfInBounds_toArray, List.set_cons_zero, List.set_cons_succ]
                  refine wpAnyH_take (i := 5) (oi := ({ dst := some 38, op := Op.binOp BinOp.sub 3 (Operand.tmp 37) (Operand.const (Value.int IntKind.i64 1)) 3, type := 3, pos := "ref.go:47", after := #[{ on := 4, ground := Ground.data }, { on := 2, ground := Ground.guard }], guard := some (2, false) } : Oper)) (v := undef) rfl (by kernel_rfl) (by kernel_rfl) (by kernel_rfl) (fun _ _ _ h => h) (Or.inr ⟨by rfl, rfl⟩) (by assumption) ?_
                  try simp only [Act.put, List.setIfInBounds_toArray, List.set_cons_zero, List.set_cons_succ]
                  refine wpAnyH_take (i := 6) (oi := ({ dst := some 39, op := Op.move (Operand.tmp 5), type := 22, pos := "ref.go:47", after := #[{ on := 2, ground := Ground.guard }], guard := some (2, false) } : Oper)) (v := undef) rfl (by kernel_rfl) (by kernel_rfl) (by kernel_rfl) (fun _ _ _ h => h) (Or.inr ⟨by rfl, rfl⟩) (by assumption) ?_
                  try simp only [Act.put, List.setIfInBounds_toArray, List.set_cons_zero, List.set_cons_succ]
                  refine wpAnyH_take (i := 7) (oi := ({ dst := some 40, op := Op.move (Operand.tmp 9), type := 3, pos := "ref.go:47", after := #[{ on := 2, ground := Ground.guard }], guard := some (2, false) } : Oper)) (v := undef) rfl (by kernel_rfl) (by kernel_rfl) (by kernel_rfl) (fun _ _ _ h => h) (Or.inr ⟨by rfl, rfl⟩) (by assumption) ?_
                  try simp only [Act.put, List.setIfInBounds_toArray, List.set_cons_zero, List.set_cons_succ]
                  refine wpAnyH_take (i := 8) (oi := ({ dst := some 41, op := Op.indexAddr 22 (Operand.tmp 39) (Operand.tmp 40), type := 0, pos := "ref.go:47", after := #[{ on := 6, ground := Ground.data }, { on := 7, ground := Ground.data }, { on := 2, ground := Ground.guard }], guard := some (2, false) } : Oper)) (v := undef) rfl (by kernel_rfl) (by kernel_rfl) (by kernel_rfl) (fun _ _ _ h => h) (Or.inr ⟨by rfl, rfl⟩) (by assumption) ?_
                  try simp only [Act.put, List.setIfInBounds_toArray, List.set_cons_zero, List.set_cons_succ]
                  refine wpAnyH_take (i := 9) (oi := ({ dst := some 42, op := Op.load 23 (Operand.tmp 41), type := 23, pos := "ref.go:47", after := #[{ on := 8, ground := Ground.data }, { on := 2, ground := Ground.guard }], guard := some (2, false) } : Oper)) (v := undef) rfl (by kernel_rfl) (by kernel_rfl) (by kernel_rfl) (fun _ _ _ h => h) (Or.inr ⟨by rfl, rfl⟩) (by assumption) ?_
                  try simp only [Act.put, List.setIfInBounds_toArray, List.set_cons_zero, List.set_cons_succ]
                  refine wpAnyH_take (i := 10) (oi := ({ dst := some 43, op := Op.move (Operand.tmp 6), type := 3, pos := "ref.go:47", after := #[{ on := 2, ground := Ground.guard }], guard := some (2, false) } : Oper)) (v := undef) rfl (by kernel_rfl) (by kernel_rfl) (by kernel_rfl) (fun _ _ _ h => h) (Or.inr ⟨by rfl, rfl⟩) (by assumption) ?_
                  try simp only [Act.put, List.setIfInBounds_toArray, List.set_cons_zero, List.set_cons_succ]
                  refine wpAnyH_take (i := 11) (oi := ({ dst := some 44, op := Op.binOp BinOp.sub 3 (Operand.tmp 43) (Operand.const (Value.int IntKind.i64 1)) 3, type := 3, pos := "ref.go:47", after := #[{ on := 10, ground := Ground.data }, { on := 2, ground := Ground.guard }], guard := some (2, false) } : Oper)) (v := undef) rfl (by kernel_rfl) (by kernel_rfl) (by kernel_rfl) (fun _ _ _ h => h) (Or.inr ⟨by rfl, rfl⟩) (by assumption) ?_
                  try simp only [Act.put, List.setIfInBounds_toArray, List.set_cons_zero, List.set_cons_succ]
                  refine wpAnyH_take (i := 12) (oi := ({ dst := some 45, op := Op.indexAddr 23 (Operand.tmp 42) (Operand.tmp 44), type := 0, pos := "ref.go:47", after := #[{ on := 9, ground := Ground.data }, { on := 11, ground := Ground.data }, { on := 2, ground := Ground.guard }], guard := some (2, false) } : Oper)) (v := undef) rfl (by kernel_rfl) (by kernel_rfl) (by kernel_rfl) (fun _ _ _ h => h) (Or.inr ⟨by rfl, rfl⟩) (by assumption) ?_
                  try simp only [Act.put, List.setIfInBounds_toArray, List.set_cons_zero, List.set_cons_succ]
                  refine wpAnyH_take (i := 13) (oi := ({ dst := some 46, op := Op.load 3 (Operand.tmp 45), type := 3, pos := "ref.go:47", after := #[{ on := 12, ground := Ground.data }, { on := 2, ground := Ground.guard }], guard := some (2, false) } : Oper)) (v := undef) rfl (by kernel_rfl) (by kernel_rfl) (by kernel_rfl) (fun _ _ _ h => h) (Or.inr ⟨by rfl, rfl⟩) (by assumption) ?_
                  try simp only [Act.put, List.setIfInBounds_toArray, List.set_cons_zero, List.set_cons_succ]
                  refine wpAnyH_take (i := 14) (oi := ({ dst := some 47, op := Op.move (Operand.tmp 7), type := 23, pos := "ref.go:47", after := #[{ on := 2, ground := Ground.guard }], guard := some (2, false) } : Oper)) (v := undef) rfl (by kernel_rfl) (by kernel_rfl) (by kernel_rfl) (fun _ _ _ h => h) (Or.inr ⟨by rfl, rfl⟩) (by assumption) ?_
                  try simp only [Act.put, List.setIfInBounds_toArray, List.set_cons_zero, List.set_cons_succ]
                  refine wpAnyH_take (i := 15) (oi := ({ dst := some 48, op := Op.move (Operand.tmp 10), type := 3, pos := "ref.go:47", after := #[{ on := 2, ground := Ground.guard }], guard := some (2, false) } : Oper)) (v := undef) rfl (by kernel_rfl) (by kernel_rfl) (by kernel_rfl) (fun _ _ _ h => h) (Or.inr ⟨by rfl, rfl⟩) (by assumption) ?_
                  try simp only [Act.put, List.setIfInBounds_toArray, List.set_cons_zero, List.set_cons_succ]
                  refine wpAnyH_take (i := 16) (oi := ({ dst := some 49, op := Op.indexAddr 23 (Operand.tmp 47) (Operand.tmp 48), type := 0, pos := "ref.go:47", after := #[{ on := 14, ground := Ground.data }, { on := 15, ground := Ground.data }, { on := 2, ground := Ground.guard }], guard := some (2, false) } : Oper)) (v := undef) rfl (by kernel_rfl) (by kernel_rfl) (by kernel_rfl) (fun _ _ _ h => h) (Or.inr ⟨by rfl, rfl⟩) (by assumption) ?_
                  try simp only [Act.put, List.setIfInBounds_toArray, List.set_cons_zero, List.set_cons_succ]
                  refine wpAnyH_take (i := 17) (oi := ({ dst := some 50, op := Op.load 3 (Operand.tmp 49), type := 3, pos := "ref.go:47", after := #[{ on := 16, ground := Ground.data }, { on := 2, ground := Ground.guard }], guard := some (2, false) } : Oper)) (v := undef) rfl (by kernel_rfl) (by kernel_rfl) (by kernel_rfl) (fun _ _ _ h => h) (Or.inr ⟨by rfl, rfl⟩) (by assumption) ?_
                  try simp only [Act.put, List.setIfInBounds_toArray, List.set_cons_zero, List.set_cons_succ]
                  refine wpAnyH_take (i := 18) (oi := ({ dst := some 51, op := Op.call { callee := Callee.value (Operand.func 29), args := #[Operand.tmp 36, Operand.tmp 38, Operand.tmp 46, Operand.tmp 50], argTypes := #[22, 3, 3, 3] }, type := 4, pos := "ref.go:47", after := #[{ on := 3, ground := Ground.data }, { on := 5, ground := Ground.data }, { on := 13, ground := Ground.data }, { on := 17, ground := Ground.data }, { on := 2, ground := Ground.chain }, { on := 2, ground := Ground.guard }], guard := some (2, false) } : Oper)) (v := undef) rfl (by kernel_rfl) (by kernel_rfl) (by kernel_rfl) (fun _ _ _ h => h) (Or.inr ⟨by rfl, rfl⟩) (by assumption) ?_
                  try simp only [Act.put, List.setIfInBounds_toArray, List.set_cons_zero, List.set_cons_succ]
                  refine wpAnyH_take (i := 19) (oi := ({ dst := some 52, op := Op.pick (Operand.tmp 35) (Operand.const (Value.bool true)) (Operand.tmp 51), type := 4, pos := "ref.go:47", after := #[{ on := 2, ground := Ground.data }, { on := 18, ground := Ground.data }], guard := none } : Oper)) (v := ?vgb20) rfl (by kernel_rfl) (by kernel_rfl) (by kernel_rfl) (fun _ _ _ h => h) (Or.inl ⟨by rfl, ?hygb20⟩) (by assumption) ?restgb20
                  case hygb20 => intro w hSw; (try dsimp only at hSw); go_simp; all_goals (with_reducible rfl)
                  try simp only [Act.put, List.setIfInBounds_toArray, List.set_cons_zero, List.set_cons_succ]
                  refine wpAnyH_done (by kernel_rfl) ?_ _
                  go_wp2_with fail
                  go_meet
                  exact ⟨rfl, below_drewN' (Below.refl _ _) 1⟩
                · obtain ⟨i', rfl⟩ : ∃ i', i = i' + 1 := ⟨i - 1, by omega⟩
                  obtain ⟨u1, hu1⟩ : ∃ u1, X.getD i' 0 = u1 := ⟨_, rfl⟩
                  have hBB : (linkP C i' u1).contains u = B := by
                    rw [← HGB.out, ← hu1]; rfl
                  obtain ⟨bx, ox, rfl, hcx⟩ := HXS.out.pos (i := i') (by rw [HPX.out, HXL0.out]; omega)
                  have hcx : w1.cell? ⟨bx, ox + i', none⟩ = some (.int .i64 u1) := by rw [← hu1]; exact hcx
                  have LK := fun W (hW : Below w1.heap.size w1 W) => refLinked_any C n i' u1 u _ W (HV.out.below (HW1.out.trans (hW.mono HW1.out.size)) (Nat.le_refl _)) (by have := HCL.out; omega) HL.out HLT.out (by omega)
                  rw [hBB] at LK
                  have HLK := Lib.hid LK
                  have HKS := Lib.hid (fun W (hW : Below wr.heap.size wr W) => And.intro (HKS1.out W (HBR.out.trans (hW.mono HBR.out.size))).2.1 (And.intro (cell_below hcx (HBR.out.trans (hW.mono HBR.out.size)) (Nat.le_refl _)) (HKS1.out W (HBR.out.trans (hW.mono HBR.out.size))).2.2))
                  have t4 : (((i' + 1 : Nat) : Int) == 0) = false := by simp; omega
                  have t4' : (i' + 1 == 0) = false := by simp
                  have t4'' : ((i' : Int) + 1 == 0) = false := by simp; omega
                  have k1 : (i' : Int) < px := by have := HXL0.out; omega
                  have hwr : IntKind.i64.wrap (i' : Int) = i' := by rw [IntKind.wrap_i64]; omega
                  have k2 : (0 : Int) ≤ i' := by omega
                  have k3 : (i' : Int) ≤ 5 := by omega
                  clear hi0 hu1 hBB hcx LK
                  refine wp_region_held_drew (S := fun W => W.cell? ⟨bo, oo + k, none⟩ = some (.slice (some ⟨bx, ox, none⟩) px cx) ∧ W.cell? ⟨bx, ox + i', none⟩ = some (.int .i64 u1) ∧ W.cell? ⟨bg, og + j, none⟩ = some (.int .i64 u)) (by kernel_rfl) ?_ (fun hHeld => ?_)
                  · (try dsimp only); exact HKS.out _ (below_drewN' (Below.refl wr.heap.size wr) 1)
                  refine wpAnyH_take (i := 0) (oi := ({ dst := some 33, op := Op.move (Operand.tmp 6), type := 3, pos := "ref.go:47", after := #[], guard := none } : Oper)) (v := ?vga1) rfl (by kernel_rfl) (by kernel_rfl) (by kernel_rfl) (fun _ _ _ h => h) (Or.inl ⟨by rfl, ?hyga1⟩) (by assumption) ?restga1
                  case hyga1 => intro w hSw; (try dsimp only at hSw); go_simp; all_goals (with_reducible rfl)
                  try simp only [Act.put, List.setIfInBounds_toArray, List.set_cons_zero, List.set_cons_succ]
                  refine wpAnyH_take (i := 1) (oi := ({ dst := some 34, op := Op.binOp BinOp.eql 3 (Operand.tmp 33) (Operand.const (Value.int IntKind.i64 0)) 3, type := 4, pos := "ref.go:47", after := #[{ on := 0, ground := Ground.data }], guard := none } : Oper)) (v := ?vga2) rfl (by kernel_rfl) (by kernel_rfl) (by kernel_rfl) (fun _ _ _ h => h) (Or.inl ⟨by rfl, ?hyga2⟩) (by assumption) ?restga2
                  case hyga2 => intro w hSw; (try dsimp only at hSw); go_simp; all_goals (with_reducible rfl)
                  try simp only [Act.put, List.setIfInBounds_toArray, List.set_cons_zero, List.set_cons_succ]
                  refine wpAnyH_take (i := 2) (oi := ({ dst := some 35, op := Op.move (Operand.tmp 34), type := 4, pos := "ref.go:47", after := #[{ on := 1, ground := Ground.data }], guard := none } : Oper)) (v := ?vga3) rfl (by kernel_rfl) (by kernel_rfl) (by kernel_rfl) (fun _ _ _ h => h) (Or.inl ⟨by rfl, ?hyga3⟩) (by assumption) ?restga3
                  case hyga3 => intro w hSw; (try dsimp only at hSw); go_simp; all_goals (with_reducible rfl)
                  try simp only [Act.put, List.setIfInBounds_toArray, List.set_cons_zero, List.set_cons_succ]
                  refine wpAnyH_take (i := 3) (oi := ({ dst := some 36, op := Op.move (Operand.tmp 0), type := 22, pos := "ref.go:47", after := #[{ on := 2, ground := Ground.guard }], guard := some (2, false) } : Oper)) (v := ?vga4) rfl (by kernel_rfl) (by kernel_rfl) (by kernel_rfl) (fun _ _ _ h => h) (Or.inl ⟨by rfl, ?hyga4⟩) (by assumption) ?restga4
                  case hyga4 => intro w hSw; (try dsimp only at hSw); go_simp; all_goals (with_reducible rfl)
                  try simp only [Act.put, List.setIfInBounds_toArray, List.set_cons_zero, List.set_cons_succ]
                  refine wpAnyH_take (i := 4) (oi := ({ dst := some 37, op := Op.move (Operand.tmp 6), type := 3, pos := "ref.go:47", after := #[{ on := 2, ground := Ground.guard }], guard := some (2, false) } : Oper)) (v := ?vga5) rfl (by kernel_rfl) (by kernel_rfl) (by kernel_rfl) (fun _ _ _ h => h) (Or.inl ⟨by rfl, ?hyga5⟩) (by assumption) ?restga5
                  case hyga5 => intro w hSw; (try dsimp only at hSw); go_simp; all_goals (with_reducible rfl)
                  try simp only [Act.put, List.setIfInBounds_toArray, List.set_cons_zero, List.set_cons_succ]
                  refine wpAnyH_take (i := 5) (oi := ({ dst := some 38, op := Op.binOp BinOp.sub 3 (Operand.tmp 37) (Operand.const (Value.int IntKind.i64 1)) 3, type := 3, pos := "ref.go:47", after := #[{ on := 4, ground := Ground.data }, { on := 2, ground := Ground.guard }], guard := some (2, false) } : Oper)) (v := ?vga6) rfl (by kernel_rfl) (by kernel_rfl) (by kernel_rfl) (fun _ _ _ h => h) (Or.inl ⟨by rfl, ?hyga6⟩) (by assumption) ?restga6
                  case hyga6 => intro w hSw; (try dsimp only at hSw); go_simp; all_goals (with_reducible rfl)
                  try simp only [Act.put, List.setIfInBounds_toArray, List.set_cons_zero, List.set_cons_succ]
                  refine wpAnyH_take (i := 6) (oi := ({ dst := some 39, op := Op.move (Operand.tmp 5), type := 22, pos := "ref.go:47", after := #[{ on := 2, ground := Ground.guard }], guard := some (2, false) } : Oper)) (v := ?vga7) rfl (by kernel_rfl) (by kernel_rfl) (by kernel_rfl) (fun _ _ _ h => h) (Or.inl ⟨by rfl, ?hyga7⟩) (by assumption) ?restga7
                  case hyga7 => intro w hSw; (try dsimp only at hSw); go_simp; all_goals (with_reducible rfl)
                  try simp only [Act.put, List.setIfInBounds_toArray, List.set_cons_zero, List.set_cons_succ]
                  refine wpAnyH_take (i := 7) (oi := ({ dst := some 40, op := Op.move (Operand.tmp 9), type := 3, pos := "ref.go:47", after := #[{ on := 2, ground := Ground.guard }], guard := some (2, false) } : Oper)) (v := ?vga8) rfl (by kernel_rfl) (by kernel_rfl) (by kernel_rfl) (fun _ _ _ h => h) (Or.inl ⟨by rfl, ?hyga8⟩) (by assumption) ?restga8
                  case hyga8 => intro w hSw; (try dsimp only at hSw); go_simp; all_goals (with_reducible rfl)
                  try simp only [Act.put, List.setIfInBounds_toArray, List.set_cons_zero, List.set_cons_succ]
                  refine wpAnyH_take (i := 8) (oi := ({ dst := some 41, op := Op.indexAddr 22 (Operand.tmp 39) (Operand.tmp 40), type := 0, pos := "ref.go:47", after := #[{ on := 6, ground := Ground.data }, { on := 7, ground := Ground.data }, { on := 2, ground := Ground.guard }], guard := some (2, false) } : Oper)) (v := ?vga9) rfl (by kernel_rfl) (by kernel_rfl) (by kernel_rfl) (fun _ _ _ h => h) (Or.inl ⟨by rfl, ?hyga9⟩) (by assumption) ?restga9
                  case hyga9 => intro w hSw; (try dsimp only at hSw); go_simp; all_goals (with_reducible rfl)
                  try simp only [Act.put, List.setIfInBounds_toArray, List.set_cons_zero, List.set_cons_succ]
                  refine wpAnyH_take (i := 9) (oi := ({ dst := some 42, op := Op.load 23 (Operand.tmp 41), type := 23, pos := "ref.go:47", after := #[{ on := 8, ground := Ground.data }, { on := 2, ground := Ground.guard }], guard := some (2, false) } : Oper)) (v := ?vga10) rfl (by kernel_rfl) (by kernel_rfl) (by kernel_rfl) (fun _ _ _ h => h) (Or.inl ⟨by rfl, ?hyga10⟩) (by assumption) ?restga10
                  case hyga10 => intro w hSw; (try dsimp only at hSw); go_simp; all_goals (with_reducible rfl)
                  try simp only [Act.put, List.setIfInBounds_toArray, List.set_cons_zero, List.set_cons_succ]
                  refine wpAnyH_take (i := 10) (oi := ({ dst := some 43, op := Op.move (Operand.tmp 6), type := 3, pos := "ref.go:47", after := #[{ on := 2, ground := Ground.guard }], guard := some (2, false) } : Oper)) (v := ?vga11) rfl (by kernel_rfl) (by kernel_rfl) (by kernel_rfl) (fun _ _ _ h => h) (Or.inl ⟨by rfl, ?hyga11⟩) (by assumption) ?restga11
                  case hyga11 => intro w hSw; (try dsimp only at hSw); go_simp; all_goals (with_reducible rfl)
                  try simp only [Act.put, List.setIfInBounds_toArray, List.set_cons_zero, List.set_cons_succ]
                  refine wpAnyH_take (i := 11) (oi := ({ dst := some 44, op := Op.binOp BinOp.sub 3 (Operand.tmp 43) (Operand.const (Value.int IntKind.i64 1)) 3, type := 3, pos := "ref.go:47", after := #[{ on := 10, ground := Ground.data }, { on := 2, ground := Ground.guard }], guard := some (2, false) } : Oper)) (v := ?vga12) rfl (by kernel_rfl) (by kernel_rfl) (by kernel_rfl) (fun _ _ _ h => h) (Or.inl ⟨by rfl, ?hyga12⟩) (by assumption) ?restga12
                  case hyga12 => intro w hSw; (try dsimp only at hSw); go_simp; all_goals (with_reducible rfl)
                  try simp only [Act.put, List.setIfInBounds_toArray, List.set_cons_zero, List.set_cons_succ]
                  refine wpAnyH_take (i := 12) (oi := ({ dst := some 45, op := Op.indexAddr 23 (Operand.tmp 42) (Operand.tmp 44), type := 0, pos := "ref.go:47", after := #[{ on := 9, ground := Ground.data }, { on := 11, ground := Ground.data }, { on := 2, ground := Ground.guard }], guard := some (2, false) } : Oper)) (v := ?vga13) rfl (by kernel_rfl) (by kernel_rfl) (by kernel_rfl) (fun _ _ _ h => h) (Or.inl ⟨by rfl, ?hyga13⟩) (by assumption) ?restga13
                  case hyga13 => intro w hSw; (try dsimp only at hSw); go_simp; all_goals (with_reducible rfl)
                  try simp only [Act.put, List.setIfInBounds_toArray, List.set_cons_zero, List.set_cons_succ]
                  refine wpAnyH_take (i := 13) (oi := ({ dst := some 46, op := Op.load 3 (Operand.tmp 45), type := 3, pos := "ref.go:47", after := #[{ on := 12, ground := Ground.data }, { on := 2, ground := Ground.guard }], guard := some (2, false) } : Oper)) (v := ?vga14) rfl (by kernel_rfl) (by kernel_rfl) (by kernel_rfl) (fun _ _ _ h => h) (Or.inl ⟨by rfl, ?hyga14⟩) (by assumption) ?restga14
                  case hyga14 => intro w hSw; (try dsimp only at hSw); go_simp; all_goals (with_reducible rfl)
                  try simp only [Act.put, List.setIfInBounds_toArray, List.set_cons_zero, List.set_cons_succ]
                  refine wpAnyH_take (i := 14) (oi := ({ dst := some 47, op := Op.move (Operand.tmp 7), type := 23, pos := "ref.go:47", after := #[{ on := 2, ground := Ground.guard }], guard := some (2, false) } : Oper)) (v := ?vga15) rfl (by kernel_rfl) (by kernel_rfl) (by kernel_rfl) (fun _ _ _ h => h) (Or.inl ⟨by rfl, ?hyga15⟩) (by assumption) ?restga15
                  case hyga15 => intro w hSw; (try dsimp only at hSw); go_simp; all_goals (with_reducible rfl)
                  try simp only [Act.put, List.setIfInBounds_toArray, List.set_cons_zero, List.set_cons_succ]
                  refine wpAnyH_take (i := 15) (oi := ({ dst := some 48, op := Op.move (Operand.tmp 10), type := 3, pos := "ref.go:47", after := #[{ on := 2, ground := Ground.guard }], guard := some (2, false) } : Oper)) (v := ?vga16) rfl (by kernel_rfl) (by kernel_rfl) (by kernel_rfl) (fun _ _ _ h => h) (Or.inl ⟨by rfl, ?hyga16⟩) (by assumption) ?restga16
                  case hyga16 => intro w hSw; (try dsimp only at hSw); go_simp; all_goals (with_reducible rfl)
                  try simp only [Act.put, List.setIfInBounds_toArray, List.set_cons_zero, List.set_cons_succ]
                  refine wpAnyH_take (i := 16) (oi := ({ dst := some 49, op := Op.indexAddr 23 (Operand.tmp 47) (Operand.tmp 48), type := 0, pos := "ref.go:47", after := #[{ on := 14, ground := Ground.data }, { on := 15, ground := Ground.data }, { on := 2, ground := Ground.guard }], guard := some (2, false) } : Oper)) (v := ?vga17) rfl (by kernel_rfl) (by kernel_rfl) (by kernel_rfl) (fun _ _ _ h => h) (Or.inl ⟨by rfl, ?hyga17⟩) (by assumption) ?restga17
                  case hyga17 => intro w hSw; (try dsimp only at hSw); go_simp; all_goals (with_reducible rfl)
                  try simp only [Act.put, List.setIfInBounds_toArray, List.set_cons_zero, List.set_cons_succ]
                  refine wpAnyH_take (i := 17) (oi := ({ dst := some 50, op := Op.load 3 (Operand.tmp 49), type := 3, pos := "ref.go:47", after := #[{ on := 16, ground := Ground.data }, { on := 2, ground := Ground.guard }], guard := some (2, false) } : Oper)) (v := ?vga18) rfl (by kernel_rfl) (by kernel_rfl) (by kernel_rfl) (fun _ _ _ h => h) (Or.inl ⟨by rfl, ?hyga18⟩) (by assumption) ?restga18
                  case hyga18 => intro w hSw; (try dsimp only at hSw); go_simp; all_goals (with_reducible rfl)
                  try simp only [Act.put, List.setIfInBounds_toArray, List.set_cons_zero, List.set_cons_succ]
                  refine wpAnyH_ready (rs := [18]) (by kernel_rfl) (by simp) ?_
                  refine (AllReadyH.cons (o := ({ dst := some 51, op := Op.call { callee := Callee.value (Operand.func 29), args := #[Operand.tmp 36, Operand.tmp 38, Operand.tmp 46, Operand.tmp 50], argTypes := #[22, 3, 3, 3] }, type := 4, pos := "ref.go:47", after := #[{ on := 3, ground := Ground.data }, { on := 5, ground := Ground.data }, { on := 13, ground := Ground.data }, { on := 17, ground := Ground.data }, { on := 2, ground := Ground.chain }, { on := 2, ground := Ground.guard }], guard := some (2, false) } : Oper)) rfl (fun K hK => ?_) AllReadyH.nil)
                  go_simp
                  refine (HLK.out _ (HBR.out.trans ((below_drewN' (Below.refl wr.heap.size wr) 1).mono HBR.out.size))).mono ?_; rintro e' wL ⟨rfl, rfl⟩
                  refine hK.out _ _ ?_ (fun hHeld => ?_)
                  · (try dsimp only); exact HKS.out _ (below_drewN' (Below.refl wr.heap.size wr) 1)
                  clear hK K
                  try simp only [Act.put, List.setIfInBounds_toArray, List.set_cons_zero, List.set_cons_succ]
                  refine wpAnyH_take (i := 19) (oi := ({ dst := some 52, op := Op.pick (Operand.tmp 35) (Operand.const (Value.bool true)) (Operand.tmp 51), type := 4, pos := "ref.go:47", after := #[{ on := 2, ground := Ground.data }, { on := 18, ground := Ground.data }], guard := none } : Oper)) (v := ?vga19) rfl (by kernel_rfl) (by kernel_rfl) (by kernel_rfl) (fun _ _ _ h => h) (Or.inl ⟨by rfl, ?hyga19⟩) (by assumption) ?restga19
                  case hyga19 => intro w hSw; (try dsimp only at hSw); go_simp; all_goals (with_reducible rfl)
                  try simp only [Act.put, List.setIfInBounds_toArray, List.set_cons_zero, List.set_cons_succ]
                  refine wpAnyH_done (by kernel_rfl) ?_ _
                  go_wp2_with fail
                  go_meet
                  exact ⟨rfl, below_drewN' (Below.refl _ _) 1⟩
              case rest =>
                obtain ⟨rfl, hbc⟩ := hcut
                have hbq := HBR.out.trans (hbc.mono HBR.out.size)
                cases B with
                | false =>
                  have HBQ := Lib.hid hbq
                  have HRO := Lib.hid (HROW.out.below hbc (Nat.le_refl _))
                  have HPS : Hid (P = nextP C i R D k ++ extP C i (D.getD k []) (R.take (j + 1))) := Lib.hid (by rw [HEX.out, HEXT.out, HP.out]; simp)
                  clear hbq hbc
                  go_wp2_with fail
                  go_roundg (s - (j + 1))
                  case rel => exact ⟨j + 1, P, HJT.out, rfl, by go_num, by have := HRO.out; rw [HZ.out] at this; exact this, HPS.out, by rw [HZ.out]; omega, HBQ.out⟩
                  case measure => have := HJT.out; omega
                | true =>
                  obtain ⟨us, hus, hrs⟩ := HROW.out.below hbc (Nat.le_refl _)
                  rw [HZ.out] at hus
                  have HUS := Lib.hid hus; have HRS := Lib.hid hrs; have HBQ := Lib.hid hbq
                  have HPS : Hid (nextP C i R D k ++ extP C i (D.getD k []) (R.take (j + 1)) = P ++ [X ++ [u]]) := Lib.hid (by rw [HEX.out, HEXT.out, HP.out]; simp)
                  have HPB := Lib.hid z1
                  have HXL : Hid (X.length ≤ 10) := Lib.hid (by rw [HPX.out]; omega)
                  have HKS := Lib.hid (fun (W : World) (hb : Below wc.heap.size wc W) => HKS1.out W (hbq.trans (hb.mono hbq.size)))
                  have HXC := Lib.hid (fun (W : World) (hb : Below wc.heap.size wc W) => (show SeqV W (.slice Ax px cx) X from HXS.out.below (hbq.trans (hb.mono hbq.size)) (Nat.le_refl _)))
                  clear hus hrs hbq hbc
                  go_upto_region 14 with fail
                  have hls : (wc.drew.alloc (.cells #[.int .i64 u] 3)).heap.size = wc.heap.size + 1 := by first | (rw [World.size_alloc]; rfl) | rw [World.size_alloc]
                  have hlz : (wc.drew.alloc (.cells #[] 3)).heap.size = wc.heap.size + 1 := by first | (rw [World.size_alloc]; rfl) | rw [World.size_alloc]
                  have o3 := own_empty (wc.drew.alloc (.cells #[.int .i64 u] 3)) wc.heap.size (by rw [hls]; exact Nat.le_succ_of_le ((below_drewN' (Below.refl _ _) 1 : Below wc.heap.size wc wc.drew)).size)
                  rw [hls] at o3
                  have OWN3 := Lib.hid o3
                  have lA := cell_new1 (wc.drew.alloc (.cells #[] 3)) u
                  rw [hlz] at lA
                  have LITA := Lib.hid lA
                  have LITB := Lib.hid (show ((wc.drew.alloc (.cells #[.int .i64 u] 3)).alloc (.cells #[] 3)).cell? ⟨wc.heap.size, 0, none⟩ = some (.int .i64 u) from ((Whole.new wc.drew 3 #[.int .i64 u]).alloc (.cells #[] 3)).cell 0)
                  have NEA := Lib.hid (show some (wc.heap.size + 1) ≠ (Value.slice (some ⟨wc.heap.size, 0, none⟩) 0 0).ownBlock from fun e => absurd (Option.some.inj e) (show ¬ (wc.heap.size + 1 = wc.heap.size) by omega))
                  have NEB := Lib.hid (show some wc.heap.size ≠ (Value.slice (some ⟨wc.heap.size + 1, 0, none⟩) 0 0).ownBlock from fun e => absurd (Option.some.inj e) (show ¬ (wc.heap.size = wc.heap.size + 1) by omega))
                  clear hls hlz o3 lA
                  refine wp_region_held_drew (S := fun w' => Below w1.heap.size w1 w' ∧ w'.cell? ⟨bo, oo + k, none⟩ = some (.slice Ax px cx) ∧ w'.cell? ⟨bg, og + j, none⟩ = some (.int .i64 u)) (by kernel_rfl) ?_ (fun hHeld => ?_)
                  · (try dsimp only); exact HKS.out _ (by first | assumption | exact below_drewN' (Below.refl _ _) _)
                  refine wpAnyH_take (i := 0) (oi := ({ dst := some 53, op := Op.move (Operand.tmp 8), type := 22, pos := "ref.go:48", after := #[], guard := none } : Oper)) (v := ?vtc1) rfl (by kernel_rfl) (by kernel_rfl) (by kernel_rfl) (fun _ _ _ h => h) (Or.inl ⟨by rfl, ?hytc1⟩) (by assumption) ?resttc1
                  case hytc1 => intro w hSw; (try dsimp only at hSw); go_simp; all_goals (with_reducible rfl)
                  try simp only [Act.put, List.setIfInBounds_toArray, List.set_cons_zero, List.set_cons_succ]
                  refine wpAnyH_take (i := 2) (oi := ({ dst := some 55, op := Op.move (Operand.tmp 5), type := 22, pos := "ref.go:48", after := #[], guard := none } : Oper)) (v := ?vtc2) rfl (by kernel_rfl) (by kernel_rfl) (by kernel_rfl) (fun _ _ _ h => h) (Or.inl ⟨by rfl, ?hytc2⟩) (by assumption) ?resttc2
                  case hytc2 => intro w hSw; (try dsimp only at hSw); go_simp; all_goals (with_reducible rfl)
                  try simp only [Act.put, List.setIfInBounds_toArray, List.set_cons_zero, List.set_cons_succ]
                  refine wpAnyH_take (i := 3) (oi := ({ dst := some 56, op := Op.move (Operand.tmp 9), type := 3, pos := "ref.go:48", after := #[], guard := none } : Oper)) (v := ?vtc3) rfl (by kernel_rfl) (by kernel_rfl) (by kernel_rfl) (fun _ _ _ h => h) (Or.inl ⟨by rfl, ?hytc3⟩) (by assumption) ?resttc3
                  case hytc3 => intro w hSw; (try dsimp only at hSw); go_simp; all_goals (with_reducible rfl)
                  try simp only [Act.put, List.setIfInBounds_toArray, List.set_cons_zero, List.set_cons_succ]
                  refine wpAnyH_take (i := 4) (oi := ({ dst := some 57, op := Op.indexAddr 22 (Operand.tmp 55) (Operand.tmp 56), type := 0, pos := "ref.go:48", after := #[{ on := 2, ground := Ground.data }, { on := 3, ground := Ground.data }], guard := none } : Oper)) (v := ?vtc4) rfl (by kernel_rfl) (by kernel_rfl) (by kernel_rfl) (fun _ _ _ h => h) (Or.inl ⟨by rfl, ?hytc4⟩) (by assumption) ?resttc4
                  case hytc4 => intro w hSw; (try dsimp only at hSw); go_simp; all_goals (with_reducible rfl)
                  try simp only [Act.put, List.setIfInBounds_toArray, List.set_cons_zero, List.set_cons_succ]
                  refine wpAnyH_take (i := 5) (oi := ({ dst := some 58, op := Op.load 23 (Operand.tmp 57), type := 23, pos := "ref.go:48", after := #[{ on := 4, ground := Ground.data }], guard := none } : Oper)) (v := ?vtc5) rfl (by kernel_rfl) (by kernel_rfl) (by kernel_rfl) (fun _ _ _ h => h) (Or.inl ⟨by rfl, ?hytc5⟩) (by assumption) ?resttc5
                  case hytc5 => intro w hSw; (try dsimp only at hSw); go_simp; all_goals (with_reducible rfl)
                  try simp only [Act.put, List.setIfInBounds_toArray, List.set_cons_zero, List.set_cons_succ]
                  refine wpAnyH_take (i := 7) (oi := ({ dst := some 60, op := Op.move (Operand.tmp 7), type := 23, pos := "ref.go:48", after := #[], guard := none } : Oper)) (v := ?vtc6) rfl (by kernel_rfl) (by kernel_rfl) (by kernel_rfl) (fun _ _ _ h => h) (Or.inl ⟨by rfl, ?hytc6⟩) (by assumption) ?resttc6
                  case hytc6 => intro w hSw; (try dsimp only at hSw); go_simp; all_goals (with_reducible rfl)
                  try simp only [Act.put, List.setIfInBounds_toArray, List.set_cons_zero, List.set_cons_succ]
                  refine wpAnyH_take (i := 8) (oi := ({ dst := some 61, op := Op.move (Operand.tmp 10), type := 3, pos := "ref.go:48", after := #[], guard := none } : Oper)) (v := ?vtc7) rfl (by kernel_rfl) (by kernel_rfl) (by kernel_rfl) (fun _ _ _ h => h) (Or.inl ⟨by rfl, ?hytc7⟩) (by assumption) ?resttc7
                  case hytc7 => intro w hSw; (try dsimp only at hSw); go_simp; all_goals (with_reducible rfl)
                  try simp only [Act.put, List.setIfInBounds_toArray, List.set_cons_zero, List.set_cons_succ]
                  refine wpAnyH_take (i := 9) (oi := ({ dst := some 62, op := Op.indexAddr 23 (Operand.tmp 60) (Operand.tmp 61), type := 0, pos := "ref.go:48", after := #[{ on := 7, ground := Ground.data }, { on := 8, ground := Ground.data }], guard := none } : Oper)) (v := ?vtc8) rfl (by kernel_rfl) (by kernel_rfl) (by kernel_rfl) (fun _ _ _ h => h) (Or.inl ⟨by rfl, ?hytc8⟩) (by assumption) ?resttc8
                  case hytc8 => intro w hSw; (try dsimp only at hSw); go_simp; all_goals (with_reducible rfl)
                  try simp only [Act.put, List.setIfInBounds_toArray, List.set_cons_zero, List.set_cons_succ]
                  refine wpAnyH_take (i := 10) (oi := ({ dst := some 63, op := Op.load 3 (Operand.tmp 62), type := 3, pos := "ref.go:48", after := #[{ on := 9, ground := Ground.data }], guard := none } : Oper)) (v := ?vtc9) rfl (by kernel_rfl) (by kernel_rfl) (by kernel_rfl) (fun _ _ _ h => h) (Or.inl ⟨by rfl, ?hytc9⟩) (by assumption) ?resttc9
                  case hytc9 => intro w hSw; (try dsimp only at hSw); go_simp; all_goals (with_reducible rfl)
                  try simp only [Act.put, List.setIfInBounds_toArray, List.set_cons_zero, List.set_cons_succ]
                  refine wpAnyH_ready (rs := [1, 11]) (by kernel_rfl) (by simp) ?_
                  refine (AllReadyH.cons (o := ({ dst := some 54, op := Op.buildSlice 23 0 #[], type := 23, pos := "ref.go:48", after := #[], guard := none } : Oper)) rfl (fun K hK => ?_) (AllReadyH.cons (o := ({ dst := some 64, op := Op.buildSlice 23 1 #[(0, Operand.tmp 63)], type := 23, pos := "ref.go:48", after := #[{ on := 10, ground := Ground.data }], guard := none } : Oper)) rfl (fun K hK => ?_) AllReadyH.nil))
                  · go_simp
                    refine hK.out _ _ ?_ (fun hHeld => ?_)
                    · (try dsimp only); exact HKS.out _ (((below_drewN' (Below.refl _ _) 1 : Below wc.heap.size wc wc.drew)).alloc ((below_drewN' (Below.refl _ _) 1 : Below wc.heap.size wc wc.drew)).size (.cells #[] 3))
                    clear hK K
                    try simp only [Act.put, List.setIfInBounds_toArray, List.set_cons_zero, List.set_cons_succ]
                    refine wpAnyH_ready (rs := [6, 11]) (by kernel_rfl) (by simp) ?_
                    refine (AllReadyH.cons (o := ({ dst := some 59, op := Op.call { callee := Callee.builtin Builtin.append, args := #[Operand.tmp 54, Operand.tmp 58], argTypes := #[23, 23] }, type := 23, pos := "ref.go:48", after := #[{ on := 1, ground := Ground.data }, { on := 5, ground := Ground.data }], guard := none } : Oper)) rfl (fun K hK => ?_) (AllReadyH.cons (o := ({ dst := some 64, op := Op.buildSlice 23 1 #[(0, Operand.tmp 63)], type := 23, pos := "ref.go:48", after := #[{ on := 10, ground := Ground.data }], guard := none } : Oper)) rfl (fun K hK => ?_) AllReadyH.nil))
                    · have hH := (((below_drewN' (Below.refl _ _) 1 : Below wc.heap.size wc wc.drew)).alloc ((below_drewN' (Below.refl _ _) 1 : Below wc.heap.size wc wc.drew)).size (.cells #[] 3))
                      refine step_appInts (by rfl) _ _ 23 rfl wc.heap.size j1 Tryz.underlying23 hi1 ky0 ky1 ky2 _ 0 _ rfl (own_empty wc.drew wc.heap.size ((below_drewN' (Below.refl _ _) 1 : Below wc.heap.size wc wc.drew)).size) _ X rfl (HXC.out _ hH) (by have := HXL.out; omega) hH.size ?_
                      intro g2 c2 w2 hown2 hgrow2
                      simp only [Nat.zero_add, List.nil_append] at hown2
                      try simp only [Nat.zero_add]
                      have hB2 : Below wc.heap.size wc w2 := hH.grown hgrow2 hH.size (fun k hk => ((own_empty wc.drew wc.heap.size ((below_drewN' (Below.refl _ _) 1 : Below wc.heap.size wc wc.drew)).size).lt k hk).1)
                      refine hK.out _ _ ?_ (fun hHeld => ?_)
                      · (try dsimp only); exact HKS.out _ hB2
                      clear hK K
                      try simp only [Act.put, List.setIfInBounds_toArray, List.set_cons_zero, List.set_cons_succ]
                      refine wpAnyH_ready (rs := [11]) (by kernel_rfl) (by simp) ?_
                      refine (AllReadyH.cons (o := ({ dst := some 64, op := Op.buildSlice 23 1 #[(0, Operand.tmp 63)], type := 23, pos := "ref.go:48", after := #[{ on := 10, ground := Ground.data }], guard := none } : Oper)) rfl (fun K hK => ?_) AllReadyH.nil)
                      go_simp
                      refine hK.out _ _ ?_ (fun hHeld => ?_)
                      · (try dsimp only); exact HKS.out _ (hB2.alloc hB2.size (.cells #[.int .i64 u] 3))
                      clear hK K
                      try simp only [Act.put, List.setIfInBounds_toArray, List.set_cons_zero, List.set_cons_succ]
                      refine wpAnyH_ready (rs := [12]) (by kernel_rfl) (by simp) ?_
                      refine (AllReadyH.cons (o := ({ dst := some 65, op := Op.call { callee := Callee.builtin Builtin.append, args := #[Operand.tmp 59, Operand.tmp 64], argTypes := #[23, 23] }, type := 23, pos := "ref.go:48", after := #[{ on := 6, ground := Ground.data }, { on := 11, ground := Ground.data }, { on := 6, ground := Ground.chain }], guard := none } : Oper)) rfl (fun K hK => ?_) AllReadyH.nil)
                      have hH3 := (hB2.alloc hB2.size (.cells #[.int .i64 u] 3))
                      refine step_appInts (by rfl) _ _ 23 rfl wc.heap.size j1 Tryz.underlying23 hi1 ky0 ky1 ky2 _ X.length _ rfl (hown2.alloc (.cells #[.int .i64 u] 3)) _ [u] rfl (seq_cell1 (cell_new1 w2 u)) (by have := HXL.out; simp; omega) hH3.size ?_
                      intro g4 c4 w6 hown4 hgrow4
                      have hB6 : Below wc.heap.size wc w6 := hH3.grown hgrow4 hH3.size (fun k hk => ((hown2.alloc (.cells #[.int .i64 u] 3)).lt k hk).1)
                      have ho6 : w6.ownsRow wc.heap.size 3 1 (.slice g4 (X.length + 1) c4) (X ++ [u]).length (intCells (X ++ [u])) := by rw [intCells_app, List.length_append]; exact hown4
                      have hs6 : SeqC w6 (.slice g4 (X.length + 1) c4) (X ++ [u]) := own_seqC ho6
                      refine hK.out _ _ ?_ (fun hHeld => ?_)
                      · (try dsimp only); exact HKS.out _ hB6
                      clear hK K
                      try simp only [Act.put, List.setIfInBounds_toArray, List.set_cons_zero, List.set_cons_succ]
                      refine wpAnyH_ready (rs := [13]) (by kernel_rfl) (by simp) ?_
                      refine (AllReadyH.cons (o := ({ dst := some 66, op := Op.buildSlice 22 1 #[(0, Operand.tmp 65)], type := 22, pos := "ref.go:48", after := #[{ on := 12, ground := Ground.data }], guard := none } : Oper)) rfl (fun K hK => ?_) AllReadyH.nil)
                      go_simp
                      refine hK.out _ _ ?_ (fun hHeld => ?_)
                      · (try dsimp only); exact HKS.out _ (hB6.alloc hB6.size _)
                      clear hK K
                      try simp only [Act.put, List.setIfInBounds_toArray, List.set_cons_zero, List.set_cons_succ]
                      refine wpAnyH_ready (rs := [14]) (by kernel_rfl) (by simp) ?_
                      refine (AllReadyH.cons (o := ({ dst := some 67, op := Op.call { callee := Callee.builtin Builtin.append, args := #[Operand.tmp 53, Operand.tmp 66], argTypes := #[22, 22] }, type := 22, pos := "ref.go:48", after := #[{ on := 0, ground := Ground.data }, { on := 13, ground := Ground.data }, { on := 12, ground := Ground.chain }], guard := none } : Oper)) rfl (fun K hK => ?_) AllReadyH.nil)
                      have hBA6 := HBQ.out.trans (hB6.mono HBQ.out.size)
                      have hBA7 := hBA6.alloc hBA6.size (.cells #[.slice g4 (X.length + 1) c4] 23)
                      refine step_app1 (by rfl) _ _ 22 rfl w1.heap.size 23 j2 (.slice none 0 0) 24 Tryz.underlying22 hi2 kz0 kz1 kz2 rfl _ z _ rfl ((own_below HUS.out hB6 (Nat.le_refl _)).alloc (.cells #[.slice g4 (X.length + 1) c4] 23)) (.slice g4 (X.length + 1) c4) rfl w6.heap.size rfl ((Whole.new w6 23 #[.slice g4 (X.length + 1) c4]).cell 0) (by omega) (by omega) hBA7.size ?_
                      intro g8 c8 w8 hown8 hgrow8
                      have hB8 : Below w1.heap.size w1 w8 := hgrow8.below ((own_below HUS.out hB6 (Nat.le_refl _)).alloc (.cells #[.slice g4 (X.length + 1) c4] 23)) hBA7 (Nat.le_refl _) hBA7.size
                      have hR8 : RowsOwn w8 w1.heap.size (.slice g8 (z + 1) c8) (P ++ [X ++ [u]]) := RowsOwn.more (by rw [HZ.out]; exact ((own_below HUS.out hB6 (Nat.le_refl _)).alloc (.cells #[.slice g4 (X.length + 1) c4] 23))) (fun x y M hx hM => (own_below (HRS.out x y M hx hM) hB6 (Nat.le_refl _)).alloc _) (own_base (ho6.alloc (.cells #[.slice g4 (X.length + 1) c4] 23)) HBQ.out.size) (by rw [HZ.out]; exact hown8) hgrow8
                      have hK8 := HKS1.out w8 hB8
                      refine hK.out _ _ ?_ (fun hHeld => ?_)
                      · (try dsimp only); exact hK8
                      clear hK K
                      try simp only [Act.put, List.setIfInBounds_toArray, List.set_cons_zero, List.set_cons_succ]
                      refine wpAnyH_take (i := 15) (oi := ({ dst := some 8, op := Op.assign (Operand.tmp 67), type := 22, pos := "ref.go:48", after := #[{ on := 14, ground := Ground.data }, { on := 14, ground := Ground.chain }, { on := 0, ground := Ground.phase }, { on := 1, ground := Ground.phase }, { on := 2, ground := Ground.phase }, { on := 3, ground := Ground.phase }, { on := 4, ground := Ground.phase }, { on := 5, ground := Ground.phase }, { on := 6, ground := Ground.phase }, { on := 7, ground := Ground.phase }, { on := 8, ground := Ground.phase }, { on := 9, ground := Ground.phase }, { on := 10, ground := Ground.phase }, { on := 11, ground := Ground.phase }, { on := 12, ground := Ground.phase }, { on := 13, ground := Ground.phase }, { on := 14, ground := Ground.phase }], guard := none } : Oper)) (v := ?vtc10) rfl (by kernel_rfl) (by kernel_rfl) (by kernel_rfl) (fun _ _ _ h => h) (Or.inl ⟨by rfl, ?hytc10⟩) (by assumption) ?resttc10
                      case hytc10 => intro w hSw; (try dsimp only at hSw); go_simp; all_goals (with_reducible rfl)
                      try simp only [Act.put, List.setIfInBounds_toArray, List.set_cons_zero, List.set_cons_succ]
                      refine wpAnyH_done (by kernel_rfl) ?_ _
                      go_wp2_with fail
                      go_roundg (s - (j + 1))
                      case rel => exact ⟨j + 1, _, HJT.out, rfl, by go_num, hR8, by rw [HPS.out], by rw [List.length_append, HZ.out]; have := HPB.out; simp; omega, hB8⟩
                      case measure => have := HJT.out; omega
                    · go_simp
                      refine hK.out _ _ ?_ (fun hHeld => ?_)
                      · (try dsimp only); exact HKS.out _ ((((below_drewN' (Below.refl _ _) 1 : Below wc.heap.size wc wc.drew)).alloc ((below_drewN' (Below.refl _ _) 1 : Below wc.heap.size wc wc.drew)).size (.cells #[] 3)).alloc (((below_drewN' (Below.refl _ _) 1 : Below wc.heap.size wc wc.drew)).alloc ((below_drewN' (Below.refl _ _) 1 : Below wc.heap.size wc wc.drew)).size (.cells #[] 3)).size (.cells #[.int .i64 u] 3))
                      clear hK K
                      try simp only [Act.put, List.setIfInBounds_toArray, List.set_cons_zero, List.set_cons_succ]
                      refine wpAnyH_ready (rs := [6]) (by kernel_rfl) (by simp) ?_
                      refine (AllReadyH.cons (o := ({ dst := some 59, op := Op.call { callee := Callee.builtin Builtin.append, args := #[Operand.tmp 54, Operand.tmp 58], argTypes := #[23, 23] }, type := 23, pos := "ref.go:48", after := #[{ on := 1, ground := Ground.data }, { on := 5, ground := Ground.data }], guard := none } : Oper)) rfl (fun K hK => ?_) AllReadyH.nil)
                      have hH := ((((below_drewN' (Below.refl _ _) 1 : Below wc.heap.size wc wc.drew)).alloc ((below_drewN' (Below.refl _ _) 1 : Below wc.heap.size wc wc.drew)).size (.cells #[] 3)).alloc (((below_drewN' (Below.refl _ _) 1 : Below wc.heap.size wc wc.drew)).alloc ((below_drewN' (Below.refl _ _) 1 : Below wc.heap.size wc wc.drew)).size (.cells #[] 3)).size (.cells #[.int .i64 u] 3))
                      refine step_appInts (by rfl) _ _ 23 rfl wc.heap.size j1 Tryz.underlying23 hi1 ky0 ky1 ky2 _ 0 _ rfl ((own_empty wc.drew wc.heap.size ((below_drewN' (Below.refl _ _) 1 : Below wc.heap.size wc wc.drew)).size).alloc (.cells #[.int .i64 u] 3)) _ X rfl (HXC.out _ hH) (by have := HXL.out; omega) hH.size ?_
                      intro g2 c2 w2 hown2 hgrow2
                      simp only [Nat.zero_add, List.nil_append] at hown2
                      try simp only [Nat.zero_add]
                      have hB2 : Below wc.heap.size wc w2 := hH.grown hgrow2 hH.size (fun k hk => (((own_empty wc.drew wc.heap.size ((below_drewN' (Below.refl _ _) 1 : Below wc.heap.size wc wc.drew)).size).alloc (.cells #[.int .i64 u] 3)).lt k hk).1)
                      have hlit2 := hgrow2.cell LITA.out NEA.out
                      refine hK.out _ _ ?_ (fun hHeld => ?_)
                      · (try dsimp only); exact HKS.out _ hB2
                      clear hK K
                      try simp only [Act.put, List.setIfInBounds_toArray, List.set_cons_zero, List.set_cons_succ]
                      refine wpAnyH_ready (rs := [12]) (by kernel_rfl) (by simp) ?_
                      refine (AllReadyH.cons (o := ({ dst := some 65, op := Op.call { callee := Callee.builtin Builtin.append, args := #[Operand.tmp 59, Operand.tmp 64], argTypes := #[23, 23] }, type := 23, pos := "ref.go:48", after := #[{ on := 6, ground := Ground.data }, { on := 11, ground := Ground.data }, { on := 6, ground := Ground.chain }], guard := none } : Oper)) rfl (fun K hK => ?_) AllReadyH.nil)
                      have hH3 := hB2
                      refine step_appInts (by rfl) _ _ 23 rfl wc.heap.size j1 Tryz.underlying23 hi1 ky0 ky1 ky2 _ X.length _ rfl hown2 _ [u] rfl (seq_cell1 hlit2) (by have := HXL.out; simp; omega) hH3.size ?_
                      intro g4 c4 w6 hown4 hgrow4
                      have hB6 : Below wc.heap.size wc w6 := hH3.grown hgrow4 hH3.size (fun k hk => (hown2.lt k hk).1)
                      have ho6 : w6.ownsRow wc.heap.size 3 1 (.slice g4 (X.length + 1) c4) (X ++ [u]).length (intCells (X ++ [u])) := by rw [intCells_app, List.length_append]; exact hown4
                      have hs6 : SeqC w6 (.slice g4 (X.length + 1) c4) (X ++ [u]) := own_seqC ho6
                      refine hK.out _ _ ?_ (fun hHeld => ?_)
                      · (try dsimp only); exact HKS.out _ hB6
                      clear hK K
                      try simp only [Act.put, List.setIfInBounds_toArray, List.set_cons_zero, List.set_cons_succ]
                      refine wpAnyH_ready (rs := [13]) (by kernel_rfl) (by simp) ?_
                      refine (AllReadyH.cons (o := ({ dst := some 66, op := Op.buildSlice 22 1 #[(0, Operand.tmp 65)], type := 22, pos := "ref.go:48", after := #[{ on := 12, ground := Ground.data }], guard := none } : Oper)) rfl (fun K hK => ?_) AllReadyH.nil)
                      go_simp
                      refine hK.out _ _ ?_ (fun hHeld => ?_)
                      · (try dsimp only); exact HKS.out _ (hB6.alloc hB6.size _)
                      clear hK K
                      try simp only [Act.put, List.setIfInBounds_toArray, List.set_cons_zero, List.set_cons_succ]
                      refine wpAnyH_ready (rs := [14]) (by kernel_rfl) (by simp) ?_
                      refine (AllReadyH.cons (o := ({ dst := some 67, op := Op.call { callee := Callee.builtin Builtin.append, args := #[Operand.tmp 53, Operand.tmp 66], argTypes := #[22, 22] }, type := 22, pos := "ref.go:48", after := #[{ on := 0, ground := Ground.data }, { on := 13, ground := Ground.data }, { on := 12, ground := Ground.chain }], guard := none } : Oper)) rfl (fun K hK => ?_) AllReadyH.nil)
                      have hBA6 := HBQ.out.trans (hB6.mono HBQ.out.size)
                      have hBA7 := hBA6.alloc hBA6.size (.cells #[.slice g4 (X.length + 1) c4] 23)
                      refine step_app1 (by rfl) _ _ 22 rfl w1.heap.size 23 j2 (.slice none 0 0) 24 Tryz.underlying22 hi2 kz0 kz1 kz2 rfl _ z _ rfl ((own_below HUS.out hB6 (Nat.le_refl _)).alloc (.cells #[.slice g4 (X.length + 1) c4] 23)) (.slice g4 (X.length + 1) c4) rfl w6.heap.size rfl ((Whole.new w6 23 #[.slice g4 (X.length + 1) c4]).cell 0) (by omega) (by omega) hBA7.size ?_
                      intro g8 c8 w8 hown8 hgrow8
                      have hB8 : Below w1.heap.size w1 w8 := hgrow8.below ((own_below HUS.out hB6 (Nat.le_refl _)).alloc (.cells #[.slice g4 (X.length + 1) c4] 23)) hBA7 (Nat.le_refl _) hBA7.size
                      have hR8 : RowsOwn w8 w1.heap.size (.slice g8 (z + 1) c8) (P ++ [X ++ [u]]) := RowsOwn.more (by rw [HZ.out]; exact ((own_below HUS.out hB6 (Nat.le_refl _)).alloc (.cells #[.slice g4 (X.length + 1) c4] 23))) (fun x y M hx hM => (own_below (HRS.out x y M hx hM) hB6 (Nat.le_refl _)).alloc _) (own_base (ho6.alloc (.cells #[.slice g4 (X.length + 1) c4] 23)) HBQ.out.size) (by rw [HZ.out]; exact hown8) hgrow8
                      have hK8 := HKS1.out w8 hB8
                      refine hK.out _ _ ?_ (fun hHeld => ?_)
                      · (try dsimp only); exact hK8
                      clear hK K
                      try simp only [Act.put, List.setIfInBounds_toArray, List.set_cons_zero, List.set_cons_succ]
                      refine wpAnyH_take (i := 15) (oi := ({ dst := some 8, op := Op.assign (Operand.tmp 67), type := 22, pos := "ref.go:48", after := #[{ on := 14, ground := Ground.data }, { on := 14, ground := Ground.chain }, { on := 0, ground := Ground.phase }, { on := 1, ground := Ground.phase }, { on := 2, ground := Ground.phase }, { on := 3, ground := Ground.phase }, { on := 4, ground := Ground.phase }, { on := 5, ground := Ground.phase }, { on := 6, ground := Ground.phase }, { on := 7, ground := Ground.phase }, { on := 8, ground := Ground.phase }, { on := 9, ground := Ground.phase }, { on := 10, ground := Ground.phase }, { on := 11, ground := Ground.phase }, { on := 12, ground := Ground.phase }, { on := 13, ground := Ground.phase }, { on := 14, ground := Ground.phase }], guard := none } : Oper)) (v := ?vtc11) rfl (by kernel_rfl) (by kernel_rfl) (by kernel_rfl) (fun _ _ _ h => h) (Or.inl ⟨by rfl, ?hytc11⟩) (by assumption) ?resttc11
                      case hytc11 => intro w hSw; (try dsimp only at hSw); go_simp; all_goals (with_reducible rfl)
                      try simp only [Act.put, List.setIfInBounds_toArray, List.set_cons_zero, List.set_cons_succ]
                      refine wpAnyH_done (by kernel_rfl) ?_ _
                      go_wp2_with fail
                      go_roundg (s - (j + 1))
                      case rel => exact ⟨j + 1, _, HJT.out, rfl, by go_num, hR8, by rw [HPS.out], by rw [List.length_append, HZ.out]; have := HPB.out; simp; omega, hB8⟩
                      case measure => have := HJT.out; omega
                  · go_simp
                    refine hK.out _ _ ?_ (fun hHeld => ?_)
                    · (try dsimp only); exact HKS.out _ (((below_drewN' (Below.refl _ _) 1 : Below wc.heap.size wc wc.drew)).alloc ((below_drewN' (Below.refl _ _) 1 : Below wc.heap.size wc wc.drew)).size (.cells #[.int .i64 u] 3))
                    clear hK K
                    try simp only [Act.put, List.setIfInBounds_toArray, List.set_cons_zero, List.set_cons_succ]
                    refine wpAnyH_ready (rs := [1]) (by kernel_rfl) (by simp) ?_
                    refine (AllReadyH.cons (o := ({ dst := some 54, op := Op.buildSlice 23 0 #[], type := 23, pos := "ref.go:48", after := #[], guard := none } : Oper)) rfl (fun K hK => ?_) AllReadyH.nil)
                    go_simp
                    refine hK.out _ _ ?_ (fun hHeld => ?_)
                    · (try dsimp only); exact HKS.out _ ((((below_drewN' (Below.refl _ _) 1 : Below wc.heap.size wc wc.drew)).alloc ((below_drewN' (Below.refl _ _) 1 : Below wc.heap.size wc wc.drew)).size (.cells #[.int .i64 u] 3)).alloc (((below_drewN' (Below.refl _ _) 1 : Below wc.heap.size wc wc.drew)).alloc ((below_drewN' (Below.refl _ _) 1 : Below wc.heap.size wc wc.drew)).size (.cells #[.int .i64 u] 3)).size (.cells #[] 3))
                    clear hK K
                    try simp only [Act.put, List.setIfInBounds_toArray, List.set_cons_zero, List.set_cons_succ]
                    refine wpAnyH_ready (rs := [6]) (by kernel_rfl) (by simp) ?_
                    refine (AllReadyH.cons (o := ({ dst := some 59, op := Op.call { callee := Callee.builtin Builtin.append, args := #[Operand.tmp 54, Operand.tmp 58], argTypes := #[23, 23] }, type := 23, pos := "ref.go:48", after := #[{ on := 1, ground := Ground.data }, { on := 5, ground := Ground.data }], guard := none } : Oper)) rfl (fun K hK => ?_) AllReadyH.nil)
                    have hH := ((((below_drewN' (Below.refl _ _) 1 : Below wc.heap.size wc wc.drew)).alloc ((below_drewN' (Below.refl _ _) 1 : Below wc.heap.size wc wc.drew)).size (.cells #[.int .i64 u] 3)).alloc (((below_drewN' (Below.refl _ _) 1 : Below wc.heap.size wc wc.drew)).alloc ((below_drewN' (Below.refl _ _) 1 : Below wc.heap.size wc wc.drew)).size (.cells #[.int .i64 u] 3)).size (.cells #[] 3))
                    refine step_appInts (by rfl) _ _ 23 rfl wc.heap.size j1 Tryz.underlying23 hi1 ky0 ky1 ky2 _ 0 _ rfl OWN3.out _ X rfl (HXC.out _ hH) (by have := HXL.out; omega) hH.size ?_
                    intro g2 c2 w2 hown2 hgrow2
                    simp only [Nat.zero_add, List.nil_append] at hown2
                    try simp only [Nat.zero_add]
                    have hB2 : Below wc.heap.size wc w2 := hH.grown hgrow2 hH.size (fun k hk => (OWN3.out.lt k hk).1)
                    have hlit2 := hgrow2.cell LITB.out NEB.out
                    refine hK.out _ _ ?_ (fun hHeld => ?_)
                    · (try dsimp only); exact HKS.out _ hB2
                    clear hK K
                    try simp only [Act.put, List.setIfInBounds_toArray, List.set_cons_zero, List.set_cons_succ]
                    refine wpAnyH_ready (rs := [12]) (by kernel_rfl) (by simp) ?_
                    refine (AllReadyH.cons (o := ({ dst := some 65, op := Op.call { callee := Callee.builtin Builtin.append, args := #[Operand.tmp 59, Operand.tmp 64], argTypes := #[23, 23] }, type := 23, pos := "ref.go:48", after := #[{ on := 6, ground := Ground.data }, { on := 11, ground := Ground.data }, { on := 6, ground := Ground.chain }], guard := none } : Oper)) rfl (fun K hK => ?_) AllReadyH.nil)
                    have hH3 := hB2
                    refine step_appInts (by rfl) _ _ 23 rfl wc.heap.size j1 Tryz.underlying23 hi1 ky0 ky1 ky2 _ X.length _ rfl hown2 _ [u] rfl (seq_cell1 hlit2) (by have := HXL.out; simp; omega) hH3.size ?_
                    intro g4 c4 w6 hown4 hgrow4
                    have hB6 : Below wc.heap.size wc w6 := hH3.grown hgrow4 hH3.size (fun k hk => (hown2.lt k hk).1)
                    have ho6 : w6.ownsRow wc.heap.size 3 1 (.slice g4 (X.length + 1) c4) (X ++ [u]).length (intCells (X ++ [u])) := by rw [intCells_app, List.length_append]; exact hown4
                    have hs6 : SeqC w6 (.slice g4 (X.length + 1) c4) (X ++ [u]) := own_seqC ho6
                    refine hK.out _ _ ?_ (fun hHeld => ?_)
                    · (try dsimp only); exact HKS.out _ hB6
                    clear hK K
                    try simp only [Act.put, List.setIfInBounds_toArray, List.set_cons_zero, List.set_cons_succ]
                    refine wpAnyH_ready (rs := [13]) (by kernel_rfl) (by simp) ?_
                    refine (AllReadyH.cons (o := ({ dst := some 66, op := Op.buildSlice 22 1 #[(0, Operand.tmp 65)], type := 22, pos := "ref.go:48", after := #[{ on := 12, ground := Ground.data }], guard := none } : Oper)) rfl (fun K hK => ?_) AllReadyH.nil)
                    go_simp
                    refine hK.out _ _ ?_ (fun hHeld => ?_)
                    · (try dsimp only); exact HKS.out _ (hB6.alloc hB6.size _)
                    clear hK K
                    try simp only [Act.put, List.setIfInBounds_toArray, List.set_cons_zero, List.set_cons_succ]
                    refine wpAnyH_ready (rs := [14]) (by kernel_rfl) (by simp) ?_
                    refine (AllReadyH.cons (o := ({ dst := some 67, op := Op.call { callee := Callee.builtin Builtin.append, args := #[Operand.tmp 53, Operand.tmp 66], argTypes := #[22, 22] }, type := 22, pos := "ref.go:48", after := #[{ on := 0, ground := Ground.data }, { on := 13, ground := Ground.data }, { on := 12, ground := Ground.chain }], guard := none } : Oper)) rfl (fun K hK => ?_) AllReadyH.nil)
                    have hBA6 := HBQ.out.trans (hB6.mono HBQ.out.size)
                    have hBA7 := hBA6.alloc hBA6.size (.cells #[.slice g4 (X.length + 1) c4] 23)
                    refine step_app1 (by rfl) _ _ 22 rfl w1.heap.size 23 j2 (.slice none 0 0) 24 Tryz.underlying22 hi2 kz0 kz1 kz2 rfl _ z _ rfl ((own_below HUS.out hB6 (Nat.le_refl _)).alloc (.cells #[.slice g4 (X.length + 1) c4] 23)) (.slice g4 (X.length + 1) c4) rfl w6.heap.size rfl ((Whole.new w6 23 #[.slice g4 (X.length + 1) c4]).cell 0) (by omega) (by omega) hBA7.size ?_
                    intro g8 c8 w8 hown8 hgrow8
                    have hB8 : Below w1.heap.size w1 w8 := hgrow8.below ((own_below HUS.out hB6 (Nat.le_refl _)).alloc (.cells #[.slice g4 (X.length + 1) c4] 23)) hBA7 (Nat.le_refl _) hBA7.size
                    have hR8 : RowsOwn w8 w1.heap.size (.slice g8 (z + 1) c8) (P ++ [X ++ [u]]) := RowsOwn.more (by rw [HZ.out]; exact ((own_below HUS.out hB6 (Nat.le_refl _)).alloc (.cells #[.slice g4 (X.length + 1) c4] 23))) (fun x y M hx hM => (own_below (HRS.out x y M hx hM) hB6 (Nat.le_refl _)).alloc _) (own_base (ho6.alloc (.cells #[.slice g4 (X.length + 1) c4] 23)) HBQ.out.size) (by rw [HZ.out]; exact hown8) hgrow8
                    have hK8 := HKS1.out w8 hB8
                    refine hK.out _ _ ?_ (fun hHeld => ?_)
                    · (try dsimp only); exact hK8
                    clear hK K
                    try simp only [Act.put, List.setIfInBounds_toArray, List.set_cons_zero, List.set_cons_succ]
                    refine wpAnyH_take (i := 15) (oi := ({ dst := some 8, op := Op.assign (Operand.tmp 67), type := 22, pos := "ref.go:48", after := #[{ on := 14, ground := Ground.data }, { on := 14, ground := Ground.chain }, { on := 0, ground := Ground.phase }, { on := 1, ground := Ground.phase }, { on := 2, ground := Ground.phase }, { on := 3, ground := Ground.phase }, { on := 4, ground := Ground.phase }, { on := 5, ground := Ground.phase }, { on := 6, ground := Ground.phase }, { on := 7, ground := Ground.phase }, { on := 8, ground := Ground.phase }, { on := 9, ground := Ground.phase }, { on := 10, ground := Ground.phase }, { on := 11, ground := Ground.phase }, { on := 12, ground := Ground.phase }, { on := 13, ground := Ground.phase }, { on := 14, ground := Ground.phase }], guard := none } : Oper)) (v := ?vtc12) rfl (by kernel_rfl) (by kernel_rfl) (by kernel_rfl) (fun _ _ _ h => h) (Or.inl ⟨by rfl, ?hytc12⟩) (by assumption) ?resttc12
                    case hytc12 => intro w hSw; (try dsimp only at hSw); go_simp; all_goals (with_reducible rfl)
                    try simp only [Act.put, List.setIfInBounds_toArray, List.set_cons_zero, List.set_cons_succ]
                    refine wpAnyH_done (by kernel_rfl) ?_ _
                    go_wp2_with fail
                    go_roundg (s - (j + 1))
                    case rel => exact ⟨j + 1, _, HJT.out, rfl, by go_num, hR8, by rw [HPS.out], by rw [List.length_append, HZ.out]; have := HPB.out; simp; omega, hB8⟩
                    case measure => have := HJT.out; omega
            · obtain rfl : j = s := by omega
              have t3 : decide (j < j) = false := by simp
              have hkD : k < D.length := by rw [HQ.out]; exact HLK.out
              have HP2 : Hid (P = nextP C i R D (k + 1)) := Lib.hid (by
                rw [hP, next_succ hkD, List.take_of_length_le (by rw [HS.out]; exact Nat.le_refl _)]
                simp [List.getD, hkD])
              have HROW := Lib.hid hrow; have HBR := Lib.hid hbr
              clear hrow hP hbr hjt hkD
              go_wp2_with fail
              go_roundg (q - (k + 1))
              case rel => exact ⟨k + 1, P, HLK.out, rfl, by go_num, HROW.out, HP2.out, by omega, HBR.out⟩
              case measure => have := HLK.out; omega
        · obtain rfl : k = q := by omega
          have t2 : decide (k < k) = false := by simp
          have hb2 : Below w.heap.size w wr := HW1.out.trans (hb.mono HW1.out.size)
          have hrow : RowsOwn wr w.heap.size (.slice Az O.length cz) (prefP C (i + 1)) := by
            rw [HRP.out, ← HO.out]
            exact hown.base HW1.out.size
          have HROW := Lib.hid hrow; have HB2 := Lib.hid hb2
          clear hown hO hb hlk hb2 hrow
          go_wp2_with fail
          go_roundg (n - (i + 1))
          case rel => exact ⟨i + 1, HLT.out, rfl, by go_num, HROW.out, HB2.out⟩
          case measure => have := HLT.out; omega
    · obtain rfl : i = n := by omega
      have t1 : decide (i < i) = false := by simp
      have HF := Lib.hid hown.lists; have HB := Lib.hid hb
      clear hlt hown hb
      go_wp2_with fail
      go_ret
      exact ⟨_, rfl, HF.out, HB.out⟩
end

section
open Go.RowKit
attribute [local go_sem] Oper.semAt_some

/-- A number kept in a box. -/
def CntF (w8 : World) (kB : Nat) (g : Nat → Nat) (_G : Nat → Prop) (i : Nat) (W : World) : Prop := w8.grownBy W (some kB) ∧ Whole W kB 3 #[.int .i64 (g i : Nat)]
section
variable {w8 A A' W W4 : World} {D kB i : Nat} {g : Nat → Nat} {G : Nat → Prop} {row : Option Nat}
theorem CntF.grown (h : CntF w8 kB g G i A) (h0 : w8.heap.size ≤ D) (ho : kB < D) (hG : ∀ b, G b → D + 2 ≤ b) (hrow : ∀ r, row = some r → r = D ∨ r = D + 1 ∨ G r) (hg : A.grownBy A' row) : CntF w8 kB g G i A' := by
  obtain ⟨h1, h2⟩ := h
  have far : ∀ b, b < D → some b ≠ row := fun b hb e => by
    rcases hrow b e.symm with h | h | h
    · omega
    · omega
    · have := hG b h; omega
  exact ⟨⟨hg.os.trans h1.os, hg.tape.trans h1.tape, hg.output.trans h1.output, Nat.le_trans h1.size hg.size, fun b hb hne => (hg.block b (by have := h1.size; omega) (far b (by omega))).trans (h1.block b hb hne)⟩, h2.grown hg (far _ ho)⟩
theorem grown_trans {W0 W1 W2 : World} {row : Option Nat} (h : W0.grownBy W1 row) (k : W1.grownBy W2 row) : W0.grownBy W2 row :=
  ⟨k.os.trans h.os, k.tape.trans h.tape, k.output.trans h.output, Nat.le_trans h.size k.size, fun b hb hne => (k.block b (by have := h.size; omega) hne).trans (h.block b hb hne)⟩
theorem grown_set (W0 : World) (b : Nat) (u : Value) : W0.grownBy (W0.setCell ⟨b, 0, none⟩ u) (some b) := by
  have hpg : Below b W0 (W0.setCell ⟨b, 0, none⟩ u) := (Below.refl b W0).setCell (Nat.le_refl _) _
  exact ⟨hpg.os, hpg.tape, hpg.output, hpg.size, fun k _ hk => Below.heap_setCell W0 _ _ k (fun e => hk (by rw [e]))⟩
theorem CntF.round {Cp : Nat → Prop} (h : CntF w8 kB g G i W) (ho : kB < D) (hG : ∀ b, G b → D + 2 ≤ b ∧ b < W.heap.size) (hCp : ∀ b, Cp b → b ≠ kB ∧ b < D) (hD : D + 2 ≤ W.heap.size) (h4 : W.grownBy W4 (some kB)) (hk4 : Whole W4 kB 3 #[.int .i64 (g (i + 1) : Nat)]) (a : Act) (I : (Nat → Prop) → Nat → World → Prop) (hI : I = fun G k W => CntF w8 kB g G k W) :
    roundW Cp I (fun _ _ _ _ => False) D G i W .normal a W4 := by
  subst hI
  refine ⟨⟨h4.size, fun b hb => ?_⟩, grown_trans h.1 h4, hk4⟩
  have hb' : b < W.heap.size ∧ b ≠ kB := by
    rcases hb with h | h | h | h
    · omega
    · omega
    · have := hG b h; omega
    · have := hCp b h; omega
  exact h4.block b hb'.1 (fun e => hb'.2 (Option.some.inj e))
end
theorem ListsV.heap {Wo A : World} {v : Value} {C : List (List Int)} (h : ListsV Wo v C) (hb : ∀ b, b < Wo.heap.size → A.heap[b]? = Wo.heap[b]?) (hs : Wo.heap.size ≤ A.heap.size) : ListsV A v C := by
  have k := ListsV.below h (worldOf_below hb hs) (Nat.le_refl _)
  exact k
/-- Where a count stands. -/
def gAt (fm i : Nat) : Nat := if i = 0 then 0 else fm + i

set_option maxRecDepth 100000 in
set_option maxHeartbeats 16000000 in
theorem parts_law (n : Int) (C : List (List Int)) (v : Value) (f t m : Int) (w : World) (hv : ListsV w v C) (hC : C.length ≤ 9223372036854775807) (hL : ∀ l ∈ C, l.length ≤ 9223372036854775807) (hg : ErrT w) (f0 : -9223372036854775808 ≤ f) (f1 : f ≤ 9223372036854775807) (t0 : -9223372036854775808 ≤ t) (t1 : t ≤ 9223372036854775807) (m0 : -9223372036854775808 ≤ m) (m1 : m ≤ 9223372036854775807) :
    Calls Tryz.prog 4 #[.int .i64 n, v, .int .i64 f, .int .i64 t, .int .i64 m] w fun e w' => e = .returned (.bool true) ∧ Below w.heap.size w w' := by
  obtain ⟨A, c, rfl⟩ := hv.form
  obtain ⟨cl, hcl⟩ : ∃ m, C.length = m := ⟨_, rfl⟩
  rw [hcl] at hv ⊢
  -- the boxes of from, to, the result
  obtain ⟨wa, hwa⟩ : ∃ W, w.alloc (.cells #[.int .i64 f] 2) = W := ⟨_, rfl⟩
  obtain ⟨wb, hwb⟩ : ∃ W, wa.alloc (.cells #[.int .i64 t] 2) = W := ⟨_, rfl⟩
  obtain ⟨w1, hw1⟩ : ∃ W, wb.alloc (.cells #[.bool false] 4) = W := ⟨_, rfl⟩
  have hsa : wa.heap.size = w.heap.size + 1 := by rw [← hwa]; simp
  have hsb : wb.heap.size = w.heap.size + 2 := by rw [← hwb]; simp [hsa]
  have hba : Below w.heap.size w wa := by rw [← hwa]; exact (Below.refl _ _).alloc (Nat.le_refl _) _
  have hbb : Below wa.heap.size wa wb := by rw [← hwb]; exact (Below.refl _ _).alloc (Nat.le_refl _) _
  have hb1 : Below wb.heap.size wb w1 := by rw [← hw1]; exact (Below.refl _ _).alloc (Nat.le_refl _) _
  have hb0 : Below w.heap.size w w1 := (hba.trans (hbb.mono hba.size)).trans (hb1.mono (Nat.le_trans hba.size hbb.size))
  have hfa : Whole wa w.heap.size 2 #[.int .i64 f] := by rw [← hwa]; exact Whole.new _ _ _
  have hta : Whole wb wa.heap.size 2 #[.int .i64 t] := by rw [← hwb]; exact Whole.new _ _ _
  have hR1 : Whole w1 wb.heap.size 4 #[.bool false] := by rw [← hw1]; exact Whole.new _ _ _
  have hf1 := (hfa.below hbb hfa.lt).below hb1 (by have := hfa.lt; omega)
  have ht1 := hta.below hb1 hta.lt
  rw [hsa] at ht1
  rw [hsb] at hR1
  have HV := Lib.hid (hv.below hb0 (Nat.le_refl _)); have HG := Lib.hid (hg.below hb0 (Nat.le_refl _))
  have HB0 := Lib.hid hb0; have HR := Lib.hid hR1; have HF := Lib.hid hf1; have HTT := Lib.hid ht1; have HWA := Lib.hid hwa; have HWB := Lib.hid hwb; have HW1 := Lib.hid hw1; have HSA := Lib.hid hsa; have HSB := Lib.hid hsb
  have HCL := Lib.hid hcl; have HC := Lib.hid hC; have HL := Lib.hid hL
  clear hv hg hb0 hR1 hwa hwb hw1 hcl hC hL hsa hsb hba hbb hb1 hfa hta hf1 ht1
  refine (callsIn_wide (n := 6)).1 ?_
  refine callsIn_of_wp_marks Tryz.func4 rfl trivial ?_ rfl
  simp only [Tryz.ntmps4, List.size_toArray, List.length_cons, List.length_nil, Nat.reduceAdd, Nat.reduceSub, Array.replicate_succ, Array.replicate_zero, List.push_toArray, List.append_toArray, List.nil_append, List.cons_append]
  refine wpIn_wide.2 ?_
  go_upto_region 1 with fail
  rw [HWA.out, HWB.out, HW1.out]
  obtain ⟨tB, htB⟩ : ∃ x, w.heap.size + 1 = x := ⟨_, rfl⟩
  obtain ⟨rB, hrB⟩ : ∃ x, tB + 1 = x := ⟨_, rfl⟩
  rw [htB, hrB]
  have HTB := Lib.hid htB; have HRB := Lib.hid hrB
  have HR1 := Lib.hid (show Whole w1 rB 4 #[.bool false] by have := HR.out; rwa [show w.heap.size + 2 = rB by omega] at this)
  have HT1 := Lib.hid (show Whole w1 tB 2 #[.int .i64 t] by have := HTT.out; rwa [htB] at this)
  clear htB hrB HR HTT
  go_wp2_with fail
  refine (alive_ok w1 HG.out).mono ?_; rintro e w2 ⟨rfl, hb2⟩
  have BW : Below w1.heap.size w1 w2 := hb2
  have HRc := HR1.out.below BW HR1.out.lt
  have HVc := HV.out.below BW (Nat.le_refl _)
  have BWW : Below w.heap.size w w2 := HB0.out.trans (BW.mono HB0.out.size)
  have MD := Lib.hid (made_any n C _ w2 HVc (by rw [HCL.out]; have := HC.out; rw [HCL.out] at this; exact this) HL.out)
  have HR4 := Lib.hid HRc; have HB4 := Lib.hid BWW; have HV2 := Lib.hid HVc
  have HF2 := Lib.hid (HF.out.below BW HF.out.lt); have HT2b := Lib.hid (HT1.out.below BW HT1.out.lt)
  have HG2 := Lib.hid (HG.out.below BW (Nat.le_refl _))
  clear hb2 BW HRc HVc BWW HV HG HW1 HR1 HB0 HF HT1 HWA HWB HSA HSB
  have hwr : w.heap.size ≤ rB := by have := HTB.out; have := HRB.out; omega
  have fin : ∀ X, Below w2.heap.size w2 X → Hid (Below w.heap.size w X ∧ Whole X rB 4 #[.bool false] ∧ (∀ b, Whole (X.setCell ⟨rB, 0, none⟩ (.bool b)) rB 4 #[.bool b]) ∧ ∀ b, Below w.heap.size w (X.setCell ⟨rB, 0, none⟩ (.bool b))) := fun X hX =>
    have h1 := HB4.out.trans (hX.mono HB4.out.size)
    have h2 := HR4.out.below hX HR4.out.lt
    Lib.hid ⟨h1, h2, fun b => h2.put 0 _, fun b => h1.setCell hwr _⟩
  have FIN := Lib.hid fin
  have HWR := Lib.hid hwr
  clear fin hwr
  go_wp2_with fail
  refine MD.out.mono ?_; rintro e w4 (⟨rfl, rfl⟩ | ⟨N, p, rfl, hgc, rfl, ho, hb4⟩)
  · have F4 := FIN.out w4 (Below.refl _ _)
    have f3 := F4.out.2.1.free 0
    have c3 : w4.cell? ⟨rB, 0, none⟩ = some (.bool false) := F4.out.2.1.cell 0
    go_wp2_with fail
    exact ⟨_, results_bool rfl _ _ _ _ rfl (F4.out.2.2.1 true), rfl, F4.out.2.2.2 true⟩
  · have F4 := FIN.out w4 hb4
    by_cases h4 : N = 5
    · subst h4
      have f3 := F4.out.2.1.free 0
      have c3 : w4.cell? ⟨rB, 0, none⟩ = some (.bool false) := F4.out.2.1.cell 0
      have HH := Lib.hid (And.intro hgc ho)
      clear hgc ho hb4
      go_wp2_with fail
      exact ⟨_, results_bool rfl _ _ _ _ rfl (F4.out.2.2.1 true), rfl, F4.out.2.2.2 true⟩
    · obtain ⟨g1, g2, g3, g4, g5⟩ := hgc
      have n4 : N ≤ 4 := by omega
      have t4 : decide ((4 : Int) < N) = false := decide_eq_false (by omega)
      have pw : ∀ r, r ≤ 4 → C.length ^ r ≤ 12 ^ 4 := fun r hr => Nat.le_trans (Nat.pow_le_pow_left g3 r) (Nat.pow_le_pow_right (by omega) hr)
      have b1 : ∀ r i a, r + i + 1 = N → a ∈ rowP C i → cntP C r i a ≤ 9223372036854775807 := fun r i a e _ => Nat.le_trans (cnt_le C r i a) (Nat.le_trans (pw r (by omega)) (by decide))
      have b3 : totP N C ≤ 1000000 := Nat.le_trans (sum_le_mul (cntP C (N - 1) 0) (12 ^ 4) (rowP C 0) fun x _ => Nat.le_trans (cnt_le C (N - 1) 0 x) (pw _ (by omega))) (Nat.le_trans (Nat.mul_le_mul_right _ (Nat.le_trans (row_len C 0) g3)) (by decide))
      have b2 : totP N C ≤ 9223372036854775807 := by omega
      have RO := Lib.hid (rankOf_any ho g1 (by omega) (by omega) b1 b2)
      have PA := Lib.hid (fun W (hW : Below w2.heap.size w2 W) => refPaths_any C N _ W (HV2.out.below hW (Nat.le_refl _)) g3 g4 (by omega))
      have HT2 := Lib.hid b3; have HB5 := Lib.hid hb4; have HC5 := Lib.hid g3; have HN5 := Lib.hid h4; have HG1 := Lib.hid g1; have HN4 := Lib.hid n4
      clear pw b1 b2 b3 ho hb4 g1 g2 g3 g4 g5 n4 h4
      go_wp2_with fail
      refine RO.out.mono ?_; rintro e w5 ⟨rp, rfl, hr5, hb5⟩
      have HR5 := Lib.hid hr5
      have HB6 := Lib.hid (HB5.out.trans (hb5.mono HB5.out.size))
      obtain ⟨rb, _, _, rfl, _⟩ := hr5
      clear hb5
      go_wp2_with fail
      refine (PA.out _ HB6.out).mono ?_; rintro e w6 ⟨vw, rfl, hvw, hb6⟩
      rw [pref_all C HG1.out] at hvw
      obtain ⟨Aw, cw, rfl⟩ := hvw.form
      have hlen : (allP N C).length = totP N C := all_len N C
      obtain ⟨tot, htot⟩ : ∃ x, totP N C = x := ⟨_, rfl⟩
      rw [hlen, htot] at hvw ⊢
      have htl : tot ≤ 1000000 := by rw [← htot]; exact HT2.out
      -- the boxes of want and k
      obtain ⟨w7, hw7⟩ : ∃ X, w6.alloc (.cells #[.slice Aw tot cw] 22) = X := ⟨_, rfl⟩
      obtain ⟨w8, hw8⟩ : ∃ X, w7.alloc (.cells #[.int .i64 0] 3) = X := ⟨_, rfl⟩
      have hb7 : Below w6.heap.size w6 w7 := by rw [← hw7]; exact (Below.refl _ _).alloc (Nat.le_refl _) _
      have hb8 : Below w7.heap.size w7 w8 := by rw [← hw8]; exact (Below.refl _ _).alloc (Nat.le_refl _) _
      have hwn : Whole w7 w6.heap.size 22 #[.slice Aw tot cw] := by rw [← hw7]; exact Whole.new _ _ _
      have hkb : Whole w8 w7.heap.size 3 #[.int .i64 0] := by rw [← hw8]; exact Whole.new _ _ _
      have hs7 : w7.heap.size = w6.heap.size + 1 := by rw [← hw7]; simp
      have hs8 : w8.heap.size = w7.heap.size + 1 := by rw [← hw8]; simp
      have hb58 : Below w5.heap.size w5 w8 := (hb6.trans (hb7.mono hb6.size)).trans (hb8.mono (Nat.le_trans hb6.size hb7.size))
      have hwn8 := hwn.below hb8 hwn.lt
      have hvw8 := (hvw.below hb7 (Nat.le_refl _)).below hb8 (Nat.le_refl _)
      have hwl : w5.heap.size ≤ w6.heap.size := hb6.size
      obtain ⟨wnB, hwnB⟩ : ∃ x, w6.heap.size = x := ⟨_, rfl⟩
      obtain ⟨kB, hkB⟩ : ∃ x, w7.heap.size = x := ⟨_, rfl⟩
      have hkw : kB = wnB + 1 := by omega
      rw [hwnB] at hwn8 hwl
      rw [hkB] at hkb hs8
      have hf8 : Whole w8 w.heap.size 2 #[.int .i64 f] := (HF2.out.below HB6.out HF2.out.lt).below hb58 (by have := HF2.out.lt; have := HB6.out.size; omega)
      have ht8 : Whole w8 tB 2 #[.int .i64 t] := (HT2b.out.below HB6.out HT2b.out.lt).below hb58 (by have := HT2b.out.lt; have := HB6.out.size; omega)
      have HV6 := Lib.hid hvw; have HB66 := Lib.hid hb6; have HB68 := Lib.hid (show Below w6.heap.size w6 w8 from hb7.trans (hb8.mono hb7.size)); have HW7 := Lib.hid hw7; have HW8 := Lib.hid hw8; have HWNB := Lib.hid hwnB; have HKB := Lib.hid hkB; have HWN := Lib.hid hwn8; have HK8 := Lib.hid hkb; have HB58 := Lib.hid hb58; have HVW := Lib.hid hvw8; have HS8 := Lib.hid hs8; have HKW := Lib.hid hkw; have HWL := Lib.hid hwl; have HF8 := Lib.hid hf8; have HT8 := Lib.hid ht8; have HTOT := Lib.hid htot; have HTL := Lib.hid htl
      clear hvw hb6 hw7 hw8 hb7 hb8 hwn hkb hs7 hs8 hb58 hwn8 hvw8 hwl hwnB hkB hkw hf8 ht8 htot htl hlen
      go_upto_region 8 with fail
      rw [HW7.out, HWNB.out]
      go_upto_region 11 with fail
      rw [HW8.out, HKB.out]
      have c1 := HF8.out.cell 0
      have c2 := HT8.out.cell 0
      go_wp2_with fail
      refine (each_any _ _ _ _).mono ?_; rintro e w9 ⟨rfl, h9⟩
      have L9 := Lib.hid (each_laid h9)
      clear h9 c1 c2
      obtain ⟨fm, hfm⟩ : ∃ fm : Nat, (max f 0).toNat = fm := ⟨_, rfl⟩
      obtain ⟨N1, hN1⟩ : ∃ N1, (min t (tot : Int) - max f 0).toNat = N1 := ⟨_, rfl⟩
      have hB9 : Below w5.heap.size w5 w9 := HB58.out.trans (L9.out.2.2.2.1.mono HB58.out.size)
      obtain ⟨LL, hLL⟩ : ∃ LL : Nat → List Int, LL = fun i => (allP N C).getD (fm + i) [] := ⟨_, rfl⟩
      have HIT : Hid (IterW Tryz.prog 36 #[.pointer (some ⟨w8.heap.size + 1, 0, none⟩), .pointer (some ⟨w8.heap.size, 0, none⟩)] (fun b => b < w5.heap.size ∨ b = w8.heap.size) 3 N1 LL w9) := Lib.hid (by
        have h := each_ways HR5.out hB9.block hB9.size HG1.out (by have := HN4.out; omega) (by have := HC5.out; omega) (by have := HT2.out; omega) L9.out.1 L9.out.2.1 L9.out.2.2.1 (N := N1) (by rw [HTOT.out]; exact hN1)
        rw [hfm, ← hLL] at h
        exact h)
      have hD9 : w9.heap.size = kB + 3 := by rw [L9.out.2.2.2.2, HS8.out]
      have h0 : CntF w8 kB (gAt fm) (fun _ => False) 0 w9 := ⟨grown_of_below L9.out.2.2.2.1 _, HK8.out.below L9.out.2.2.2.1 HK8.out.lt⟩
      have HFM := Lib.hid hfm; have HN1 := Lib.hid hN1; have HLL := Lib.hid hLL; have HD9 := Lib.hid hD9; have H0 := Lib.hid h0; have HB9 := Lib.hid hB9
      have HNB : Hid (∀ i, i < N1 → fm + i < tot ∧ ((fm + i : Nat) : Int) < t ∧ f ≤ ((fm + i : Nat) : Int)) := Lib.hid (fun i hi => by omega)
      have HFF : Hid ((0 < fm → f = (fm : Nat)) ∧ (fm = 0 → f ≤ 0)) := Lib.hid (by omega)
      clear hfm hN1 hB9 hLL hD9 h0
      go_wp2_with fail
      refine range_ways (gf := 36) (lb := #[.pointer (some ⟨w8.heap.size + 1, 0, none⟩), .pointer (some ⟨w8.heap.size, 0, none⟩)]) rfl (enters_of Tryz.func36 (by kernel_rfl) rfl) HIT.out (fun b hb => by have := HS8.out; have := HD9.out; have := HKW.out; have := HWL.out; rcases hb with h | h <;> omega) rfl
        (fun G k W => CntF w8 kB (gAt fm) G k W) (fun _ _ _ _ => False)
        (fun G k A A' row hG hrow h hg => h.grown (by have := HD9.out; have := HS8.out; omega) (by have := HD9.out; omega) hG hrow hg) (fun _ _ _ _ _ _ _ _ h _ => h) (fun _ _ _ _ _ _ h => h) H0.out ?a1 ?assign ?body ?done ?stop
      case assign =>
        intro l v W K hK
        gi_wp2
        exact hK
      case stop =>
        rintro c G k W _ _ _ h _
        exact h.elim
      case body => as_aux_lemma =>
        rintro l G i v W hG hi hcnt hsz hrow hvG
        obtain ⟨b1, b2, b3⟩ := HNB.out i hi
        have hat : (allP N C)[fm + i]? = some (LL i) := by
          have hl : fm + i < (allP N C).length := by rw [all_len, HTOT.out]; exact b1
          rw [HLL.out, List.getElem?_eq_getElem hl]
          simp [List.getD, hl]
        have hLi : (LL i).length = N := all_length HG1.out (List.mem_of_getElem? hat)
        have hd := HD9.out
        have hs8 := HS8.out
        have hkw := HKW.out
        have hwl := HWL.out
        have hcg := hcnt.1
        have NX := fun (W4 : World) (a : Act) (h4 : W.grownBy W4 (some kB)) (hk4 : Whole W4 kB 3 #[.int .i64 (gAt fm (i + 1) : Nat)]) => hcnt.round (Cp := fun b => b < w5.heap.size ∨ b = w8.heap.size) (by omega) (fun b hb => hG b hb) (fun b hb => by rcases hb with h | h <;> omega) hsz h4 hk4 a _ rfl
        have hseq : SeqV W v (LL i) := own_seq hrow
        rw [hLi] at hrow
        obtain ⟨Av, cv, rfl⟩ := own_form hrow
        have hvl : ∀ b, (Value.slice Av N cv).ownBlock = some b → b ≠ kB := fun b hb => by have := (hrow.lt b hb).1; omega
        -- what there is in every world where the count alone has turned
        have far : ∀ X, W.grownBy X (some kB) → (∀ b, b < kB → X.heap[b]? = w8.heap[b]?) ∧ W.heap.size ≤ X.heap.size := fun X hX => ⟨fun b hb => (hX.block b (by omega) (by simp; omega)).trans (hcg.block b (by omega) (by simp; omega)), hX.size⟩
        have FAR := Lib.hid far
        have hfl : w.heap.size < kB := by have := HF8.out.lt; have := HWL.out; have := HF2.out.lt; have := HB6.out.size; omega
        have htl : tB < kB := by have := HT2b.out.lt; have := HB6.out.size; omega
        have HFLt := Lib.hid hfl; have HTLt := Lib.hid htl
        have CF : Hid (∀ X, W.grownBy X (some kB) → X.cell? ⟨w.heap.size, 0, none⟩ = some (.int .i64 f) ∧ X.cell? ⟨tB, 0, none⟩ = some (.int .i64 t) ∧ X.cell? ⟨wnB, 0, none⟩ = some (.slice Aw tot cw) ∧ ListsV X (.slice Aw tot cw) (allP N C) ∧ SeqV X (.slice Av N cv) (LL i)) := Lib.hid (fun X hX => by
          obtain ⟨k1, k2⟩ := far X hX
          have q6 : w6.heap.size < kB := by have := HWNB.out; omega
          refine ⟨(World.cell?_of_block (a := ⟨w.heap.size, 0, none⟩) (k1 _ hfl)).trans (HF8.out.cell 0), (World.cell?_of_block (a := ⟨tB, 0, none⟩) (k1 _ htl)).trans (HT8.out.cell 0), (World.cell?_of_block (a := ⟨wnB, 0, none⟩) (k1 wnB (by omega))).trans (HWN.out.cell 0), HV6.out.heap (fun b hb => (k1 b (Nat.lt_trans hb q6)).trans (HB68.out.block b hb)) (Nat.le_trans (Nat.le_of_lt q6) (by omega)), own_seq (base := w9.heap.size + 2) (n := N) (hrow.kept hX (by
            cases hb : (Value.slice Av N cv).ownBlock with
            | none => exact Or.inl rfl
            | some b => exact Or.inr (by have := hvl b hb; simpa using this)))⟩)
        have hk0 := hcnt.2
        have HNX := Lib.hid NX; have HLI := Lib.hid hLi; have HAT := Lib.hid hat; have HK0 := Lib.hid hk0; have HI := Lib.hid hi
        have HB := Lib.hid (And.intro b1 (And.intro b2 b3))
        clear hG hsz hrow hvG NX hseq hLi hat hd hs8 hkw hwl hcg hvl far hk0 hcnt hi hfl htl
        gi_wp2_with fail
        gi_loopg [] (fm + i) (fun gh wr => ∃ kk r, kk ≤ fm + i ∧ (i = 0 ∨ kk = fm + i) ∧ r = gh ∧ fm + i ≤ r + kk ∧ Whole wr kB 3 #[.int .i64 (kk : Nat)] ∧ W.grownBy wr (some kB))
        case atStart =>
          refine ⟨gAt fm i, fm + i, ?_, ?_, rfl, ?_, HK0.out, World.grownBy.refl _ _⟩
          · unfold gAt; split <;> omega
          · unfold gAt; split
            · rename_i h; exact Or.inl h
            · exact Or.inr rfl
          · omega
        case round =>
          obtain ⟨kk, r, hkk, hor, rfl, hgh, hwk, hgr⟩ := hrel
          obtain ⟨q1, q2, q3, q4, q5⟩ := CF.out wr hgr
          obtain ⟨b1, b2, b3⟩ := HB.out
          have ck := hwk.cell 0
          have fk := hwk.free 0
          have t5 : decide (kk < tot) = true := decide_eq_true (by omega)
          have t5' : decide ((kk : Int) < tot) = true := decide_eq_true (by omega)
          have hk6 : (kk : Int) ≤ 1000000 := by have := HTL.out; omega
          have hk0 : (0 : Int) ≤ kk := by omega
          obtain ⟨e1, e2⟩ := HFF.out
          by_cases hkf : (kk : Int) < f
          · have t6 : decide ((kk : Int) < f) = true := decide_eq_true hkf
            have hi0 : i = 0 := by
              rcases hor with h | h
              · exact h
              · omega
            have hk1 : kk + 1 ≤ fm + i := by
              rcases Nat.eq_zero_or_pos fm with h | h
              · have := e2 h; omega
              · have := e1 h; omega
            have HK1 := Lib.hid hk1; have HI0 := Lib.hid hi0
            have HW2 := Lib.hid (hwk.put 0 (.int .i64 ((kk : Int) + 1)))
            have HG2 := Lib.hid (grown_trans hgr (grown_set wr kB (.int .i64 ((kk : Int) + 1))))
            clear hkf hi0 hk1 hor hwk hgr q4 q5 b1 b2 b3 e1 e2 hkk
            gi_wp2_with fail
            gi_roundg (r - 1)
            case rel => exact ⟨kk + 1, r - 1, HK1.out, Or.inl HI0.out, rfl, by omega, HW2.out, HG2.out⟩
            case measure => have := HK1.out; omega
          · have t6 : decide ((kk : Int) < f) = false := decide_eq_false hkf
            have hk1 : kk = fm + i := by
              rcases hor with h | h
              · subst h
                rcases Nat.eq_zero_or_pos fm with h | h
                · omega
                · have := e1 h; omega
              · exact h
            subst hk1
            obtain ⟨wb0, woff, wu, e9, cwu, hwu⟩ := q4.pos (i := fm + i) (by rw [all_len, HTOT.out]; exact b1)
            obtain ⟨hl2, e8⟩ := List.getElem?_eq_some_iff.1 HAT.out
            rw [e8] at hwu
            have SD := same_dec q5 hwu.1 (by rw [HLI.out]; have := HN4.out; omega)
            rw [decide_eq_true (show LL i = LL i from rfl)] at SD
            subst e9
            obtain ⟨_, Au, cu, rfl, _⟩ := hwu
            rw [HLI.out] at SD cwu
            have t7 : decide (tot ≤ fm + i) = false := decide_eq_false (by omega)
            have t7' : decide ((tot : Int) ≤ (fm : Int) + i) = false := decide_eq_false (by omega)
            have t8 : decide (t ≤ (fm : Int) + i) = false := decide_eq_false (by omega)
            have i1 : (fm : Int) + i < tot := by omega
            have i2 : (0 : Int) ≤ (fm : Int) + i := by omega
            have i3 : (fm : Int) + i ≤ 1000000 := by omega
            have HSD := Lib.hid SD; have HGR := Lib.hid hgr; have HWK := Lib.hid hwk
            clear hkf hor hgr hwk q4 q5 b1 b2 b3 e1 e2 hkk SD hl2 e8 hgh
            gi_wp2_with fail
            refine ⟨trivial, ?_⟩
            refine (CallsIn.inRound l (callsIn_wide.2 HSD.out)).mono ?_
            rintro e W5 ⟨rfl, hb5⟩
            have hwk5 := HWK.out.below hb5 HWK.out.lt
            have ck5 : W5.cell? ⟨kB, 0, none⟩ = some (.int .i64 ((fm : Int) + i)) := hwk5.cell 0
            have fk5 := hwk5.free 0
            have hfin : Whole (W5.setCell ⟨kB, 0, none⟩ (.int .i64 ((fm : Int) + i + 1))) kB 3 #[.int .i64 (gAt fm (i + 1) : Nat)] := by
              have := hwk5.put 0 (.int .i64 ((fm : Int) + i + 1))
              rw [show ((gAt fm (i + 1) : Nat) : Int) = (fm : Int) + i + 1 by unfold gAt; rw [if_neg (Nat.succ_ne_zero i)]; omega]
              exact this
            have HN := Lib.hid (fun a => HNX.out _ a (grown_trans (grown_trans HGR.out (grown_of_below hb5 _)) (grown_set W5 kB (.int .i64 ((fm : Int) + i + 1)))) hfin)
            clear hb5 hwk5 hfin ck fk
            gi_wp2_with fail
            exact HN.out _
      case done =>
        rintro G1 X1 hG1 ⟨hgr1, hk1⟩ hD1
        obtain ⟨kk, hkk⟩ : ∃ kk, gAt fm N1 = kk := ⟨_, rfl⟩
        rw [hkk] at hk1
        have hkk2 : (N1 = 0 ∧ kk = 0) ∨ (0 < N1 ∧ kk = fm + N1) := by
          rw [← hkk]; unfold gAt
          rcases Nat.eq_zero_or_pos N1 with h | h
          · exact Or.inl ⟨h, if_pos h⟩
          · exact Or.inr ⟨h, if_neg (by omega)⟩
        have hfl : w.heap.size < kB := by have := HF8.out.lt; have := HWL.out; have := HF2.out.lt; have := HB6.out.size; have := HKW.out; omega
        have htl : tB < kB := by have := HT2b.out.lt; have := HB6.out.size; have := HKW.out; have := HWL.out; omega
        have hBk : Below kB w8 X1 := ⟨hgr1.os, hgr1.tape, hgr1.output, hgr1.size, fun b hb => hgr1.block b (by have := HS8.out; omega) (by simp; omega)⟩
        have cf := (hBk.cell (p := ⟨w.heap.size, 0, none⟩) hfl).trans (HF8.out.cell 0)
        have ct := (hBk.cell (p := ⟨tB, 0, none⟩) htl).trans (HT8.out.cell 0)
        have hwk : wnB < kB := by have := HKW.out; omega
        have cw1 := (hBk.cell (p := ⟨wnB, 0, none⟩) hwk).trans (HWN.out.cell 0)
        have ck := hk1.cell 0
        have HGR1 := Lib.hid hgr1; have HBK := Lib.hid hBk; have HD1 := Lib.hid hD1; have HKK := Lib.hid hkk2; have HQ := Lib.hid (And.intro hfl (And.intro htl hwk))
        have hkl : kk ≤ 1000000 := by have := HTL.out; have := HN1.out; have := HFM.out; omega
        have hk0 : (0 : Int) ≤ kk := by omega
        have hkl' : (kk : Int) ≤ 1000000 := by omega
        clear hG1 hgr1 hk1 hD1 hkk hkk2 hfl htl hBk hwk
        go_upto_region 18 with fail
        go_cut [109] from 85 to 110 (fun x wx => CutIs false X1 x wx)
        case first => as_aux_lemma =>
          have hno : f < t → kk < tot → (kk : Int) < t → ¬ f ≤ (kk : Int) ∧ ¬ f < (tot : Int) := by
            have := HKK.out; have := HN1.out; have := HFM.out
            omega
          have HNO := Lib.hid hno
          clear hno
          by_cases h1 : f < t
          · have d1 : decide (f < t) = true := decide_eq_true h1
            by_cases h2 : kk < tot
            · have d2 : decide (kk < tot) = true := decide_eq_true h2
              have d2' : decide ((kk : Int) < tot) = true := decide_eq_true (by omega)
              by_cases h3 : (kk : Int) < t
              · have d3 : decide ((kk : Int) < t) = true := decide_eq_true h3
                obtain ⟨n1, n2⟩ := HNO.out h1 h2 h3
                have d4 : decide (f ≤ (kk : Int)) = false := decide_eq_false n1
                have d5 : decide (f < (tot : Int)) = false := decide_eq_false n2
                clear h1 h2 h3 n1 n2
                go_wp2_with fail
                go_meet
                exact ⟨rfl, rfl⟩
              · have d3 : decide ((kk : Int) < t) = false := decide_eq_false h3
                clear h1 h2 h3
                go_wp2_with fail
                go_meet
                exact ⟨rfl, rfl⟩
            · have d2 : decide (kk < tot) = false := decide_eq_false h2
              have d2' : decide ((kk : Int) < tot) = false := decide_eq_false (by omega)
              clear h1 h2
              go_wp2_with fail
              go_meet
              exact ⟨rfl, rfl⟩
          · have d1 : decide (f < t) = false := decide_eq_false h1
            clear h1
            go_wp2_with fail
            go_meet
            exact ⟨rfl, rfl⟩
        case rest =>
          obtain ⟨rfl, hwc⟩ := hcut
          obtain rfl := hwc
          have hkw := HKW.out
          have hwl := HWL.out
          have b5c : Below w5.heap.size w5 wc := HB58.out.trans (HBK.out.mono (by omega))
          have b2c : Below w2.heap.size w2 wc := HB6.out.trans (b5c.mono HB6.out.size)
          have b6c : Below w6.heap.size w6 wc := HB68.out.trans (HBK.out.mono (by have := HWNB.out; omega))
          have TT := Lib.hid (rtotal_any (HR5.out.below b5c (Nat.le_refl _)) (by have := HC5.out; omega))
          have hdl : w9.heap.size < wc.heap.size := (Array.getElem?_eq_some_iff.1 HD1.out).1
          have HNE : Hid (rB < w9.heap.size) := Lib.hid (by
            have h1 := HR4.out.lt
            have h2 := HB6.out.size
            have := HD9.out
            omega)
          have ENDF : Hid (∀ X, Below wc.heap.size wc X → Whole X rB 4 #[.bool false] ∧ X.heap[w9.heap.size]? = some (.deferred (some [])) ∧ ∀ b, ∃ X', (X.setCell ⟨rB, 0, none⟩ (.bool b)).putObj w9.heap.size (.deferred none) = X' ∧ Whole X' rB 4 #[.bool b] ∧ Below w.heap.size w X') := Lib.hid (fun X hX => by
            obtain ⟨r0, r1, r2, r3⟩ := (FIN.out X (b2c.trans (hX.mono b2c.size))).out
            have hne : rB < w9.heap.size := by
              have h1 := HR4.out.lt
              have h2 := HB6.out.size
              have := HD9.out
              omega
            refine ⟨r1, (hX.block _ hdl).trans HD1.out, fun b => ⟨_, rfl, (r2 b).grown (grownBy_putObj' _ w9.heap.size (.deferred none)) (by simp; omega), (r3 b).grown (grownBy_putObj' _ w9.heap.size (.deferred none)) (r3 b).size (fun j hj => by cases hj; have := HWR.out; omega)⟩⟩)
          have HB5C := Lib.hid b5c; have HB6C := Lib.hid b6c; have HB2C := Lib.hid b2c
          have HWNL := Lib.hid (show wnB < wc.heap.size by have := HD9.out; omega)
          have HWC := Lib.hid cw1
          clear hkw hwl b5c b2c b6c hdl cf ct cw1 ck FIN HQ HD1 HBK HGR1 HKK HD9 H0 HB9 HNB HFF HIT HN1 HFM HLL HF8 HT8 HK8 HB58 HW7 HW8 HB68 L9 HF2 HT2b
          go_upto_region 20 with fail
          go_wp2_with fail
          refine TT.out.mono ?_; rintro e w20 ⟨rfl, hb20⟩
          rw [HTOT.out]
          have HB20 := Lib.hid hb20
          clear hb20 TT
          have tt0 : (0 : Int) ≤ tot := by omega
          have tt1 : (tot : Int) ≤ 1000000 := by have := HTL.out; omega
          by_cases hbad : m < 1 ∨ 64 < m
          · have HBAD := Lib.hid hbad
            clear hbad
            go_wp2_with fail
            refine (split_bad tot m _ (Or.inr HBAD.out)).mono ?_; rintro e w21 ⟨rfl, hw21⟩
            have b21 : Below w20.heap.size w20 w21 := by rw [← hw21]; exact (Below.refl _ _).alloc (Nat.le_refl _) _
            have g21 : ErrT w21 := HG2.out.below (HB2C.out.trans (HB20.out.trans (b21.mono HB20.out.size) |>.mono HB2C.out.size)) (Nat.le_refl _)
            have c21 : w21.cell? ⟨w20.heap.size, 0, none⟩ = some (.int .i64 1) := by rw [← hw21]; simp
            have CH := Lib.hid (code_hit w20.heap.size 1 w21 g21 c21)
            have HB21 := Lib.hid (HB20.out.trans (b21.mono HB20.out.size))
            clear hw21 b21 g21 c21
            go_upto_region 21 with fail
            go_cut [122] from 117 to 123 (fun x wx => CutIs true w21 x wx)
            case first => as_aux_lemma =>
              by_cases h1 : m < 1
              · have d1 : decide (m < 1) = true := decide_eq_true h1
                clear h1
                go_wp2_with fail
                go_meet
                exact ⟨rfl, rfl⟩
              · have d1 : decide (m < 1) = false := decide_eq_false h1
                have d2 : decide (64 < m) = true := decide_eq_true (by have := HBAD.out; omega)
                clear h1
                go_wp2_with fail
                go_meet
                exact ⟨rfl, rfl⟩
            case rest =>
              obtain ⟨rfl, hwd⟩ := hcut
              obtain rfl := hwd
              go_wp2_with fail
              refine CH.out.mono ?_; rintro e w23 ⟨rfl, hb23⟩
              obtain ⟨x1, x2, x3⟩ := ENDF.out w23 (HB21.out.trans (hb23.mono HB21.out.size))
              have f3 := x1.free 0
              have c3 : w23.cell? ⟨rB, 0, none⟩ = some (.bool false) := x1.cell 0
              have HX2 := Lib.hid x2; have HX3 := Lib.hid x3
              clear hb23 x1 x2 x3
              go_wp2_with fail
              obtain ⟨X', rfl, k1, k2⟩ := HX3.out true
              have hne : w9.heap.size ≠ rB := by have := HNE.out; omega
              refine ⟨by simp, .inl ⟨_, _, rfl, run_takeDeferred ((Below.heap_setCell _ _ _ _ hne).trans HX2.out), ?_⟩⟩
              exact ⟨_, results_bool rfl _ _ _ _ rfl k1, rfl, k2⟩
          · obtain ⟨mm, rfl⟩ : ∃ mm : Nat, m = mm := ⟨m.toNat, by omega⟩
            have q0 : 1 ≤ mm := by omega
            have q1 : mm ≤ 64 := by omega
            have hE := sp_ends (tot : Int) mm tt0 q0
            have hs := split_ok (tot : Int) mm (sp tot mm) w20 tt0 (by omega) q0 q1 hE
            obtain ⟨S, hS⟩ : ∃ S, sp (tot : Int) mm = S := ⟨_, rfl⟩
            rw [hS] at hE hs
            have HS := Lib.hid hs
            have HQ0 := Lib.hid q0; have HQ1 := Lib.hid q1
            have S0 : Hid (S 0 = 0) := Lib.hid hE.zero
            have SN : Hid (S mm = tot) := Lib.hid hE.all
            have dq : 0 ≤ (tot : Int) / mm := Int.ediv_nonneg tt0 (by omega)
            have SM : Hid (∀ k, k < mm → 0 ≤ S k ∧ S k ≤ S (k + 1) ∧ S (k + 1) ≤ tot) := Lib.hid (fun k hk => ⟨hE.lo k (by omega), by
              by_cases h : (k : Int) < (tot : Int) % mm
              · have := hE.long k h; omega
              · have := hE.short k h hk; omega, hE.hi (k + 1) (by omega)⟩)
            have d1 : decide ((mm : Int) < 1) = false := decide_eq_false (by omega)
            have d2 : decide (64 < (mm : Int)) = false := decide_eq_false (by omega)
            clear hbad q0 q1 hE hs hS dq
            go_wp2_with fail
            refine HS.out.mono ?_; rintro e w21 ⟨v, rfl, ⟨pb, poff, pcap, rfl⟩, hv, hb21⟩
            have HB21 := Lib.hid (HB20.out.trans (hb21.mono HB20.out.size))
            have PV : Hid (∀ i, i < mm → w21.cell? ⟨pb, poff + i * 2, none⟩ = some (.int .i64 (S i)) ∧ w21.cell? ⟨pb, poff + i * 2 + 1, none⟩ = some (.int .i64 (S (i + 1)))) := Lib.hid (by
              rcases hv with ⟨h, _⟩ | ⟨_, b, off, cap, e, hc⟩
              · have := HQ0.out; omega
              · injection e with e1 e2 e3
                injection e1 with e4
                injection e4 with e5 e6
                subst e5 e6
                exact hc)
            clear hv hb21 HS
            go_wp2_with fail
            go_loopg [20, 21] mm (fun gh x y wr => ∃ k, k ≤ mm ∧ gh = mm - k ∧ x = .int .i64 (S k) ∧ y = .int .i64 (k : Nat) ∧ Below w21.heap.size w21 wr)
            case atStart => exact ⟨0, Nat.zero_le _, rfl, by rw [S0.out], by go_num, Below.refl _ _⟩
            case round =>
              obtain ⟨k, hk, rfl, rfl, rfl, hbr⟩ := hrel
              have HBR := Lib.hid hbr
              clear hbr
              by_cases hlt : k < mm
              · obtain ⟨p1, p2⟩ := PV.out k hlt
                have hpl : pb < w21.heap.size := World.block_lt_of_cell? _ _ p1
                have p1r : wr.cell? ⟨pb, poff + k * 2, none⟩ = some (.int .i64 (S k)) := (HBR.out.cell (p := ⟨pb, poff + k * 2, none⟩) hpl).trans p1
                have p2r : wr.cell? ⟨pb, poff + k * 2 + 1, none⟩ = some (.int .i64 (S (k + 1))) := (HBR.out.cell (p := ⟨pb, poff + k * 2 + 1, none⟩) hpl).trans p2
                obtain ⟨s0, s1, s2⟩ := SM.out k hlt
                obtain ⟨a, ha⟩ : ∃ a : Nat, S k = a := ⟨(S k).toNat, by omega⟩
                obtain ⟨b, hb⟩ : ∃ b : Nat, S (k + 1) = b := ⟨(S (k + 1)).toNat, by omega⟩
                rw [ha] at p1r s0 s1 ⊢
                rw [hb] at p2r s1 s2
                obtain ⟨L, hL2⟩ : ∃ L : Nat, b = a + L := ⟨b - a, by omega⟩
                have b5r : Below w5.heap.size w5 wr := HB5C.out.trans (HB21.out.trans (HBR.out.mono HB21.out.size |> fun h => h.mono (Nat.le_refl _)) |>.mono HB5C.out.size)
                have CL := collect_any HR5.out b5r.block b5r.size HG1.out (by have := HN4.out; omega) (by have := HC5.out; omega) HT2.out (f := (a : Int)) (t := (b : Int)) (N := L) (by rw [HTOT.out]; omega)
                rw [show (max (a : Int) 0).toNat = a by omega] at CL
                have HCL2 := Lib.hid CL
                have HA := Lib.hid ha; have HBK2 := Lib.hid hb; have HL2 := Lib.hid hL2; have HLT := Lib.hid hlt
                have i1 : (k : Int) < mm := by omega
                have i2 : (0 : Int) ≤ k := by omega
                have t6 : decide ((k : Int) < mm) = true := decide_eq_true i1
                have hkm : (k : Int) ≤ 64 := by have := HQ1.out; omega
                have abt : a + L ≤ tot := by omega
                have ABT := Lib.hid abt
                clear p1 p2 hpl s0 s1 s2 ha hb hL2 hlt CL b5r abt hk
                go_wp2_with fail
                refine HCL2.out.mono ?_; rintro e w27 ⟨u, rfl, hro, hb27⟩
                have hlu := hro.lists
                obtain ⟨Au, cu, rfl⟩ := hro.form
                rw [segP_len] at hlu ⊢
                have hb21 : Below w21.heap.size w21 w27 := HBR.out.trans (hb27.mono HBR.out.size)
                have hbc : Below wc.heap.size wc w27 := HB21.out.trans (hb21.mono HB21.out.size)
                have hb6 : Below w6.heap.size w6 w27 := HB6C.out.trans (hbc.mono HB6C.out.size)
                have hvw := HV6.out.below hb6 (Nat.le_refl _)
                have hcw : w27.cell? ⟨wnB, 0, none⟩ = some (.slice Aw tot cw) := (hbc.cell (p := ⟨wnB, 0, none⟩) HWNL.out).trans HWC.out
                have hwnl : wnB < w27.heap.size := Nat.lt_of_lt_of_le HWNL.out hbc.size
                have WF : Hid (∀ X, Below w27.heap.size w27 X → X.cell? ⟨wnB, 0, none⟩ = some (.slice Aw tot cw) ∧ ∀ j, j < L → ∃ (b1 o1 : Nat) (u1 : Value) (b2 o2 : Nat) (u2 : Value) (Y : List Int), Au = some ⟨b1, o1, none⟩ ∧ Aw = some ⟨b2, o2, none⟩ ∧ X.cell? ⟨b1, o1 + j, none⟩ = some u1 ∧ X.cell? ⟨b2, o2 + (a + j), none⟩ = some u2 ∧ Y.length = N ∧ SeqC X u1 Y ∧ SeqC X u2 Y) := Lib.hid (fun X hX => ⟨(hX.cell (p := ⟨wnB, 0, none⟩) hwnl).trans hcw, fun j hj => by
                  have h1 : a + j < (allP N C).length := by rw [all_len, HTOT.out]; have := ABT.out; omega
                  obtain ⟨b1, o1, u1, e1, c1, k1⟩ := (hlu.below hX (Nat.le_refl _)).pos (i := j) (by rw [segP_len]; exact hj)
                  obtain ⟨b2, o2, u2, e2, c2, k2⟩ := (hvw.below hX (Nat.le_refl _)).pos (i := a + j) h1
                  have e3 := segP_at N C a hj
                  obtain ⟨h3, e4⟩ := List.getElem?_eq_some_iff.1 e3
                  rw [e4] at k1
                  have e5 : (allP N C).getD (a + j) [] = (allP N C)[a + j] := by simp [List.getD, h1]
                  rw [e5] at k1
                  exact ⟨b1, o1, u1, b2, o2, u2, _, e1, e2, c1, c2, all_length HG1.out (List.getElem_mem h1), k1, k2⟩⟩)
                have HB27 := Lib.hid hb21
                clear hlu hro hb21 hbc hb6 hvw hcw hwnl hb27 p1r p2r HCL2
                go_wp2_with fail
                go_loopg [20, 23] L (fun gh x y wt => ∃ j, j ≤ L ∧ gh = L - j ∧ x = .int .i64 ((a : Int) + j) ∧ y = .int .i64 (j : Nat) ∧ Below w27.heap.size w27 wt)
                case atStart => exact ⟨0, Nat.zero_le _, rfl, by go_num, by go_num, Below.refl _ _⟩
                case round =>
                  obtain ⟨j, hj, rfl, rfl, rfl, hbt⟩ := hrel
                  have HBT := Lib.hid hbt
                  clear hbt
                  by_cases hjl : j < L
                  · obtain ⟨cw2, hwf⟩ := WF.out wr HBT.out
                    obtain ⟨b1, o1, u1, b2, o2, u2, Y, rfl, rfl, c1, c2, hY, k1, k2⟩ := hwf j hjl
                    have SD := same_dec k1.1 k2.1 (by rw [hY]; have := HN4.out; omega)
                    rw [show a + j = ((a : Int) + j).toNat by omega] at c2
                    have l1 : b1 < wr.heap.size := World.block_lt_of_cell? _ _ c1
                    have l2 : b2 < wr.heap.size := World.block_lt_of_cell? _ _ c2
                    have l3 : wnB < wr.heap.size := World.block_lt_of_cell? _ _ cw2
                    have i3 : (j : Int) < L := by omega
                    have i4 : (0 : Int) ≤ j := by omega
                    have i5 : (a : Int) + j < tot := by have := ABT.out; omega
                    have i6 : (0 : Int) ≤ (a : Int) + j := by omega
                    have i7 : (a : Int) + j ≤ 1000000 := by omega
                    have i8 : (j : Int) ≤ 1000000 := by omega
                    have i9 : ¬ (tot : Int) ≤ (a : Int) + j := by omega
                    have t7 : decide ((j : Int) < L) = true := decide_eq_true i3
                    have t8 : decide ((tot : Int) ≤ (a : Int) + j) = false := decide_eq_false i9
                    have SDX : Hid (∀ X, Below wr.heap.size wr X → Calls Tryz.prog 15 #[u1, u2] X fun e w' => e = .returned (.bool true) ∧ Below wr.heap.size wr w') := Lib.hid (fun X hX => by
                      have := same_dec (k1.1.below hX (Nat.le_refl _)) (k2.1.below hX (Nat.le_refl _)) (by rw [hY]; have := HN4.out; omega)
                      rw [decide_eq_true (show Y = Y from rfl)] at this
                      exact this.mono (fun e w' ⟨h1, h2⟩ => ⟨h1, hX.trans (h2.mono hX.size)⟩))
                    have KS : Hid (∀ X, Below wr.heap.size wr X → Below wr.heap.size wr X ∧ X.cell? ⟨wnB, 0, none⟩ = some (.slice (some ⟨b2, o2, none⟩) tot cw) ∧ X.cell? ⟨b1, o1 + j, none⟩ = some u1 ∧ X.cell? ⟨b2, o2 + ((a : Int) + j).toNat, none⟩ = some u2) := Lib.hid (fun X hX => ⟨hX, (hX.cell (p := ⟨wnB, 0, none⟩) l3).trans cw2, (hX.cell (p := ⟨b1, o1 + j, none⟩) l1).trans c1, (hX.cell (p := ⟨b2, o2 + ((a : Int) + j).toNat, none⟩) l2).trans c2⟩)
                    obtain ⟨_, A1, x1, e1, _⟩ := k1
                    obtain ⟨_, A2, x2, e2, _⟩ := k2
                    rw [hY] at e1 e2
                    subst e1 e2
                    have HJL := Lib.hid hjl
                    clear hwf SD l1 l2 l3 c1 c2 cw2 hY hjl hj
                    go_upto_region 31 with fail
                    go_cut [164] from 149 to 165 (fun x wx => x = .bool false ∧ Below wr.heap.size wr wx)
                    case first => as_aux_lemma =>
                      go_region_held3 (fun X => Below wr.heap.size wr X ∧ X.cell? ⟨wnB, 0, none⟩ = some (.slice (some ⟨b2, o2, none⟩) tot cw) ∧ X.cell? ⟨b1, o1 + j, none⟩ = some (.slice A1 N x1) ∧ X.cell? ⟨b2, o2 + ((a : Int) + j).toNat, none⟩ = some (.slice A2 N x2))
                        (exact KS.out _ (by first | assumption | exact below_drewN' (Below.refl _ _) 1))
                        ((go_at_call 15; refine (SDX.out _ (by first | assumption | exact below_drewN' (Below.refl _ _) 1)).mono ?_; rintro e' w' ⟨rfl, hw⟩))
                      all_goals
                        go_wp2
                        go_meet
                        exact ⟨rfl, by assumption⟩
                    case rest =>
                      obtain ⟨rfl, hbx⟩ := hcut
                      have HBX := Lib.hid (HBT.out.trans (hbx.mono HBT.out.size))
                      clear hbx
                      go_wp2_with fail
                      go_roundg (L - (j + 1))
                      case rel => exact ⟨j + 1, HJL.out, rfl, by go_num, by go_num, HBX.out⟩
                      case measure => have := HJL.out; omega
                  · obtain rfl : j = L := by omega
                    have t7 : decide ((j : Int) < j) = false := by simp
                    clear hjl
                    go_wp2_with fail
                    go_roundg (mm - (k + 1))
                    case rel => exact ⟨k + 1, HLT.out, rfl, by rw [HBK2.out, HL2.out]; go_num, by go_num, HB27.out.trans (HBT.out.mono HB27.out.size)⟩
                    case measure => have := HLT.out; omega
              · obtain rfl : k = mm := by omega
                obtain ⟨x1, x2, x3⟩ := ENDF.out wr (HB21.out.trans (HBR.out.mono HB21.out.size))
                have f3 := x1.free 0
                have c3 : wr.cell? ⟨rB, 0, none⟩ = some (.bool false) := x1.cell 0
                have cww : wr.cell? ⟨wnB, 0, none⟩ = some (.slice Aw tot cw) := ((HB21.out.trans (HBR.out.mono HB21.out.size)).cell (p := ⟨wnB, 0, none⟩) HWNL.out).trans HWC.out
                rw [SN.out]
                have t6 : decide ((k : Int) < k) = false := by simp
                have t7 : ((tot : Int) == tot) = true := by simp
                have t8 : ((k : Int) == k) = true := by simp
                have HX2 := Lib.hid x2; have HX3 := Lib.hid x3
                clear hlt x1 x2 x3
                go_wp2_with fail
                obtain ⟨X', rfl, k1, k2⟩ := HX3.out true
                have hne : w9.heap.size ≠ rB := by have := HNE.out; omega
                refine ⟨by simp, .inl ⟨_, _, rfl, run_takeDeferred ((Below.heap_setCell _ _ _ _ hne).trans HX2.out), ?_⟩⟩
                exact ⟨_, results_bool rfl _ _ _ _ rfl k1, rfl, k2⟩
end
end Go.Proofs.YtgphdngfbcjmcaaGreatDoor
