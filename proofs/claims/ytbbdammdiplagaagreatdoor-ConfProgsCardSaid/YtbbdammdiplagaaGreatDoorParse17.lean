/- prog: Parse. -/
import Derived.Test.YtbbdammdiplagaaGreatDoorSplit17
import Derived.Test.YtbbdammdiplagaaGreatDoorPg17b
import Derived.Test.YtbbdammdiplagaaGreatDoorPg17c
import Derived.Test.YtbbdammdiplagaaGreatDoorJoin
namespace Go.Proofs.YtbbdammdiplagaaGreatDoor
open Go.RowKit

theorem Tryz.infoOp17 : (Tryz.prog.info? 44).map (fun i => (i.zero, i.size, i.bytes)) = some (some (.agg #[.int .i64 0, .int .i64 0]), 2, 16) := by kernel_rfl
theorem progF_code {O : List (Int × Int)} {c p : Int} (h : progF O = some (c, p)) : c = 1 ∨ c = 3 ∨ c = 6 := by
  unfold progF at h
  split at h
  · injection h with h; injection h with h1 h2; omega
  · obtain ⟨i, _, hi⟩ := List.exists_of_findSome?_eq_some h
    unfold wrongAt at hi
    split at hi
    · cases hi
    · injection hi with hi
      injection hi with h1 h2
      rename_i hz
      unfold wrongF at h1 hz
      split at h1
      · omega
      · rename_i n1
        rw [if_neg n1] at hz
        split at h1
        · rename_i n2
          rw [if_pos n2] at hz
          split at h1
          · omega
          · rename_i n3
            rw [if_neg n3] at hz
            exact absurd rfl hz
        · rename_i n2
          rw [if_neg n2] at hz
          split at h1
          · rename_i n3
            rw [if_pos n3] at hz
            exact absurd rfl hz
          · omega
theorem opT_ne {o : Int × Int} (h : wrongF o = 0) : opT o ≠ [] := by
  obtain ⟨h1, h2, _⟩ := wrongF_zero h
  unfold opT
  intro e
  exact nameB_ne h1 h2 (List.append_eq_nil_iff.1 e).1
theorem progT_nil {O : List (Int × Int)} (h : ∀ o ∈ O, wrongF o = 0) (e : progT O = []) : O = [] := by
  rcases O with _ | ⟨o, t⟩
  · rfl
  · exfalso
    have hn := opT_ne (h o (by simp))
    rcases t with _ | ⟨q, u⟩
    · exact hn e
    · have : progT (o :: q :: u) = opT o ++ 59 :: joinB 59 ((q :: u).map opT) := rfl
      rw [this] at e
      simp at e
theorem opT_parts (O : List (Int × Int)) : ∀ p ∈ O.map opT, (59 : UInt8) ∉ p := by
  intro p hp
  obtain ⟨o, _, rfl⟩ := List.mem_map.1 hp
  exact opT_no
/-- The text of a program that is right tells it. -/
theorem parts_of {O : List (Int × Int)} {P : List (List UInt8)} (h : ∀ o ∈ O, wrongF o = 0) (hP : P ≠ []) (hO : O ≠ []) (hs : ∀ p ∈ P, (59 : UInt8) ∉ p) (e : progT O = joinB 59 P) : parseL P = .inr O := by
  have := joinB_inj2 (P := O.map opT) (Q := P) (by simpa using hO) hP (opT_parts O) hs e
  rw [← this]
  exact parseL_of h
theorem own_baseP {w : World} {b b' e s n : Nat} {v : Value} {xs : List Value} (h : w.ownsRow b e s v n xs) (hb : b' ≤ b) : w.ownsRow b' e s v n xs := by
  refine ⟨h.1, ?_⟩
  rcases h.2 with h1 | ⟨g, cap, cur, h1, h2, h3⟩
  · exact Or.inl h1
  · exact Or.inr ⟨g, cap, cur, h1, by omega, h3⟩
/-- What Parse tells. -/
def ParseTo (s : List UInt8) (w : World) (e : Ending) (w' : World) : Prop :=
  Below w.heap.size w w' ∧ ((∃ v O, e = .returned (.tuple #[v, .nilIface]) ∧ w'.ownsRow w.heap.size 44 2 v O.length (eL O) ∧ progF O = none ∧ progT O = s) ∨
    (∃ c p u P, e = .returned (.tuple #[.slice none 0 0, u]) ∧ FaultAt c p w' u ∧ s ≠ [] ∧ P ≠ [] ∧ joinB 59 P = s ∧ (∀ x ∈ P, (59 : UInt8) ∉ x) ∧ ((c = 2 ∧ ∃ k, parseL P = .inl k) ∨ ∃ O, parseL P = .inr O ∧ progF O = some (c, p))))
theorem ParseTo.code {c p : Int} {P : List (List UInt8)} (h : (c = 2 ∧ ∃ k, parseL P = .inl k) ∨ ∃ O, parseL P = .inr O ∧ progF O = some (c, p)) : c = 1 ∨ c = 2 ∨ c = 3 ∨ c = 6 := by
  rcases h with ⟨h, _⟩ | ⟨O, _, h⟩
  · omega
  · rcases progF_code h with h | h | h <;> omega
/-- The text of a program that is right is parsed. -/
theorem ParseTo.right {O : List (Int × Int)} {w w' : World} {e : Ending} (h : ParseTo (progT O) w e w') (hO : progF O = none) : ∃ v, e = .returned (.tuple #[v, .nilIface]) ∧ EdgesV w' v O ∧ Below w.heap.size w w' := by
  obtain ⟨hb, ⟨v, O', rfl, hv, h1, h2⟩ | ⟨c, p, u, P, _, _, hs, hP, hj, hx, hor⟩⟩ := h
  · refine ⟨v, rfl, ?_, hb⟩
    have r0 := (progF_none.1 hO).2
    have r1 := (progF_none.1 h1).2
    have : O' = O := by
      by_cases h0 : O = []
      · subst h0
        exact progT_nil r1 h2
      · have h0' : O' ≠ [] := fun e => by subst e; exact h0 (progT_nil r0 h2.symm)
        have a := parts_of r0 (P := O.map opT) (by simpa using h0) h0 (opT_parts O) rfl
        have b := parts_of r1 (P := O.map opT) (by simpa using h0) h0' (opT_parts O) h2
        rw [a] at b
        injection b with b
        exact b.symm
    rw [← this]
    exact own_edges hv
  · exfalso
    have r0 := (progF_none.1 hO).2
    have h0 : O ≠ [] := fun e => by subst e; exact hs rfl
    have a := parts_of r0 hP h0 hx hj.symm
    rcases hor with ⟨_, k, hk⟩ | ⟨O', h1, h2⟩
    · rw [a] at hk; cases hk
    · rw [a] at h1
      injection h1 with h1
      rw [← h1, hO] at h2
      cases h2
theorem str_nil : str [] = (⟨#[]⟩ : ByteArray) := rfl

set_option maxRecDepth 100000 in
set_option maxHeartbeats 4000000 in
theorem progParse_any (s : List UInt8) (hs : s.length ≤ 100000) (w : World) (hg : GT w) :
    Calls Tryz.prog 52 #[.string (str s)] w (ParseTo s w) := by
  by_cases h0 : s = []
  · subst h0
    have HE : Hid (ParseTo [] w (.returned (.tuple #[.slice none 0 0, .nilIface])) w) := Lib.hid ⟨Below.refl _ _, Or.inl ⟨_, [], rfl, World.ownsRow_nil _ _ _ 2, by decide, rfl⟩⟩
    rw [str_nil]
    go_enter Tryz.func52, Tryz.ntmps52
    go_wp2_with fail
    go_ret2
    exact HE.out
  · obtain ⟨j0, hj0, hz0, hz1, hz2⟩ := info_parts Tryz.infoOp17
    have HSP := Lib.hid (split_at s w hg (by omega))
    have HG := Lib.hid hg
    obtain ⟨t, ht⟩ : ∃ t, str s = t := ⟨_, rfl⟩
    rw [ht] at HSP ⊢
    have t1 : (t.toList == ([] : List UInt8)) = false := by rw [← ht, str_toList]; simpa using h0
    have t1' : (t.toList == (⟨#[]⟩ : ByteArray).toList) = false := by rw [← ht, str_toList, ← str_nil, str_toList]; simpa using h0
    have HS0 := Lib.hid h0; have HSL := Lib.hid hs
    clear ht h0 hg hs
    go_enter Tryz.func52, Tryz.ntmps52
    go_wp2_with fail
    refine HSP.out.mono ?_; rintro e w1 ⟨hb1, P, rfl, hP, hjn, hno, cs, hW, hcs⟩
    obtain ⟨pb, hpb⟩ : ∃ g, w.heap.size = g := ⟨_, rfl⟩
    rw [hpb] at hW ⊢
    obtain ⟨n, hn⟩ : ∃ n, P.length = n := ⟨_, rfl⟩
    rw [hn] at hcs ⊢
    have hcell : ∀ W, Below w1.heap.size w1 W → ∀ i, i < n → W.cell? ⟨pb, i, none⟩ = some (.string (str (P.getD i []))) := fun W hb i hi => by
      have h := hW.below hb hW.lt
      rw [h.cell, hcs i hi]
    have HB1 := Lib.hid hb1; have HPP := Lib.hid hP; have HJN := Lib.hid hjn; have HNO := Lib.hid hno; have HCL := Lib.hid hcell; have HN := Lib.hid hn; have HPB := Lib.hid hpb
    obtain ⟨o, ho⟩ : ∃ o : Nat → Int × Int, ∀ i, o i = (parse1 (P.getD i [])).getD (0, 0) := ⟨_, fun _ => rfl⟩
    have HO := Lib.hid ho
    have hn2 : n ≤ 100001 := by have := joinB_len (b := 59) hP; rw [hjn, hn] at this; have := HSL.out; omega
    clear hb1 hP hjn hno hW hcs hcell hn hpb ho
    go_wp2_with fail
    go_loopg [4, 15] n (fun g rv y wr => ∃ k, k ≤ n ∧ g = n - k ∧ y = .int .i64 (k : Nat) ∧ (∀ i, i < k → parse1 (P.getD i []) = some (o i)) ∧ wr.ownsRow w1.heap.size 44 2 rv k (eL ((List.range k).map o)) ∧ Below w1.heap.size w1 wr)
    case atStart => exact ⟨0, Nat.zero_le _, rfl, rfl, fun i hi => absurd hi (Nat.not_lt_zero i), World.ownsRow_nil _ _ _ 2, Below.refl _ _⟩
    case round =>
      obtain ⟨k, hk, rfl, rfl, hall, hown, hB⟩ := hrel
      obtain ⟨A, c, rfl⟩ := own_form hown
      have HALL := Lib.hid hall
      clear hall
      by_cases hlt : k < n
      · have c0 := HCL.out wr hB k hlt
        have hlen : (P.getD k []).length ≤ 1000000 := by
          have h1 : P.getD k [] ∈ P := by
            rw [getD_listE (by rw [HN.out]; exact hlt)]
            exact List.getElem_mem _
          have h2 := join_mem_len (b := 59) h1
          rw [HJN.out] at h2
          have := HSL.out
          omega
        have HPA := Lib.hid (parse_any (P.getD k []) hlen wr (HG.out.below (HB1.out.trans (hB.mono HB1.out.size)) (Nat.le_refl _)))
        have t3 : decide (k < n) = true := decide_eq_true hlt
        have i1 : (k : Int) < n := by omega
        have i2 : (0 : Int) ≤ k := by omega
        have HLT := Lib.hid hlt; have HOW := Lib.hid hown; have HB := Lib.hid hB
        obtain ⟨x, hx⟩ : ∃ x, str (P.getD k []) = x := ⟨_, rfl⟩
        rw [hx] at c0 HPA
        clear hlt hown hB hlen hx
        go_wp2_with fail
        refine HPA.out.mono ?_; rintro e w2 ⟨hb2, ⟨a, q, hp1, rfl⟩ | ⟨hp1, a, q, rfl⟩⟩
        · have hoK : o k = (a, q) := by rw [HO.out, hp1]; rfl
          have hown2 := (own_below HOW.out hb2 (Nat.le_refl _)).alloc (.cells #[.int .i64 a, .int .i64 q] 44)
          have hb3 : Below w1.heap.size w1 (w2.alloc (.cells #[.int .i64 a, .int .i64 q] 44)) := (HB.out.trans (hb2.mono HB.out.size)).alloc (HB.out.trans (hb2.mono HB.out.size)).size _
          have hG3 := Whole.new w2 44 #[.int .i64 a, .int .i64 q]
          obtain ⟨w3, hw3⟩ : ∃ W, w2.alloc (.cells #[.int .i64 a, .int .i64 q] 44) = W := ⟨_, rfl⟩
          obtain ⟨gb, hgb⟩ : ∃ g, w2.heap.size = g := ⟨_, rfl⟩
          rw [hw3] at hown2 hb3 hG3
          rw [hgb] at hG3
          have e0 : w3.cell? ⟨gb, 0, none⟩ = some (.int .i64 a) := hG3.cell 0
          have e1 : w3.cell? ⟨gb, 1, none⟩ = some (.int .i64 q) := hG3.cell 1
          have HOW4 := Lib.hid (hown2.alloc (.cells #[.int .i64 a, .int .i64 q] 44))
          have hb4 : Below w1.heap.size w1 (w3.alloc (.cells #[.int .i64 a, .int .i64 q] 44)) := hb3.alloc hb3.size _
          have hs4 := hb4.size
          have HN4 := Lib.hid (edges_new w3 44 a q 1)
          have HB4 := Lib.hid hb4
          have HTK : Hid (eL ((List.range (k + 1)).map o) = eL ((List.range k).map o) ++ eL [(a, q)]) := Lib.hid (by rw [List.range_succ, List.map_append, eL_app, List.map_cons, List.map_nil, hoK])
          have HP1 : Hid (parse1 (P.getD k []) = some (o k)) := Lib.hid (by rw [hp1, hoK])
          have HW3 := Lib.hid hw3; have HGB := Lib.hid hgb
          clear hown2 hb3 hG3 hw3 hgb hb4 hb2 hp1 hoK c0
          go_upto_region 8 with fail
          rw [HW3.out, HGB.out]
          go_wp2_with (at_builtin; refine wpList_appEdges _ rfl _ _ 27 44 rfl w1.heap.size j0 (.agg #[.int .i64 0, .int .i64 0]) Tryz.underlying27 hj0 hz0 rfl hz1 hz2 _ k _ rfl HOW4.out _ [(a, q)] rfl HN4.out (by simp; omega) hs4 ?_)
          intro A3 c3 w7 hown5 hgrow5
          have HB5 := Lib.hid (hgrow5.below HOW4.out HB4.out (Nat.le_refl _) hs4)
          have HO5 := Lib.hid hown5
          clear hown5 hgrow5 e0 e1
          go_wp2_with fail
          go_roundg (n - (k + 1))
          case rel =>
            refine ⟨k + 1, HLT.out, rfl, by go_num, fun i hi => ?_, by rw [HTK.out]; exact HO5.out, HB5.out⟩
            rcases Nat.lt_or_ge i k with h | h
            · exact HALL.out i h
            · obtain rfl : i = k := by omega
              exact HP1.out
          case measure => have := HLT.out; omega
        · have hb3 : Below w1.heap.size w1 (w2.alloc (.cells #[.int .i64 a, .int .i64 q] 44)) := (HB.out.trans (hb2.mono HB.out.size)).alloc (HB.out.trans (hb2.mono HB.out.size)).size _
          obtain ⟨w3, hw3⟩ : ∃ W, w2.alloc (.cells #[.int .i64 a, .int .i64 q] 44) = W := ⟨_, rfl⟩
          obtain ⟨gb, hgb⟩ : ∃ g, w2.heap.size = g := ⟨_, rfl⟩
          rw [hw3] at hb3
          have HF := Lib.hid (new_any 2 k ⟨#[116, 101, 115, 116]⟩ w3)
          have HFB := Lib.hid (fault_new 2 k ⟨#[116, 101, 115, 116]⟩ w3)
          have HLB : Hid (parseL P = .inl k) := Lib.hid (parseL_bad (by rw [HN.out]; exact HLT.out) (fun i hi => by rw [HALL.out i hi]; simp) hp1)
          have HBB := Lib.hid (HB1.out.trans (hb3.mono HB1.out.size))
          have HW3 := Lib.hid hw3; have HGB := Lib.hid hgb
          clear hb3 hw3 hgb hb2 hp1 c0
          go_upto_region 8 with fail
          rw [HW3.out, HGB.out]
          go_wp2_with fail
          refine HF.out.mono ?_; rintro e w5 ⟨rfl, rfl⟩
          go_wp2_with fail
          go_ret2
          exact ⟨HBB.out.trans (HFB.out.1.mono HBB.out.size), Or.inr ⟨2, k, _, P, rfl, HFB.out.2, HS0.out, HPP.out, HJN.out, HNO.out, Or.inl ⟨rfl, k, HLB.out⟩⟩⟩
      · obtain rfl : k = n := by omega
        have t3 : decide (k < k) = false := by simp
        obtain ⟨O, hOO⟩ : ∃ O, (List.range k).map o = O := ⟨_, rfl⟩
        rw [hOO] at hown
        have hOl : O.length = k := by rw [← hOO]; simp
        have HPL : Hid (parseL P = .inr O) := Lib.hid (parseL_ok.2 ⟨by rw [HN.out, hOl], fun i hi => by
          rw [HN.out] at hi
          rw [HALL.out i hi, ← hOO]
          simp [List.getD, hi]⟩)
        have hE := own_edges hown
        have HOWP : Hid (wr.ownsRow w.heap.size 44 2 (.slice A k c) O.length (eL O)) := Lib.hid (by rw [hOl]; exact own_baseP hown HB1.out.size)
        have HR := Lib.hid (progRight_any hE (by omega))
        have HBB := Lib.hid (HB1.out.trans (hB.mono HB1.out.size))
        have HE := Lib.hid hE
        clear hlt hown hOO hOl hB hE
        go_wp2_with fail
        refine HR.out.mono ?_; rintro e w5 hto
        obtain ⟨r, hr⟩ : ∃ r, progF O = r := ⟨_, rfl⟩
        rw [hr] at hto
        rcases r with _ | ⟨c', p'⟩
        · obtain ⟨rfl, hb5⟩ := hto.nil rfl
          have HE5 := Lib.hid (own_below HOWP.out hb5 (Nat.le_refl _))
          have HB5 := Lib.hid (HBB.out.trans (hb5.mono HBB.out.size))
          have HRN := Lib.hid hr
          have HTX : Hid (progT O = s) := Lib.hid (by rw [← HJN.out, ← parseL_text HPL.out]; rfl)
          clear hto hb5 hr
          go_wp2_with fail
          go_ret2
          exact ⟨HB5.out, Or.inl ⟨_, O, rfl, HE5.out, HRN.out, HTX.out⟩⟩
        · obtain ⟨fb, rfl, hf, hb5⟩ := hto.err rfl
          have HB5 := Lib.hid (HBB.out.trans (hb5.mono HBB.out.size))
          have HRN := Lib.hid hr
          have HFA := Lib.hid hf
          clear hto hb5 hr hf
          go_wp2_with fail
          go_ret2
          exact ⟨HB5.out, Or.inr ⟨c', p', _, P, rfl, HFA.out, HS0.out, HPP.out, HJN.out, HNO.out, Or.inr ⟨O, HPL.out, HRN.out⟩⟩⟩
end Go.Proofs.YtbbdammdiplagaaGreatDoor
