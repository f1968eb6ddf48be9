/- slices.SortedFunc over the keys of a set of links. -/
import Derived.Test.YtcmocigckcjdjaaGreatDoorAppSeqL13
import Derived.Shelf.SlSortCmp.NoneTotal
namespace Go.Proofs.YtcmocigckcjdjaaGreatDoor
open Go.RowKit
open Go.Sort (putRow putCells Holds HoldsK flatK putRowK grow SWO PermIn SortedIn)

theorem ecells_list (S : List (Int × Int)) : (ecells S).toList = eL S := by
  apply List.ext_getElem?
  intro k
  rcases Nat.lt_or_ge k (S.length * 2) with hk | hk
  · have h1 := ecells_at (S := S) (i := k / 2) (by omega)
    have h2 := eL_at S (k / 2) (by omega)
    rcases (by omega : k = k / 2 * 2 ∨ k = k / 2 * 2 + 1) with e | e
    · rw [e, Array.getElem?_toList, h1.1, h2.1]
    · rw [e, Array.getElem?_toList, h1.2, h2.2]
  · rw [List.getElem?_eq_none (by rw [Array.length_toList, ecells_size]; exact hk), List.getElem?_eq_none (by rw [eL_len]; exact hk)]
theorem put_take {d cur : Array Value} {m : Nat} (hm : d.size = m) (hc : m ≤ cur.size) : (putCells id 0 d cur).toList.take m = d.toList := by
  apply List.ext_getElem?
  intro k
  rcases Nat.lt_or_ge k m with hk | hk
  · rw [List.getElem?_take_of_lt hk, Array.getElem?_toList, Array.getElem?_toList]
    simp only [putCells, Array.getElem?_mapIdx]
    rw [Array.getElem?_eq_getElem (by omega), Array.getElem?_eq_getElem (by omega)]
    simp [show k < d.size by omega]
  · rw [List.getElem?_eq_none (by rw [List.length_take]; omega), List.getElem?_eq_none (by rw [Array.length_toList]; omega)]
/-- Links in a row of the call's own, put in order. -/
theorem sort_own (S : List (Int × Int)) (g n c base : Nat) (w : World) (hn : S.length = n) (hn0 : n ≤ 1000000) (ho : w.ownsRow base 94 2 (.slice (some ⟨g, 0, none⟩) n c) n (eL S)) :
    Calls Tryz.prog 86 #[.slice (some ⟨g, 0, none⟩) n c, .func (.func 60) #[] #[]] w fun e w' =>
      e = .returned (.tuple #[]) ∧ ∃ D, D.Perm S ∧ D.Pairwise (fun a b => ¬ ltK b a) ∧ w'.ownsRow base 94 2 (.slice (some ⟨g, 0, none⟩) n c) n (eL D) ∧ w.grownBy w' (some g) := by
  have eg : ∀ args w, (callFunc 60 args).run Tryz.prog w = .ok (.enter 60 args) w := enters_of Tryz.func60 (by kernel_rfl) rfl
  have hs : S.toArray.size = n := by simpa using hn
  obtain ⟨cur, hbase, hh, hnc, hml, hcs, htk⟩ : ∃ cur, base ≤ g ∧ Whole w g 94 cur ∧ n ≤ c ∧ c ≤ maxLen ∧ cur.size = c * 2 ∧ cur.toList.take (n * 2) = eL S := by
    rcases ho.2 with ⟨h1, _⟩ | ⟨g', c', cur, h1, h2, h3, h4, h5, h6, h7⟩
    · cases h1
    · injection h1 with a1 a2 a3
      injection a1 with a1
      injection a1 with a1
      subst a1 a3
      exact ⟨cur, h2, h3, h4, h5, h6, h7⟩
  have hH : HoldsK encE 2 w g 0 S.toArray := by
    intro j hj
    have hj' : j < n * 2 := by
      have h1 : (flatK encE 2 S.toArray).size = S.toArray.size * 2 := by simp
      rw [h1, hs] at hj
      exact hj
    refine ⟨?_, hh.free _⟩
    have e1 : (ecells S).toList[j]? = cur.toList[j]? := by rw [ecells_list, ← htk, List.getElem?_take_of_lt hj']
    rw [Array.getElem?_toList, Array.getElem?_toList] at e1
    rw [Nat.zero_add, hh.cell, ← e1]
    show (flatK encE 2 S.toArray)[j]? = some ((flatK encE 2 S.toArray)[j]!)
    rw [Array.getElem?_eq_getElem hj, getElem!_pos (flatK encE 2 S.toArray) j hj]
  have hcon := AnyQ.slices_SortFunc Tryz.sortLink 2 isAggL sizeL encE (fun _ => rfl) (fun x v hv => by simp [encE] at hv; rcases hv with rfl | rfl <;> rfl) cfE swoE 60 #[] g 0 c S.toArray w eg (fun m os dk _ x y => cmp_edges x y _) hH hh.lt (by omega)
  rw [hs] at hcon
  refine (show Calls Tryz.prog 86 _ _ _ from hcon).mono ?_
  rintro e w' ⟨he, d', q, os, hp, hso, rfl⟩
  obtain ⟨p1, _, p3⟩ := hp
  have hsz : d'.size = n := by rw [p1, hs]
  have hperm : d'.toList.Perm S := by
    have e1 : d'.extract 0 n = d' := by rw [← hsz]; exact Array.extract_size
    have e2 : S.toArray.extract 0 n = S.toArray := by rw [← hs]; exact Array.extract_size
    rw [e1, e2] at p3
    simpa using p3
  refine ⟨he, d'.toList, hperm, ?_, ?_, ?_⟩
  · rw [List.pairwise_iff_getElem]
    intro i j hi hj hij
    have := hso i j (Nat.zero_le _) hij (by rw [← hsz]; simpa using hj)
    rw [lt_cfE] at this
    have := of_decide_eq_false this
    rw [getElem!_pos d' j (by simpa using hj), getElem!_pos d' i (by simpa using hi)] at this
    simpa using this
  · have hw2 : Whole (sortWorldK encE 2 w g 0 q d' os) g 94 (putCells id 0 (flatK encE 2 d') cur) := by
      unfold sortWorldK putRowK
      exact whole_growB (whole_putRowId (show Whole (Go.Sort.ahead w q) g _ cur from hh.drewN q) _) os
    have hd : flatK encE 2 d' = ecells d'.toList := by unfold ecells; rw [Array.toArray_toList]
    have hl : (eL d'.toList).length = n * 2 := by rw [eL_len, Array.length_toList, hsz]
    refine ⟨hl, Or.inr ⟨g, c, _, rfl, hbase, hw2, hnc, hml, by simp [putCells, hcs], ?_⟩⟩
    rw [hd, put_take (by rw [ecells_size, Array.length_toList, hsz]) (by omega), ecells_list]
  · unfold sortWorldK putRowK
    have g0 : w.grownBy (Go.Sort.ahead w q) (some g) := ⟨rfl, rfl, rfl, Nat.le_refl _, fun _ _ _ => rfl⟩
    exact (g0.trans (grown_putRowId _ g _)).trans (grown_growB _ os _)

theorem sort_nothing (p : Option Addr) (cap : Nat) (w : World) : Calls Tryz.prog 86 #[.slice p 0 cap, .func (.func 60) #[] #[]] w fun e w' => e = .returned (.tuple #[]) ∧ w' = w :=
  AnyF.slices_SortFunc_none Tryz.sortLink p cap _ w

set_option maxRecDepth 100000 in
set_option maxHeartbeats 1000000 in
theorem sortedL {w : World} {b : Nat} {E : List (Int × Int)} (h : LinkSet w b E) (hin : ∀ e ∈ E, In64 e.1 ∧ In64 e.2) (hE : E.length ≤ 1000000) :
    Calls Tryz.prog 58 #[.func (.func 87) #[] #[.pointer (some ⟨w.heap.size, 0, none⟩)], .func (.func 60) #[] #[]] (w.alloc (.cells #[.map (some b)] 92)) fun e w' =>
      ∃ v D, e = .returned v ∧ D.Pairwise ltK ∧ (∀ e, e ∈ D ↔ e ∈ E) ∧ D.length ≤ E.length ∧ w'.ownsRow w.heap.size 94 2 v D.length (eL D) ∧ Below w.heap.size w w' := by
  have hbA : Below w.heap.size w (w.alloc (.cells #[.map (some b)] 92)) := (Below.refl _ _).alloc (Nat.le_refl _) _
  have hG := keysL_gives (Bm := w.heap.size) (h.below hbA (Nat.le_refl _)) hin (by simp) (by simp)
  have HC := Lib.hid (collectL (enters_of Tryz.func87 (by kernel_rfl) rfl) hE hG)
  have HBA := Lib.hid hbA
  obtain ⟨w1, hw1⟩ : ∃ W, w.alloc (.cells #[.map (some b)] 92) = W := ⟨_, rfl⟩
  have hs1 : w1.heap.size = w.heap.size + 1 := by rw [← hw1]; simp
  rw [hw1] at HC HBA ⊢
  have HS1 := Lib.hid hs1
  obtain ⟨N, hN⟩ : ∃ N, E.length = N := ⟨_, rfl⟩
  rw [hN] at HC hE ⊢
  clear hG hbA h hin hw1 hs1 hN
  go_enter Tryz.func58, Tryz.ntmps58
  go_wp2_with fail
  refine HC.out.mono ?_; rintro e w2 ⟨v, ss, rfl, ⟨hnd, hmem⟩, hle, hown, hb⟩
  obtain ⟨A, c, rfl⟩ := own_form hown
  have hown' : w2.ownsRow w.heap.size 94 2 (.slice A ss.length c) ss.length (eL ss) := ⟨hown.1, hown.2.imp id (fun ⟨g, cap, cur, e1, e2, e3⟩ => ⟨g, cap, cur, e1, by have := HS1.out; omega, e3⟩)⟩
  have hb2 : Below w.heap.size w w2 := HBA.out.trans (hb.mono (by have := HS1.out; omega))
  obtain ⟨p, hp⟩ : ∃ p, ss.length = p := ⟨_, rfl⟩
  have HND := Lib.hid hnd; have HMEM := Lib.hid hmem; have HB2 := Lib.hid hb2
  rcases hown'.2 with ⟨hnil, h0⟩ | ⟨g, cap, cur, hv, hg, _⟩
  · injection hnil with e1 e2 e3
    subst e1 e3
    have hss : ss = [] := List.eq_nil_of_length_eq_zero h0
    subst hss
    have HOWN := Lib.hid hown'
    have SN := Lib.hid (sort_nothing none 0 w2)
    rw [show ([] : List (Int × Int)).length = 0 from rfl] at HOWN ⊢
    clear hown hown' hb hb2 h0 hnd hmem hp hle
    go_wp2_with fail
    refine SN.out.mono ?_; rintro e w3 ⟨rfl, hw3⟩; obtain rfl := hw3.symm
    go_wp2_with fail
    go_ret
    exact ⟨_, [], rfl, List.Pairwise.nil, HMEM.out, Nat.zero_le _, HOWN.out, HB2.out⟩
  · injection hv with e1 e2 e3
    subst e1
    rw [hp] at hown' hle
    have SO := Lib.hid (sort_own ss g p c w.heap.size w2 hp (by omega) hown')
    have HB2S := Lib.hid hb2.size
    have HG := Lib.hid hg; have HLE := Lib.hid hle; have HP := Lib.hid hp
    rw [hp]
    clear hown hown' hb hb2 hnd hmem hp hle hg e2 e3
    go_wp2_with fail
    refine SO.out.mono ?_; rintro e w3 ⟨rfl, D, hperm, hsrt, hown3, hgr⟩
    have HST := Lib.hid (pairs_strict hsrt (hperm.nodup_iff.2 HND.out))
    have HM := Lib.hid (fun e => hperm.mem_iff.trans (HMEM.out e))
    have HDL : Hid (D.length = p) := Lib.hid (hperm.length_eq.trans HP.out)
    have HOWN := Lib.hid hown3
    have HB3 := Lib.hid (HB2.out.grown hgr HB2S.out (fun k hk => by injection hk with hk; have := HG.out; omega))
    clear hperm hsrt hown3 hgr
    go_wp2_with fail
    go_ret
    exact ⟨_, D, rfl, HST.out, HM.out, by rw [HDL.out]; exact HLE.out, by rw [HDL.out]; exact HOWN.out, HB3.out⟩
end Go.Proofs.YtcmocigckcjdjaaGreatDoor
