/- An entry of a map, made or found; what is stored in it. -/
import Derived.Test.YtlopoddllfkkfaaDoorJ4
import Derived.WideKeyEntry
namespace Go.Proofs.YtlopoddllfkkfaaDoor
open Go.RowKit Go.Maps Go.WideElems Go.ChangeMaps

theorem MapF.of_block {w w' : World} {kt : TypeId} {b N : Nat} {F : Value → Option Value} (h : MapF w kt b N F) (e : w'.heap[b]? = w.heap[b]?) : MapF w' kt b N F := by
  obtain ⟨n, D, ⟨es, clock, h1, h2, h3, h4⟩, h5, h6⟩ := h
  exact ⟨n, D, ⟨es, clock, e.trans h1, h2, h3, h4⟩, h5, h6⟩
theorem grown_set {w : World} {b : Nat} {o o' : Obj} (_hb : w.heap[b]? = some o) : w.grownBy (setBlock w b o') (some b) := by
  refine ⟨rfl, rfl, rfl, by simp [setBlock], fun k _ hk => ?_⟩
  unfold setBlock
  rw [Array.getElem?_setIfInBounds_ne (fun e => hk (by rw [e]))]
theorem route_law : WideMaps.KeyLaw Tryd.prog 95 := deep_law_laid Tryd.laidOutN (m := 10) (by omega) (of_decide_eq_true (by kernel_rfl)) (by kernel_rfl) (by kernel_rfl)

set_option maxRecDepth 100000 in
theorem MapF.entry {w : World} {t kt e : TypeId} {b N : Nat} {F : Value → Option Value} (h : MapF w kt b N F) (KL : WideMaps.KeyLaw Tryd.prog kt) (ht : Tryd.prog.underlying t = some (.map kt e)) {z : Value} (hz : ∀ w, (zeroValue e).run Tryd.prog w = .ok z w) (hN : N ≤ 1000000) {key : Value} {kl : Lit} (hkey : keyOf Tryd.prog kt key = some kl) :
    ∃ (v0 : Value) (st : Nat) (w1 : World) (F1 : Value → Option Value), (Instr.mapEntry t (.map (some b)) key).run Tryd.prog w = .ok (.tuple #[v0, goInt st]) w1 ∧ MapF w1 kt b (N + 1) F1 ∧ (F1 key).getD z = (F key).getD z ∧ w.grownBy w1 (some b) ∧
      ∀ (w2 : World) (val : Value), w2.heap[b]? = w1.heap[b]? → ∃ (w3 : World) (F3 : Value → Option Value), (Instr.entryStore t (.map (some b)) (goInt st) val).run Tryd.prog w2 = .ok () w3 ∧ MapF w3 kt b (N + 1) F3 ∧ F3 key = some val ∧ (∀ k, k ≠ key → F3 k = F k) ∧ w2.grownBy w3 (some b) := by
  have K : Keyed Tryd.prog kt := Keyed.of_law KL
  have hst := fun val => h.store K ht hN hkey val
  have hm := h
  obtain ⟨n, D, ⟨es, clock, hb, F0, h3, h4⟩, h5, h6⟩ := h
  obtain ⟨v0, st, es1, clock1, hrun, _, hthen⟩ := entry_then_store KL ht hz hb F0 hkey
  have hb1 : (setBlock w b (.map es1 clock1)).heap[b]? = some (.map es1 clock1) := heap_setBlock_same hb _
  have hfirst : ∃ F1, MapF (setBlock w b (.map es1 clock1)) kt b (N + 1) F1 ∧ (F1 key).getD z = (F key).getD z := by
    rcases KL.find w hkey es.toList F0.keys with ⟨k1, k2⟩ | ⟨j, e0, k1, k2, k3⟩
    · have hr2 : (Instr.mapEntry t (.map (some b)) key).run Tryd.prog w = .ok (.tuple #[z, goInt clock]) (setBlock w b (.map (es.push ⟨key, z, clock⟩) (clock + 1))) := by
        simp [Instr.mapEntry, run_underlying ht, MapKept.run_getObj_map hb, KL.check w false hkey, k1, hz, MapKept.run_setObj_map _ hb, Result.andThen, setBlock]
      have hu : (Instr.mapUpdate t (.map (some b)) key z).run Tryd.prog w = .ok () (setBlock w b (.map (es.push ⟨key, z, clock⟩) (clock + 1))) := by
        simp [Instr.mapUpdate, run_underlying ht, MapKept.run_getObj_map hb, KL.check w false hkey, k1, MapKept.run_setObj_map _ hb, Result.andThen, setBlock]
      obtain ⟨w', F', hr3, hF, hk, _, _, _⟩ := hst z
      rw [hrun] at hr2
      injection hr2 with _ hw
      rw [hu] at hr3
      injection hr3 with _ hw3
      rw [hw, hw3]
      refine ⟨F', hF, ?_⟩
      rw [hk]
      have hl := hm.look (w := w) K ht hz hkey
      have hl2 : (Instr.lookup t (.map (some b)) key false).run Tryd.prog w = .ok z w := by
        simp [Instr.lookup, run_underlying ht, MapKept.run_getObj_map hb, K.check w _ hkey, k1, hz, Result.andThen]
      rw [hl2] at hl
      injection hl with hl _
    · have hj : es[j]? = some e0 := by simpa using k2
      have hsame : es.modify j (fun e => { e with key := key }) = es := by
        apply Array.ext'
        rw [Array.toList_modify, modify_eq_set _ _ _ _ k2]
        have : ({ e0 with key := key } : MapEntry) = e0 := by rw [← k3]
        rw [this]
        exact set_self _ _ _ k2
      have hr2 : (Instr.mapEntry t (.map (some b)) key).run Tryd.prog w = .ok (.tuple #[e0.val, goInt e0.born]) (setBlock w b (.map es clock)) := by
        simp [Instr.mapEntry, run_underlying ht, MapKept.run_getObj_map hb, KL.check w false hkey, k1, hj, k3, KL.stays w hkey, hsame, MapKept.run_setObj_map _ hb, Result.andThen, setBlock]
      rw [hrun] at hr2
      injection hr2 with _ hw
      rw [hw]
      exact ⟨F, (hm.of_block (by rw [heap_setBlock_same hb, hb])).mono (Nat.le_succ _), rfl⟩
  obtain ⟨F1, hF1, hF1k⟩ := hfirst
  refine ⟨v0, st, _, F1, hrun, hF1, hF1k, grown_set hb, fun w2 val hw2 => ?_⟩
  have hw2' : w2.heap[b]? = some (.map es1 clock1) := hw2.trans hb1
  obtain ⟨es', clock', hr4, hr5⟩ := hthen w2 val hw2'
  obtain ⟨w', F', hr3, hF, hk, hoth, _, _⟩ := hst val
  rw [hr5] at hr3
  injection hr3 with _ hw3
  refine ⟨_, F', hr4, hF.of_block ?_, hk, hoth, grown_set hw2'⟩
  rw [← hw3, heap_setBlock_same hb, heap_setBlock_same hw2']
end Go.Proofs.YtlopoddllfkkfaaDoor
