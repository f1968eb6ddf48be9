/- maps.Keys of a set of links, and its iterator. -/
import Derived.Test.YtcmocigckcjdjaaGreatDoorKeyV13
import Derived.Test.YtcmocigckcjdjaaGreatDoorRangeSeq
import Derived.Sort.MapsRangeIn
import Derived.TacticsInMore
import Derived.OwnWalkIn
import Derived.RegionIn
import Derived.LoopNIn
import Derived.LoopIn
namespace Go.Proofs.YtcmocigckcjdjaaGreatDoor
open Go.RowKit

set_option maxRecDepth 100000 in
theorem keysL_call (mb : Option Nat) (w : World) : Calls Tryz.prog 59 #[.map mb] w fun e w' => e = .returned (.func (.func 87) #[] #[.pointer (some ⟨w.heap.size, 0, none⟩)]) ∧ w' = w.alloc (.cells #[.map mb] 92) := by
  go_enter Tryz.func59, Tryz.ntmps59
  go_wp2_with fail
  go_ret
  exact ⟨rfl, rfl⟩

theorem collL_step {E : List (Int × Int)} {left : Lit → Bool} {ss : List (Int × Int)} {e : Int × Int} {kl : Lit} (h : CollectedL E left ss) (hk : keyOf Tryz.prog 94 (edgeV e) = some kl) (hl : left kl = true) (he : e ∈ E) : CollectedL E (fun z => left z && !z.sameKey kl) (ss ++ [e]) := by
  have hnew : e ∉ ss := fun hx => by
    have := ((h.2 e kl hk).1 hx).2
    rw [hl] at this
    cases this
  refine ⟨⟨List.nodup_append.2 ⟨h.1.1, by simp, fun a ha b hb => by
    rw [List.mem_singleton] at hb
    subst hb
    exact fun e => hnew (e ▸ ha)⟩, fun a ha => by
    rcases List.mem_append.1 ha with ha | ha
    · exact h.1.2 a ha
    · rw [List.mem_singleton] at ha; rw [ha]; exact he⟩, fun x kx hx => ?_⟩
  rw [List.mem_append, List.mem_singleton, h.2 x kx hx]
  by_cases hxe : x = e
  · subst hxe
    have hkk : kx = kl := by
      rw [hk] at hx
      exact (Option.some.inj hx).symm
    subst hkk
    have hself : kx.sameKey kx = true := WideAt.sameKey_self (link_keyed.key hk)
    simp [he, hself]
  · have hne : kx.sameKey kl = false := Go.Maps.sameKey_ne (fun e => by
      rw [e] at hx
      exact hxe (edgeV_inj (link_keyed.inj hx hk)))
    simp [hxe, hne]

theorem links_keep {w w' : World} {b n : Nat} {D : DataW Unit} (h : w.ownsMap Tryz.prog 94 (Go.unitElem (H := Unit)) b n D) (hb : Below w.heap.size w w') : w'.ownsMap Tryz.prog 94 (Go.unitElem (H := Unit)) b n D :=
  h.kept (show w.grownBy w' none from ⟨hb.os, hb.tape, hb.output, hb.size, fun i hi _ => hb.block i hi⟩) (by simp)
set_option maxRecDepth 100000 in
set_option maxHeartbeats 1000000 in
/-- The iterator over the keys of a set of links. -/
theorem keysL_gives {w : World} {b Bm : Nat} {E : List (Int × Int)} (h : LinkSet w b E) (hE : ∀ e ∈ E, In64 e.1 ∧ In64 e.2) (hBm : Bm < w.heap.size) (hm : w.cell? ⟨Bm, 0, none⟩ = some (.map (some b))) :
    SeqGives Fence.wide 3 Tryz.prog 87 #[.pointer (some ⟨Bm, 0, none⟩)] edgeV (fun ss => ss.Nodup ∧ ∀ e, e ∈ ss ↔ e ∈ E) E.length w := by
  intro l J W hW hJ hY h0
  obtain ⟨nn, D, hown0, hnn, hD⟩ := h
  have hown := links_keep hown0 hW
  have hsz : Go.Maps.size D ≤ E.length := Nat.le_trans hown.size_le hnn
  have c1 : W.cell? ⟨Bm, 0, none⟩ = some (.map (some b)) := (hW.cell (p := ⟨Bm, 0, none⟩) hBm).trans hm
  have HY := Lib.hid hY; have HJ := Lib.hid hJ; have H0 := Lib.hid h0; have HD := Lib.hid hD; have HE := Lib.hid hE; have HO := Lib.hid hown; have HSZ := Lib.hid hsz
  obtain ⟨N, hN⟩ : ∃ N, E.length = N := ⟨_, rfl⟩
  rw [hN] at HSZ HY
  clear hY hJ h0 hD hE hown hown0 hnn hsz hm hW hN
  refine callsIn_of_wp Tryz.func87 rfl trivial ?_ rfl
  simp only [Tryz.ntmps87, List.size_toArray, List.length_cons, List.length_nil, Nat.reduceAdd, Nat.reduceSub, Array.replicate_succ, Array.replicate_zero, List.push_toArray, List.append_toArray, List.nil_append, List.cons_append]
  gi_wp2_with (gi_at_range; refine wpListIn_range_own _ rfl _ 92 rfl 94 87 link_keyed Tryz.underlying92 _ b nn D rfl HO.out ?_; intro w0 hrg0 hg0 hs0)
  have HR0 : Hid (w0.ranges Tryz.prog 94 (Go.unitElem (H := Unit)) b W.heap.size nn D (Go.Maps.has D) (Go.Maps.size D)) := Lib.hid hrg0
  have HG0 := Lib.hid hg0
  clear hrg0 hg0 hs0 c1
  go_frame
  gi_loopw [3] (fun _ wr => ∃ (left : Lit → Bool) (cnt : Nat) (ss : List (Int × Int)), wr.ranges Tryz.prog 94 (Go.unitElem (H := Unit)) b W.heap.size nn D left cnt ∧ ss.length + cnt ≤ N ∧ CollectedL E left ss ∧ J ss wr)
    (fun _ wr => wr.rangeLeft b W.heap.size)
  case atStart => exact ⟨_, _, [], HR0.out, by simpa using HSZ.out, ⟨⟨List.nodup_nil, fun e h => by cases h⟩, fun e kl hk => by rw [HD.out e kl hk]; simp⟩, HJ.out [] W w0 none H0.out HG0.out (fun r e => by cases e)⟩
  case round =>
    obtain ⟨left, cnt, ss, hrg, hcs, hC, hJs⟩ := hrel
    have HRG := Lib.hid hrg; have HC := Lib.hid hC; have HJS := Lib.hid hJs
    clear hrg hC hJs
    gi_wp2_with (gi_at_next; refine wpListIn_next_ranges _ rfl _ rfl 94 link_keyed (Go.unitElem (H := Unit)) edgeV (fun _ : Unit => .agg #[]) (fun key kl hk => by obtain ⟨e, _, _, he⟩ := key_inv hk; exact ⟨e, he⟩) (fun v y hv => ⟨(), (unitElem_inv hv).1⟩) b W.heap.size nn D left cnt rfl HRG.out ?_ ?_)
    · intro hc0 hl0
      have HL0 := Lib.hid hl0
      clear hl0
      gi_wp2
      go_end0
      refine ⟨⟨_, rfl⟩, ss, ⟨HC.out.1.1, fun e => ⟨HC.out.1.2 e, fun he => ?_⟩⟩, HJS.out⟩
      obtain ⟨kl, hk⟩ := key_link (e := e) (HE.out e he).1 (HE.out e he).2
      exact (HC.out.2 e kl hk).2 ⟨he, HL0.out kl⟩
    · intro x1 x2 kl y yp w2 cnt2 hkey hlk hv hat hrg2 hlt hg2 hs2 hen
      obtain ⟨x, hx⟩ : ∃ x : Int × Int, x = (x1, x2) := ⟨_, rfl⟩
      rw [← hx] at hkey
      have hxE : x ∈ E := by
        have h1 := Go.Maps.has_true_of_atKey hat
        rw [HD.out x kl hkey] at h1
        exact of_decide_eq_true h1
      have HC2 := Lib.hid (collL_step HC.out hkey hlk hxE)
      have hJ2 : J ss w2 := HJ.out ss wr w2 (some W.heap.size) HJS.out hg2 (fun r e => by cases e; exact ⟨Nat.le_refl _, HRG.out.iter_walk⟩)
      subst hx
      have hJ3 := HJ.out ss w2 (w2.alloc (.cells #[.int .i64 x1, .int .i64 x2] 94)) none hJ2 (World.grownBy_alloc w2 _ none) (fun r e => by cases e)
      obtain ⟨fn, tmps, assign, body, hy, hR⟩ := HY.out ss (x1, x2) _ hJ3 (by omega)
      unfold edgeV at hen hy ⊢
      simp only at hen hy ⊢
      have HR := Lib.hid hR; have HRG2 := Lib.hid (show (w2.alloc (.cells #[.int .i64 x1, .int .i64 x2] 94)).ranges Tryz.prog 94 (Go.unitElem (H := Unit)) b W.heap.size nn D (fun z => left z && !z.sameKey kl) cnt2 from hrg2.of_walks (KeepsWalks.alloc _ _))
      have HLT := Lib.hid hlt
      clear hkey hlk hv hat hrg2 hlt hg2 hs2 hJ2 hJ3 hR hxE
      gi_wp2
      refine HR.out.mono ?_
      rintro e W3 ⟨rfl, hJ3, hk3⟩
      have HRG3 := Lib.hid (HRG2.out.of_walks hk3)
      have HJ3 := Lib.hid hJ3
      clear hJ3 hk3 hy hen
      gi_wp2
      go_roundw
      case rel => exact ⟨_, cnt2, ss ++ [(x1, x2)], HRG3.out, by have := HLT.out; simp; omega, HC2.out, HJ3.out⟩
      case measure => rw [HRG3.out.left_eq, HRG.out.left_eq]; exact HLT.out
end Go.Proofs.YtcmocigckcjdjaaGreatDoor
