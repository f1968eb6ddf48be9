/- net: Clone. -/
import Derived.Test.YtbecgfeoacncdaaDoorNil19
import Derived.Deep.RegionHeld3
import Derived.Deep.DeepCutAuto
namespace Go.Proofs.YtbecgfeoacncdaaDoor
open Go.RowKit Go.Maps

/-- A row of one's own letters, as what flies. -/
theorem fly_of_own {w : World} {base B n : Nat} {S : List Let} {v : Value} (h : w.ownsRow B 50 4 v n (letsC S)) (hn : S.length = n) (hB : base ≤ B) : FlyAt w base v S := by
  subst hn
  have h0 := h
  rcases h.2 with ⟨rfl, h2⟩ | ⟨g, cap, cur, rfl, hg, hh, hc, _, hs, _⟩
  · exact ⟨none, 0, by rw [h2], by omega, Or.inl ⟨rfl, rfl⟩⟩
  · refine ⟨_, cap, rfl, hc, Or.inr ⟨g, 0, rfl, by omega, lt_of_block hh, fun j hj => ?_, fun j hj => ?_⟩⟩
    · rw [Nat.zero_add]
      exact ⟨by rw [cell_of_row w g j cur _ (0, 0) hh, Array.getElem?_eq_getElem (by omega)]; rfl, h0.frozenAt j⟩
    · rw [Nat.zero_add]
      exact h0.cellAt j hj
/-- A cloned map. -/
def MapTo (kt : TypeId) (N : Nat) (F : Value → Option Value) (w0 w : World) (e : Ending) (w' : World) : Prop :=
  e = .returned (.map (some w.heap.size)) ∧ MapF w' kt w.heap.size N F ∧ Below w.heap.size w w' ∧ Below w0.heap.size w0 w'
theorem cloneSent_any {w w0 : World} {b N : Nat} {F : Value → Option Value} (h : MapF w 70 b N F) (hb : Below w0.heap.size w0 w) :
    Calls Tryd.prog 32 #[.map (some b)] w (MapTo 70 N F w0 w) := by
  obtain ⟨nn, D, h, h1, h2⟩ := h
  refine (AnyW.maps_Clone_owns Tryd.cloneSent 70 heldElem b nn D w h).mono ?_
  rintro e w' ⟨rfl, ho, _, hB⟩
  exact ⟨rfl, ⟨nn, D, ho, h1, h2⟩, hB, hb.trans (hB.mono hb.size)⟩
theorem cloneCame_any {w w0 : World} {b N : Nat} {F : Value → Option Value} (h : MapF w 73 b N F) (hb : Below w0.heap.size w0 w) :
    Calls Tryd.prog 33 #[.map (some b)] w (MapTo 73 N F w0 w) := by
  obtain ⟨nn, D, h, h1, h2⟩ := h
  refine (AnyW.maps_Clone_owns Tryd.cloneCame 73 heldElem b nn D w h).mono ?_
  rintro e w' ⟨rfl, ho, _, hB⟩
  exact ⟨rfl, ⟨nn, D, ho, h1, h2⟩, hB, hb.trans (hB.mono hb.size)⟩
/-- Cloned letters. -/
def LetsTo (S : List Let) (m : Nat) (w0 w : World) (e : Ending) (w' : World) : Prop :=
  ∃ A c, e = .returned (.slice A m c) ∧ w'.ownsRow w.heap.size 50 4 (.slice A m c) m (letsC S) ∧ Below w.heap.size w w' ∧ Below w0.heap.size w0 w'
/-- What Clone tells: a net of its own, told as the one that was cloned. -/
def CloneTo (N : Nat) (n : NetP) (F G : Value → Option Value) (w : World) (e : Ending) (w' : World) : Prop :=
  ∃ b mb cb v, e = .returned (.pointer (some ⟨b, 0, none⟩)) ∧ NetIn w' w.heap.size N n b mb cb v F G ∧ Below w.heap.size w w'
set_option maxRecDepth 100000 in
set_option maxHeartbeats 4000000 in
theorem clone_any {w : World} {base N : Nat} {n : NetP} {b mb cb : Nat} {v : Value} {F G : Value → Option Value} (h : NetIn w base N n b mb cb v F G) (hS : n.fly.length ≤ 1000000) :
    Calls Tryd.prog 22 #[.pointer (some ⟨b, 0, none⟩)] w (CloneTo N n F G w) := by
  have HN := Lib.hid h
  have c0 : w.cell? ⟨b, 0, none⟩ = some (.int .i64 n.k) := h.whole.cell 0
  have c1 : w.cell? ⟨b, 1, none⟩ = some v := h.whole.cell 1
  have c2 : w.cell? ⟨b, 2, none⟩ = some (.map (some mb)) := h.whole.cell 2
  have c3 : w.cell? ⟨b, 3, none⟩ = some (.map (some cb)) := h.whole.cell 3
  have c4 : w.cell? ⟨b, 4, none⟩ = some (.int .i64 n.miss) := h.whole.cell 4
  have hlt := h.whole.lt
  have hcl := fun (W : World) (hb : Below w.heap.size w W) => cloneLet_any (h.fly.below hb (Nat.le_refl _)) hS
  have HCS := Lib.hid (fun (W : World) (hb : Below w.heap.size w W) => cloneSent_any (h.sent.below hb (Nat.le_refl _)) hb)
  have HCC := Lib.hid (fun (W : World) (hb : Below w.heap.size w W) => cloneCame_any (h.came.below hb (Nat.le_refl _)) hb)
  obtain ⟨A, c, rfl, _⟩ := h.fly
  obtain ⟨m, hm⟩ : ∃ m, n.fly.length = m := ⟨_, rfl⟩
  rw [hm] at c1
  have HCL : Hid (∀ (W : World), Below w.heap.size w W → Calls Tryd.prog 28 #[.slice A m c] W (LetsTo n.fly m w W)) := by
    refine Lib.hid (fun W hb => ?_)
    have h1 := hcl W hb
    rw [hm] at h1
    refine h1.mono ?_
    rintro e w' ⟨v', rfl, ho, hB⟩
    obtain ⟨A', c', rfl⟩ := own_form ho
    exact ⟨_, _, rfl, ho, hB, hb.trans (hB.mono hb.size)⟩
  have HM := Lib.hid hm
  obtain ⟨k, hk⟩ : ∃ k, n.k = k := ⟨_, rfl⟩
  obtain ⟨ms, hms⟩ : ∃ k, n.miss = k := ⟨_, rfl⟩
  rw [hk] at c0
  rw [hms] at c4
  have HK := Lib.hid hk; have HMS := Lib.hid hms
  have KS := Lib.hid (fun (W : World) (hb : Below w.heap.size w W) => (show Below w.heap.size w W ∧ W.cell? ⟨b, 0, none⟩ = some (.int .i64 k) ∧ W.cell? ⟨b, 1, none⟩ = some (.slice A m c) ∧ W.cell? ⟨b, 2, none⟩ = some (.map (some mb)) ∧ W.cell? ⟨b, 3, none⟩ = some (.map (some cb)) ∧ W.cell? ⟨b, 4, none⟩ = some (.int .i64 ms) from
    ⟨hb, (hb.cell (p := ⟨b, 0, none⟩) hlt).trans c0, (hb.cell (p := ⟨b, 1, none⟩) hlt).trans c1, (hb.cell (p := ⟨b, 2, none⟩) hlt).trans c2, (hb.cell (p := ⟨b, 3, none⟩) hlt).trans c3, (hb.cell (p := ⟨b, 4, none⟩) hlt).trans c4⟩))
  clear h hcl hm hk hms hS
  go_enter Tryd.func22, Tryd.ntmps22
  go_upto_region 3 with fail
  go_region_held3 (fun W => Below w.heap.size w W ∧ W.cell? ⟨b, 0, none⟩ = some (.int .i64 k) ∧ W.cell? ⟨b, 1, none⟩ = some (.slice A m c) ∧ W.cell? ⟨b, 2, none⟩ = some (.map (some mb)) ∧ W.cell? ⟨b, 3, none⟩ = some (.map (some cb)) ∧ W.cell? ⟨b, 4, none⟩ = some (.int .i64 ms))
    (exact KS.out _ (by first | assumption | exact below_drewN' (Below.refl _ _) _ | exact Below.alloc (by assumption) (by first | exact hB23.size | simp) _))
    (first
      | (go_at_call 28; refine (HCL.out _ (by first | assumption | exact below_drewN' (Below.refl _ _) _)).mono ?_; rintro e' w13 ⟨A', c', rfl, ho13, hb13, hB13⟩)
      | (go_at_call 32; refine (HCS.out _ (by assumption)).mono ?_; rintro e' w18 ⟨rfl, hm18, hb18, hB18⟩)
      | (go_at_call 33; refine (HCC.out _ (by assumption)).mono ?_; rintro e' w23 ⟨rfl, hm23, hb23, hB23⟩))
  all_goals
    have HFIN : Hid (CloneTo N n F G w (.returned (.pointer (some ⟨w23.heap.size, 0, none⟩))) (w23.alloc (.cells #[.int .i64 k, .slice A' m c', .map (some w13.heap.size), .map (some w18.heap.size), .int .i64 ms] 67))) := by
      refine Lib.hid ?_
      have ho23 := own_below (own_below ho13 hb18 (Nat.le_refl _)) hb23 (Nat.le_refl _)
      have hm23' := hm18.below hb23 (Nat.le_refl _)
      have hl := hm18.lt
      have hl2 := hm23.lt
      have s13 := hB13.size; have s18 := hb18.size; have s23 := hb23.size
      have hown : ∀ x, (Value.slice A' m c').ownBlock = some x → x < w13.heap.size := fun x hx => (ho13.lt x hx).2
      refine ⟨_, w13.heap.size, w18.heap.size, .slice A' m c', rfl, ?_, hB23.alloc hB23.size _⟩
      exact { bb := by omega, bm := s13, bc := by omega, n1 := by omega, n2 := by omega, n3 := by omega, v1 := fun e => by have := hown _ e; omega, v2 := fun e => by have := hown _ e; omega, v3 := fun e => by have := hown _ e; omega,
              whole := by rw [HK.out, HMS.out]; exact Whole.new w23 _ _, fly := fly_of_own (ho23.alloc _) HM.out (by simp), sent := hm23'.alloc _, came := hm23.alloc _, fs := HN.out.fs, gs := HN.out.gs }
    clear ho13 hm18 hm23
    go_wp2
    go_ret
    exact HFIN.out
end Go.Proofs.YtbecgfeoacncdaaDoor
