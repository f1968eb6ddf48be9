/- A pattern in a block; Turn, Sub by names. -/
import Derived.Test.YtgolcogigpnbeaaGreatDoorSub
import Derived.Test.YtgolcogigpnbeaaGreatDoorBackP
import Derived.Test.YtgolcogigpnbeaaGreatDoorTurn
import Derived.Test.YtgolcogigpnbeaaGreatDoorPermThen
import Derived.Test.YtgolcogigpnbeaaGreatDoorAlive8
import Derived.Test.YtgolcogigpnbeaaGreatDoorPat9
namespace Go.Proofs.YtgolcogigpnbeaaGreatDoor
open Go.RowKit

theorem farB_false8 {n m : Nat} (h : farB n m = false) : n ≤ 20 ∧ m ≤ 60 := by
  unfold farB at h
  simp only [Bool.or_eq_false_iff, decide_eq_false_iff_not] at h
  omega
/-- A pattern of the program in a block. -/
structure PatAt (W : World) (g : Nat) (lv ev : Value) (L : List Int) (E : List (Int × Int)) : Prop where
  w : Whole W g 31 #[lv, ev]
  l : SeqV W lv L
  e : EdgesV W ev E
theorem PatAt.below {W W' : World} {g : Nat} {lv ev : Value} {L : List Int} {E : List (Int × Int)} (h : PatAt W g lv ev L E) (hb : Below W.heap.size W W') : PatAt W' g lv ev L E := ⟨h.w.below hb h.w.lt, h.l.below hb (Nat.le_refl _), h.e.below hb (Nat.le_refl _)⟩
theorem PatAt.stored {W : World} {lv ev : Value} {L : List Int} {E : List (Int × Int)} (hl : SeqV W lv L) (he : EdgesV W ev E) : PatAt (W.alloc (.cells #[lv, ev] 31)) W.heap.size lv ev L E ∧ Below W.heap.size W (W.alloc (.cells #[lv, ev] 31)) := by
  have hb : Below W.heap.size W (W.alloc (.cells #[lv, ev] 31)) := (Below.refl _ _).alloc (Nat.le_refl _) _
  exact ⟨⟨Whole.new W _ _, hl.below hb (Nat.le_refl _), he.below hb (Nat.le_refl _)⟩, hb⟩
theorem turn_n {w : World} {vl ve vu : Value} {L : List Int} {E : List (Int × Int)} {n m : Nat} {U : Nat → Int} (hn : L.length = n) (hm : E.length = m) (hl : SeqV w vl L) (he : EdgesV w ve E) (hrp : RightP L E) (hu : IntsV w vu n U) (hO : Order n U) (h2 : m ≤ 10000) :
    Calls Tryz.prog 25 #[.agg #[vl, ve], vu] w fun e w' => ∃ b g c Y, e = .returned (.tuple #[.agg #[.slice (some ⟨b, 0, none⟩) n n, .slice (some ⟨g, 0, none⟩) m c], .nilIface]) ∧ (∀ i, i < n → Y (U i).toNat = L.getD i 0) ∧ SeqV w' (.slice (some ⟨b, 0, none⟩) n n) (labY n Y) ∧ EdgesV w' (.slice (some ⟨g, 0, none⟩) m c) (turnE U E) ∧ RightP (labY n Y) (turnE U E) ∧ (turnE U E).length = m ∧ Below w.heap.size w w' := by
  refine (turn_any hn hl he hrp hu hO (by omega)).mono ?_
  rintro e w' ⟨b, g, c, Y, rfl, h1, h2, h3, h4⟩
  rw [hm] at h3 ⊢
  exact ⟨b, g, c, Y, rfl, h2, seqV_of h1, h3, rightP_turn hrp hn hO h2, by rw [(turn_perm U E).length_eq]; simp [hm], h4⟩
theorem id_n (n : Nat) (w : World) (hn : n ≤ 8) :
    Calls Tryz.prog 27 #[.int .i64 n] w fun e w' => ∃ b, e = .returned (.slice (some ⟨b, 0, none⟩) n n) ∧ IntsV w' (.slice (some ⟨b, 0, none⟩) n n) n (fun i => (i : Int)) ∧ Below w.heap.size w w' :=
  (id_ok n w hn).mono fun _ _ h => ⟨_, h.1, own_intsV h.2.1, h.2.2⟩
/-- What Sub of all vertices tells. -/
def SubN (L : List Int) (E : List (Int × Int)) (n m : Nat) (w : World) (e : Ending) (w' : World) : Prop :=
  ∃ A c A' c', e = .returned (.tuple #[.agg #[.slice A n c, .slice A' m c'], .nilIface]) ∧ w'.ownsRow w.heap.size 3 1 (.slice A n c) n (intCells L) ∧ w'.ownsRow w.heap.size 62 2 (.slice A' m c') m (eL E) ∧ Below w.heap.size w w'
theorem sub_n {w : World} {vl ve : Value} {Au : Option Addr} {L : List Int} {E : List (Int × Int)} {n m : Nat} (hn : L.length = n) (hm : E.length = m) (hl : SeqV w vl L) (he : EdgesV w ve E) (hrp : RightP L E) (hu : IntsV w (.slice Au n n) n (fun i => (i : Int))) (h2 : m ≤ 10000) :
    Calls Tryz.prog 26 #[.agg #[vl, ve], .slice Au n n] w (SubN L E n m w) := by
  refine (sub_any hn hl he hrp hu (Nat.le_refl _) (fun i hi => ⟨by omega, by omega⟩) (fun i j _ h => by omega) (by rw [← hn]; exact hrp.len) (by omega)).mono ?_
  rintro e w' ⟨vl', ve', rfl, h1, h3, h4⟩
  have e1 : labV L (fun i => (i : Int)) n = L := labV_id' hn (fun _ _ => rfl)
  have e2 : subE (fun i => (i : Int)) E n n = E := subE_id (by have h9 := hrp.ends; rw [hn] at h9; exact h9) hrp.rising (fun _ _ => rfl)
  rw [e1, hn] at h1
  rw [e2, hm] at h3
  obtain ⟨A, c, rfl⟩ := own_form h1
  obtain ⟨A', c', rfl⟩ := own_form h3
  exact ⟨A, c, A', c', rfl, h1, h3, h4⟩
theorem PatAt.last {B : Nat} {W wS : World} {A A' : Option Addr} {n m c c' : Nat} {L : List Int} {E : List (Int × Int)} (hb : Below W.heap.size W wS) (h1 : wS.ownsRow B 3 1 (.slice A n c) n (intCells L)) (h2 : wS.ownsRow B 62 2 (.slice A' m c') m (eL E)) :
    PatAt (wS.alloc (.cells #[.slice A n c, .slice A' m c'] 31)) wS.heap.size (.slice A n c) (.slice A' m c') L E ∧ Below W.heap.size W (wS.alloc (.cells #[.slice A n c, .slice A' m c'] 31)) :=
  ⟨(PatAt.stored (own_seq h1) (own_edges h2)).1, hb.alloc hb.size _⟩
theorem PatAt.early {B g : Nat} {W wS : World} {A A' : Option Addr} {n m c c' : Nat} {L : List Int} {E : List (Int × Int)} (hb : Below W.heap.size W wS) (h1 : wS.ownsRow B 3 1 (.slice A n c) n (intCells L)) (h2 : wS.ownsRow B 62 2 (.slice A' m c') m (eL E))
    {x y : Value} (hw : Whole wS g 31 #[x, y]) (hg : W.heap.size ≤ g) :
    PatAt ((wS.setCell ⟨g, 0, none⟩ (.slice A n c)).setCell ⟨g, 1, none⟩ (.slice A' m c')) g (.slice A n c) (.slice A' m c') L E ∧ Below W.heap.size W ((wS.setCell ⟨g, 0, none⟩ (.slice A n c)).setCell ⟨g, 1, none⟩ (.slice A' m c')) := by
  have n1 := own_ne h1 hw (by decide)
  have n2 := own_ne h2 hw (by decide)
  exact ⟨⟨(hw.put 0 _).put 1 _, own_seq (own_put (own_put h1 (p := ⟨g, 0, none⟩) n1 _) (p := ⟨g, 1, none⟩) n1 _), own_edges (own_put (own_put h2 (p := ⟨g, 0, none⟩) n2 _) (p := ⟨g, 1, none⟩) n2 _)⟩, (hb.setCell (p := ⟨g, 0, none⟩) hg _).setCell (p := ⟨g, 1, none⟩) hg _⟩
end Go.Proofs.YtgolcogigpnbeaaGreatDoor
