/- graph.New, over build's contract. -/
import Derived.Test.YtfngkbpoefapdaaDoorGraphAt
import Derived.Test.YtfngkbpoefapdaaDoorEdgesV
namespace Go.Proofs.YtfngkbpoefapdaaDoor
open Go.RowKit

/-- What New tells. -/
def NewTo (L : List Int) (E : List (Int × Int)) (w : World) (e : Ending) (w' : World) : Prop :=
  Below w.heap.size w w' ∧ ((newFault L E = none ∧ ∃ g, e = .returned (.tuple #[.pointer (some ⟨g, 0, none⟩), .nilIface]) ∧ GraphOwn w' w.heap.size g L (sortE E)) ∨
    ∃ c p u, newFault L E = some (c, p) ∧ e = .returned (.tuple #[.pointer none, u]) ∧ FaultAt c p w' u)

set_option maxRecDepth 100000 in
set_option maxHeartbeats 2000000 in
theorem new_large (L : List Int) (E : List (Int × Int)) (vl ve : Value) (w : World) (hl : SeqV w vl L) (he : EdgesV w ve E) (hbig : 4096 < L.length ∨ 16384 < E.length) (hm : L.length ≤ 9223372036854775807) (hm2 : E.length ≤ 9223372036854775807) :
    Calls Tryd.prog 9 #[vl, ve] w (NewTo L E w) := by
  have HF : Hid (newFault L E = some (6, 0)) := Lib.hid (by unfold newFault; rw [if_pos hbig])
  obtain ⟨Al, cl, rfl⟩ := IntsV.form hl
  obtain ⟨Ae, ce, rfl⟩ := he.form
  obtain ⟨n, hn⟩ : ∃ n, L.length = n := ⟨_, rfl⟩
  obtain ⟨m, hmm⟩ : ∃ m, E.length = m := ⟨_, rfl⟩
  rw [hn] at hbig hm ⊢
  rw [hmm] at hbig hm2 ⊢
  have hc : (decide ((4096 : Int) < n) = true ∧ decide (4096 < n) = true) ∨ ((decide ((4096 : Int) < n) = false ∧ decide (4096 < n) = false) ∧ decide ((16384 : Int) < m) = true ∧ decide (16384 < m) = true) := by
    simp; omega
  clear hl he hn hmm hbig
  rcases hc with ⟨t1, t1'⟩ | ⟨⟨t1, t1'⟩, t2, t2'⟩
  all_goals
    go_enter Tryd.func9, Tryd.ntmps9
    go_wp2_with fail
    refine (new_any _ _ _ _).mono ?_; rintro e w2 ⟨rfl, rfl⟩
    go_wp2_with fail
    go_ret2
    exact ⟨(Below.refl _ _).alloc (Nat.le_refl _) _, Or.inr ⟨_, _, _, HF.out, rfl, _, _, rfl, Whole.new _ _ _⟩⟩
end Go.Proofs.YtfngkbpoefapdaaDoor
