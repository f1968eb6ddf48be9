/- fault.New, fault.find and fault.Code at a fault, by contracts. -/
import Derived.Test.YtcmocigckcjdjaaGreatDoorAs
namespace Go.Proofs.YtcmocigckcjdjaaGreatDoor
open Go.RowKit Go.Extern.Stop Go.Stop Go.Extern

theorem new_any (c a : Int) (s : ByteArray) (w : World) :
    Calls Tryz.prog 25 #[.int .i64 c, .int .i64 a, .string s] w fun e w' => e = .returned (.iface 81 (.pointer (some ⟨w.heap.size, 0, none⟩))) ∧ w.alloc (.cells #[.int .i64 c, .int .i64 a, .string s] 84) = w' := by
  go_enter Tryz.func25, Tryz.ntmps25
  go_wp2
  go_ret
  exact ⟨rfl, rfl⟩

theorem ErrT.lt {w : World} (h : ErrT w) : 0 < w.heap.size := by
  rcases Nat.lt_or_ge 0 w.heap.size with h' | h'
  · exact h'
  · simp [ErrT, World.cell?, Array.getElem?_eq_none h'] at h
theorem ErrT.below {w w' : World} (h : ErrT w) {B : Nat} (hb : Below B w w') (hB : w.heap.size ≤ B) : ErrT w' := by
  have hl := h.lt
  unfold ErrT at *
  rw [hb.cell (show 0 < B by omega)]
  exact h
theorem ErrT.alloc {w : World} (h : ErrT w) (o : Obj) : ErrT (w.alloc o) := h.below ((Below.refl _ _).alloc (Nat.le_refl _) o) (Nat.le_refl _)

theorem find_hit (e : Addr) (w : World) (hg : ErrT w) :
    Calls Tryz.prog 53 #[.iface 81 (.pointer (some e))] w fun ev w' => ev = .returned (.pointer (some e)) ∧ Below w.heap.size w w' := by
  have hh := as_hit e ⟨w.heap.size, 0, none⟩ (.pointer none) (w.alloc (.cells #[.pointer none] 81)) (hg.alloc _) (by simp) (by simp)
  go_enter Tryz.func53, Tryz.ntmps53
  go_wp2_with (go_at_call 80; refine hh.mono ?_; clear hh; rintro ev w' ⟨rfl, rfl⟩)
  go_ret
  refine ⟨rfl, ?_⟩
  go_grown

theorem code_nil (w : World) : Calls Tryz.prog 18 #[.nilIface] w fun e w' => e = .returned (.int .i64 0) ∧ w = w' := by
  go_enter Tryz.func18, Tryz.ntmps18
  go_wp2
  go_ret
  exact ⟨rfl, rfl⟩

theorem code_hit (b : Nat) (c : Int) (w : World) (hg : ErrT w) (hc : w.cell? ⟨b, 0, none⟩ = some (.int .i64 c)) :
    Calls Tryz.prog 18 #[.iface 81 (.pointer (some ⟨b, 0, none⟩))] w fun e w' => e = .returned (.int .i64 c) ∧ Below w.heap.size w w' := by
  have hb : b < w.heap.size := by
    rcases Nat.lt_or_ge b w.heap.size with h | h
    · exact h
    · simp [World.cell?, Array.getElem?_eq_none h] at hc
  go_enter Tryz.func18, Tryz.ntmps18
  go_wp2_with (go_at_call 53; refine (find_hit _ _ hg).mono ?_; rintro ev w' ⟨rfl, hw⟩; have hc' := (hw.cell (p := ⟨b, 0, none⟩) hb).trans hc; clear hc)
  go_ret
  exact ⟨rfl, by assumption⟩
end Go.Proofs.YtcmocigckcjdjaaGreatDoor
