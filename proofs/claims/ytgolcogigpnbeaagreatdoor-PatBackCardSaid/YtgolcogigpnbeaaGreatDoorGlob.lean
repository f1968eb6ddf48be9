/- What the listed variables give a walk; strconv.Itoa as a walk takes it. -/
import Derived.Test.YtgolcogigpnbeaaGreatDoorTextP
import Derived.Test.YtgolcogigpnbeaaGreatDoorShelf
import Derived.Test.YtgolcogigpnbeaaGreatDoorFaultAt
import Derived.Lib.Hide
import Derived.Lib.AppendIntMem
namespace Go.Proofs.YtgolcogigpnbeaaGreatDoor
open Go.RowKit

/-- The variables of the library hold what they are laid with. -/
structure GT (w : World) : Prop where
  et : ErrT w
  tab : Lib.TabIs Tryz.prog w "internal/strconv.uint64pow10" .u64 Lib.pow10Tab
theorem Tryz.gTab : Tryz.prog.globalNamed "internal/strconv.uint64pow10" = some 1 := by kernel_rfl
theorem var_keep {n : String} {g : Nat} {w w' : World} {cs : Array Value} {B : Nat} (hg : Tryz.prog.globalNamed n = some g) (h : w.var? Tryz.prog n = some cs) (hb : Below B w w') (hB : w.heap.size ≤ B) : w'.var? Tryz.prog n = some cs := by
  have hl : g < w.heap.size := by
    rcases Nat.lt_or_ge g w.heap.size with h' | h'
    · exact h'
    · simp [World.var?, hg, Array.getElem?_eq_none h'] at h
  have e := hb.block g (by omega)
  unfold World.var? at h ⊢
  rw [hg] at h ⊢
  simp only [Option.bind_some] at h ⊢
  rw [e]
  exact h
theorem GT.below {w w' : World} (h : GT w) {B : Nat} (hb : Below B w w') (hB : w.heap.size ≤ B) : GT w' := ⟨h.et.below hb hB, var_keep Tryz.gTab h.tab hb hB⟩
theorem itoa_at (n : Nat) (hn : n ≤ 9223372036854775807) (w : World) (hg : GT w) :
    Calls Tryz.prog 37 #[.int .i64 n] w fun e w' => e = .returned (.string (str (Lib.decDigits n))) ∧ Below w.heap.size w w' := by
  refine (Tryz.strconv_Itoa n (by omega) (by omega) w hg.tab).mono ?_
  rintro e w' ⟨rfl, k, os, rfl⟩
  refine ⟨by rw [Lib.itoa_nonneg]; rfl, ?_⟩
  exact Lib.below_grow _ w (Nat.le_refl _) k os
end Go.Proofs.YtgolcogigpnbeaaGreatDoor
