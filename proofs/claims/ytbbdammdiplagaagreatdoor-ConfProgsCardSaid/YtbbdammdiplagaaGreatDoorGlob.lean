/- What the listed variables give a walk; strings.Cut, strconv.Atoi and Itoa as a walk takes them. -/
import Derived.Test.YtbbdammdiplagaaGreatDoorTextP
import Derived.Test.YtbbdammdiplagaaGreatDoorShelf
import Derived.Test.YtbbdammdiplagaaGreatDoorFaultAt
import Derived.Lib.Hide
import Derived.Lib.AppendIntMem
namespace Go.Proofs.YtbbdammdiplagaaGreatDoor
open Go.RowKit

/-- The variables of the library hold what they are laid with. -/
structure GT (w : World) : Prop where
  et : ErrT w
  ml : ∃ m, w.cell? ⟨1, 0, none⟩ = some (.int .i64 m)
  tab : Lib.TabIs Tryz.prog w "internal/strconv.uint64pow10" .u64 Lib.pow10Tab
  es : ∃ tp p, w.var? Tryz.prog "strconv.ErrSyntax" = some #[.iface tp p]
  er : ∃ tp p, w.var? Tryz.prog "strconv.ErrRange" = some #[.iface tp p]
theorem Tryz.gTab : Tryz.prog.globalNamed "internal/strconv.uint64pow10" = some 2 := by kernel_rfl
theorem Tryz.gES : Tryz.prog.globalNamed "strconv.ErrSyntax" = some 3 := by kernel_rfl
theorem Tryz.gER : Tryz.prog.globalNamed "strconv.ErrRange" = some 4 := by kernel_rfl
theorem var_keep {n : String} {g : Nat} {w w' : World} {cs : Array Value} {B : Nat} (hg : Tryz.prog.globalNamed n = some g) (h : w.var? Tryz.prog n = some cs) (hb : Below B w w') (hB : w.heap.size ≤ B) : w'.var? Tryz.prog n = some cs := by
  have hl : g < w.heap.size := by
    rcases Nat.lt_or_ge g w.heap.size with h' | h'
    · exact h'
    · simp [World.var?, hg, Array.getElem?_eq_none h'] at h
  have e := hb.block g (by omega)
  unfold World.var? at h ⊢
  rw [hg] at h ⊢
  simp only [Option.bind_some] at h ⊢
  rw [e]
  exact h
theorem GT.below {w w' : World} (h : GT w) {B : Nat} (hb : Below B w w') (hB : w.heap.size ≤ B) : GT w' := by
  obtain ⟨m, hm⟩ := h.ml
  obtain ⟨tp, p, hs⟩ := h.es
  obtain ⟨tq, q, hr⟩ := h.er
  have hl : 1 < w.heap.size := World.block_lt_of_cell? _ _ hm
  exact ⟨h.et.below hb hB, ⟨m, (hb.cell (p := ⟨1, 0, none⟩) (Nat.lt_of_lt_of_le hl hB)).trans hm⟩, var_keep Tryz.gTab h.tab hb hB, ⟨tp, p, var_keep Tryz.gES hs hb hB⟩, ⟨tq, q, var_keep Tryz.gER hr hb hB⟩⟩

theorem cut_at (l : List UInt8) (b : UInt8) (w : World) (hg : GT w) (hl : l.length < 4294967281) :
    Calls Tryz.prog 33 #[.string (str l), .string ⟨#[b]⟩] w fun e w' => e = .returned (.tuple #[.string (str (Lib.cut l [b]).1), .string (str (Lib.cut l [b]).2.1), .bool (Lib.cut l [b]).2.2]) ∧ Below w.heap.size w w' := by
  obtain ⟨m, hm⟩ := hg.ml
  refine (Tryz.strings_Cut (str l) ⟨#[b]⟩ m w hl hm).mono ?_
  rintro e w' ⟨rfl, n, rfl⟩
  exact ⟨rfl, below_drewN' (Below.refl _ _) n⟩
theorem itoa_at (n : Nat) (hn : n ≤ 9223372036854775807) (w : World) (hg : GT w) :
    Calls Tryz.prog 31 #[.int .i64 n] w fun e w' => e = .returned (.string (str (Lib.decDigits n))) ∧ Below w.heap.size w w' := by
  refine (Tryz.strconv_Itoa n (by omega) (by omega) w hg.tab).mono ?_
  rintro e w' ⟨rfl, k, os, rfl⟩
  refine ⟨by rw [Lib.itoa_nonneg]; rfl, ?_⟩
  exact Lib.below_grow _ w (Nat.le_refl _) k os
/-- How Atoi ends, and when its error is none. -/
def AtoiTo (l : List UInt8) (w : World) (e : Ending) (w' : World) : Prop :=
  Below w.heap.size w w' ∧ ((∃ v, Lib.atoiAll l = .ok v ∧ -9223372036854775808 ≤ v ∧ v ≤ 9223372036854775807 ∧ e = .returned (.tuple #[.int .i64 v, .nilIface])) ∨ ((∀ v, Lib.atoiAll l ≠ .ok v) ∧ ∃ x N, e = .returned (.tuple #[.int .i64 x, .iface 180 (.pointer (some ⟨N, 0, none⟩))])))
theorem atoi_at (l : List UInt8) (hl : l.length ≤ 281474976710656) (w : World) (hg : GT w) :
    Calls Tryz.prog 73 #[.string (str l)] w (AtoiTo l w) := by
  rcases h : Lib.atoiAll l with v | _ | _
  · refine (Tryz.strconv_Atoi_ok (str l) (by rw [str_size]; omega) v (by rw [str_list]; exact h) w).mono ?_
    rintro e w' ⟨rfl, hw⟩
    have hb := Lib.atoiAll_bounds h
    refine ⟨?_, Or.inl ⟨v, h, hb.1, hb.2, rfl⟩⟩
    rcases hw with rfl | ⟨t, rfl⟩
    · exact Below.refl _ _
    · exact Lib.bytesWorld_below _ _ _
  · obtain ⟨tp, p, hs⟩ := hg.es
    refine Calls.mono (Any.strconv_Atoi_syntax_var Tryz.laysC172 (str l) hl (by rw [str_list]; exact h) tp p w hs) ?_
    rintro e w' ⟨N, rfl, _, _, hb⟩
    exact ⟨hb, Or.inr ⟨(fun v h2 => by rw [h] at h2; cases h2), _, N, rfl⟩⟩
  · obtain ⟨tp, p, hs⟩ := hg.er
    refine Calls.mono (Any.strconv_Atoi_range_var Tryz.laysC172 (str l) hl (by rw [str_list]; exact h) tp p w hs) ?_
    rintro e w' ⟨N, rfl, _, _, hb⟩
    exact ⟨hb, Or.inr ⟨(fun v h2 => by rw [h] at h2; cases h2), _, N, rfl⟩⟩
end Go.Proofs.YtbbdammdiplagaaGreatDoor
