/- The reader: where it stands; NewReader, Left. -/
import Derived.Test.YtkpoeahnlldpgaaDoorWerr
import Derived.Deep.QuietTactic
namespace Go.Proofs.YtkpoeahnlldpgaaDoor
open Go.RowKit

/-- A reader in block g: its bytes, its place, its error. -/
def ReaderAt (w : World) (g : Nat) (l : List UInt8) (p : Nat) (v : Value) : Prop :=
  p ≤ l.length ∧ ∃ A c, Whole w g 73 #[.slice A l.length c, .int .i64 (p : Nat), v] ∧ BytesV w (.slice A l.length c) l
theorem ReaderAt.below {w w' : World} {g p : Nat} {l : List UInt8} {v : Value} (h : ReaderAt w g l p v) (hb : Below w.heap.size w w') : ReaderAt w' g l p v := by
  obtain ⟨hp, A, c, hw, hv⟩ := h
  exact ⟨hp, A, c, hw.below hb hw.lt, hv.below hb (Nat.le_refl _)⟩

set_option maxRecDepth 100000 in
theorem left_any (g p : Nat) (l : List UInt8) (v : Value) (w : World) (h : ReaderAt w g l p v) (hl : l.length ≤ 1000000000) :
    Calls Tryd.prog 25 #[.pointer (some ⟨g, 0, none⟩)] w fun e w' => e = .returned (.int .i64 ((l.length - p : Nat) : Int)) ∧ ∃ d, w' = w.drewN d := by
  obtain ⟨hp, A, c, hw, hv⟩ := h
  have a0 := hw.cell 0; have a1 := hw.cell 1
  simp at a0 a1
  obtain ⟨n, hn⟩ : ∃ n, l.length = n := ⟨_, rfl⟩
  rw [hn] at a0 hp hl
  have hw64 : wrap64 ((n - p : Nat) : Int) = ((n - p : Nat) : Int) := by unfold wrap64; omega
  have hsub : ((n : Int) - p) = ((n - p : Nat) : Int) := by omega
  have HN := Lib.hid hn
  clear hw hv hn
  go_enter Tryd.func25, Tryd.ntmps25
  go_wp2
  go_quiet (fail)
  go_wp2
  go_ret
  exact ⟨by rw [HN.out]; rfl, _, rfl⟩

set_option maxRecDepth 100000 in
theorem reader_new (l : List UInt8) (v : Value) (w : World) (h : BytesV w v l) (hl : l.length ≤ 1000000000) :
    Calls Tryd.prog 17 #[v] w fun e w' => ∃ g, e = .returned (.pointer (some ⟨g, 0, none⟩)) ∧ w.heap.size ≤ g ∧ ReaderAt w' g l 0 .nilIface ∧ Below w.heap.size w w' := by
  have C1 := Lib.hid (clone_any l v w h hl)
  obtain ⟨A, c, rfl, _⟩ := h.form
  clear h
  go_enter Tryd.func17, Tryd.ntmps17
  go_wp2_with fail
  refine C1.out.mono ?_; rintro e w1 ⟨v1, rfl, ho1, hb1⟩
  obtain ⟨A1, c1, rfl⟩ := own_form ho1
  have HO1 := Lib.hid ho1; have HB1 := Lib.hid hb1
  clear ho1 hb1
  go_wp2
  go_ret
  have ho := HO1.out
  have hA : Below w1.heap.size w1 (w1.alloc (.cells #[.slice A1 l.length c1, .int .i64 0, .nilIface] 73)) := (Below.refl _ _).alloc (Nat.le_refl _) _
  exact ⟨w1.heap.size, rfl, HB1.out.size, ⟨Nat.zero_le _, A1, c1, Whole.new _ _ _, (own_bytesV ho).below hA (Nat.le_refl _)⟩, HB1.out.alloc HB1.out.size _⟩
end Go.Proofs.YtkpoeahnlldpgaaDoor
