/- net: what no net answers; Next. -/
import Derived.Test.YtbecgfeoacncdaaDoorDo19
import Derived.Test.YtbecgfeoacncdaaDoorInbox
namespace Go.Proofs.YtbecgfeoacncdaaDoor
open Go.RowKit

/-- A fault, and nothing else turned. -/
def NilTo (w : World) (e : Ending) (w' : World) : Prop := Below w.heap.size w w' ∧ ∃ u, e = .returned u ∧ FaultAt 10 0 w' u
set_option maxRecDepth 100000 in
theorem send_nil (a c : Int) (x : ByteArray) (w : World) : Calls Tryd.prog 24 #[.pointer none, .int .i64 a, .int .i64 c, .string x] w (NilTo w) := by
  have HF := Lib.hid (fun s => new_any 10 0 s w)
  have HB : Hid (∀ s, Below w.heap.size w (w.alloc (.cells #[.int .i64 10, .int .i64 0, .string s] 61))) := Lib.hid (fun _ => (Below.refl _ _).alloc (Nat.le_refl _) _)
  have HW : Hid (∀ s, Whole (w.alloc (.cells #[.int .i64 10, .int .i64 0, .string s] 61)) w.heap.size 61 #[.int .i64 10, .int .i64 0, .string s]) := Lib.hid (fun _ => Whole.new w _ _)
  go_enter Tryd.func24, Tryd.ntmps24
  go_wp2_with fail
  refine (HF.out _).mono ?_; rintro e w1 ⟨rfl, rfl⟩
  go_wp2_with fail
  go_ret
  exact ⟨HB.out _, _, rfl, _, _, rfl, HW.out _⟩
set_option maxRecDepth 100000 in
theorem check_nil (i : Int) (w : World) : Calls Tryd.prog 30 #[.pointer none, .int .i64 i] w (NilTo w) := by
  have HF := Lib.hid (fun s => new_any 10 0 s w)
  have HB : Hid (∀ s, Below w.heap.size w (w.alloc (.cells #[.int .i64 10, .int .i64 0, .string s] 61))) := Lib.hid (fun _ => (Below.refl _ _).alloc (Nat.le_refl _) _)
  have HW : Hid (∀ s, Whole (w.alloc (.cells #[.int .i64 10, .int .i64 0, .string s] 61)) w.heap.size 61 #[.int .i64 10, .int .i64 0, .string s]) := Lib.hid (fun _ => Whole.new w _ _)
  go_enter Tryd.func30, Tryd.ntmps30
  go_wp2_with fail
  refine (HF.out _).mono ?_; rintro e w1 ⟨rfl, rfl⟩
  go_wp2_with fail
  go_ret
  exact ⟨HB.out _, _, rfl, _, _, rfl, HW.out _⟩
set_option maxRecDepth 100000 in
theorem double_nil (i : Int) (w : World) : Calls Tryd.prog 20 #[.pointer none, .int .i64 i] w (NilTo w) := by
  have HC := Lib.hid (check_nil i w)
  go_enter Tryd.func20, Tryd.ntmps20
  go_wp2_with fail
  refine HC.out.mono ?_; rintro e w1 ⟨hb, u, rfl, b, s, rfl, hw⟩
  have HB := Lib.hid hb; have HW := Lib.hid hw
  clear hb hw
  go_wp2_with fail
  go_ret
  exact ⟨HB.out, _, rfl, _, _, rfl, HW.out⟩
set_option maxRecDepth 100000 in
theorem deliver_nil (i : Int) (w : World) : Calls Tryd.prog 21 #[.pointer none, .int .i64 i] w (NilTo w) := by
  have HC := Lib.hid (check_nil i w)
  go_enter Tryd.func21, Tryd.ntmps21
  go_wp2_with fail
  refine HC.out.mono ?_; rintro e w1 ⟨hb, u, rfl, b, s, rfl, hw⟩
  have HB := Lib.hid hb; have HW := Lib.hid hw
  clear hb hw
  go_wp2_with fail
  go_ret
  exact ⟨HB.out, _, rfl, _, _, rfl, HW.out⟩
set_option maxRecDepth 100000 in
theorem missing_nil (w : World) : Calls Tryd.prog 16 #[.pointer none] w fun e w' => e = .returned (.int .i64 0) ∧ w' = w := by
  go_enter Tryd.func16, Tryd.ntmps16
  go_wp2_with fail
  go_ret
  exact ⟨rfl, rfl⟩
set_option maxRecDepth 100000 in
theorem quiet_nil (w : World) : Calls Tryd.prog 17 #[.pointer none] w fun e w' => e = .returned (.bool true) ∧ w' = w := by
  have HM := Lib.hid (missing_nil w)
  go_enter Tryd.func17, Tryd.ntmps17
  go_wp2_with fail
  refine HM.out.mono ?_; rintro e w1 ⟨rfl, hw⟩; obtain rfl := hw.symm
  go_wp2_with fail
  go_ret
  exact ⟨rfl, rfl⟩
set_option maxRecDepth 100000 in
theorem flying_nil (w : World) : Calls Tryd.prog 15 #[.pointer none] w fun e w' => e = .returned (.slice none 0 0) ∧ w' = w := by
  go_enter Tryd.func15, Tryd.ntmps15
  go_wp2_with fail
  go_ret
  exact ⟨rfl, rfl⟩
set_option maxRecDepth 100000 in
theorem has_nil (x : Int) (w : World) : Calls Tryd.prog 29 #[.pointer none, .int .i64 x] w fun e w' => e = .returned (.bool false) ∧ w' = w := by
  go_enter Tryd.func29, Tryd.ntmps29
  go_wp2_with fail
  go_ret
  exact ⟨rfl, rfl⟩
set_option maxRecDepth 100000 in
theorem inbox_nil (x : Int) (w : World) : Calls Tryd.prog 18 #[.pointer none, .int .i64 x] w fun e w' => e = .returned (.slice none 0 0) ∧ w' = w := by
  have HM := Lib.hid (has_nil x w)
  go_enter Tryd.func18, Tryd.ntmps18
  go_wp2_with fail
  refine HM.out.mono ?_; rintro e w1 ⟨rfl, hw⟩; obtain rfl := hw.symm
  go_wp2_with fail
  go_ret
  exact ⟨rfl, rfl⟩
set_option maxRecDepth 100000 in
theorem next_nil (w : World) : Calls Tryd.prog 23 #[.pointer none] w fun e w' => e = .returned (.pointer none) ∧ w' = w := by
  go_enter Tryd.func23, Tryd.ntmps23
  go_wp2_with fail
  go_ret
  exact ⟨rfl, rfl⟩
set_option maxRecDepth 100000 in
theorem clone_nil (w : World) : Calls Tryd.prog 22 #[.pointer none] w fun e w' => e = .returned (.pointer none) ∧ w' = w := by
  go_enter Tryd.func22, Tryd.ntmps22
  go_wp2_with fail
  go_ret
  exact ⟨rfl, rfl⟩
/-- A fresh net of as many workers. -/
def NextTo (k : Nat) (w : World) (e : Ending) (w' : World) : Prop := ∃ p, e = .returned p ∧ NetAt w' w.heap.size p 0 (freshP k) ∧ Below w.heap.size w w'
set_option maxRecDepth 100000 in
theorem next_any {w : World} {base N : Nat} {n : NetP} {b mb cb : Nat} {v : Value} {F G : Value → Option Value} (h : NetIn w base N n b mb cb v F G) :
    Calls Tryd.prog 23 #[.pointer (some ⟨b, 0, none⟩)] w (NextTo n.k w) := by
  have c0 : w.cell? ⟨b, 0, none⟩ = some (.int .i64 n.k) := h.whole.cell 0
  obtain ⟨k, hk⟩ : ∃ k, n.k = k := ⟨_, rfl⟩
  rw [hk] at c0 ⊢
  have HF := Lib.hid (fresh_any k w)
  clear h hk
  go_enter Tryd.func23, Tryd.ntmps23
  go_wp2_with fail
  refine HF.out.mono ?_; rintro e w1 ⟨p, rfl, hN, hb⟩
  have HN := Lib.hid hN; have HB := Lib.hid hb
  clear hN hb
  go_wp2_with fail
  go_ret
  exact ⟨p, rfl, HN.out, HB.out⟩
end Go.Proofs.YtbecgfeoacncdaaDoor
