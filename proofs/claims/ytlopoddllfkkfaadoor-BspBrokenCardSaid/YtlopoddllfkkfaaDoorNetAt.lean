/- A net in memory; New, has, Missing, Quiet, Flying. -/
import Derived.Test.YtlopoddllfkkfaaDoorJ4
import Derived.Test.YtlopoddllfkkfaaDoorJ2
import Derived.Test.YtlopoddllfkkfaaDoorShelfNet
import Derived.Lib.Hide
import Derived.BigQuiet
import Derived.Deep.QuietTactic
namespace Go.Proofs.YtlopoddllfkkfaaDoor
open Go.RowKit

/-- A net. -/
structure NetP where
  k : Nat
  fly : List Let
  sent : Int → Int → Nat
  came : Int → Int → Int → Option Let
  miss : Int
/-- A net in memory, its blocks named. -/
structure NetIn (w : World) (base N : Nat) (n : NetP) (b mb cb : Nat) (v : Value) (F G : Value → Option Value) : Prop where
  bb : base ≤ b
  bm : base ≤ mb
  bc : base ≤ cb
  n1 : b ≠ mb
  n2 : b ≠ cb
  n3 : mb ≠ cb
  v1 : v.ownBlock ≠ some b
  v2 : v.ownBlock ≠ some mb
  v3 : v.ownBlock ≠ some cb
  whole : Whole w b 99 #[.int .i64 n.k, v, .map (some mb), .map (some cb), .int .i64 n.miss]
  fly : FlyAt w base v n.fly
  sent : MapF w 95 mb N F
  came : MapF w 103 cb N G
  fs : ∀ a c, (F (routeV a c)).getD (.int .i64 0) = .int .i64 (n.sent a c)
  gs : ∀ a c s, G (nameV a c s) = (n.came a c s).map letV
/-- A net in memory. -/
def NetAt (w : World) (base : Nat) (p : Value) (N : Nat) (n : NetP) : Prop := ∃ b mb cb v F G, p = .pointer (some ⟨b, 0, none⟩) ∧ NetIn w base N n b mb cb v F G
theorem NetIn.below {w w' : World} {base N B : Nat} {n : NetP} {b mb cb : Nat} {v : Value} {F G : Value → Option Value} (h : NetIn w base N n b mb cb v F G) (hb : Below B w w') (hB : w.heap.size ≤ B) : NetIn w' base N n b mb cb v F G :=
  { h with whole := h.whole.below hb (by have := h.whole.lt; omega), fly := h.fly.below hb hB, sent := h.sent.below hb hB, came := h.came.below hb hB }
theorem NetAt.below {w w' : World} {base N B : Nat} {n : NetP} {p : Value} (h : NetAt w base p N n) (hb : Below B w w') (hB : w.heap.size ≤ B) : NetAt w' base p N n := by
  obtain ⟨b, mb, cb, v, F, G, rfl, h⟩ := h
  exact ⟨b, mb, cb, v, F, G, rfl, h.below hb hB⟩
theorem NetAt.base {w : World} {base base' N : Nat} {n : NetP} {p : Value} (h : NetAt w base p N n) (hb : base' ≤ base) : NetAt w base' p N n := by
  obtain ⟨b, mb, cb, v, F, G, rfl, h⟩ := h
  obtain ⟨A, c, e, hc, hf⟩ := h.fly
  refine ⟨b, mb, cb, v, F, G, rfl, { h with bb := Nat.le_trans hb h.bb, bm := Nat.le_trans hb h.bm, bc := Nat.le_trans hb h.bc, fly := ⟨A, c, e, hc, ?_⟩ }⟩
  rcases hf with hf | ⟨g, off, h1, h2, h3⟩
  · exact Or.inl hf
  · exact Or.inr ⟨g, off, h1, Nat.le_trans hb h2, h3⟩
theorem NetAt.mono {w : World} {base N M : Nat} {n : NetP} {p : Value} (h : NetAt w base p N n) (hM : N ≤ M) : NetAt w base p M n := by
  obtain ⟨b, mb, cb, v, F, G, rfl, h⟩ := h
  exact ⟨b, mb, cb, v, F, G, rfl, { h with sent := h.sent.mono hM, came := h.came.mono hM }⟩
/-- A net in which nothing was sent. -/
def freshP (k : Nat) : NetP := ⟨k, [], fun _ _ => 0, fun _ _ _ => none, 0⟩
theorem run_makeSent (w : World) : (Instr.makeMap 96 none).run Tryd.prog w = .ok (.map (some w.heap.size)) (w.alloc (.map #[] 0)) := by
  simp [Instr.makeMap, Result.andThen]
theorem run_makeCame (w : World) : (Instr.makeMap 97 none).run Tryd.prog w = .ok (.map (some w.heap.size)) (w.alloc (.map #[] 0)) := by
  simp [Instr.makeMap, Result.andThen]

set_option maxRecDepth 100000 in
theorem fresh_any (k : Nat) (w : World) : Calls Tryd.prog 43 #[.int .i64 k] w fun e w' => ∃ p, e = .returned p ∧ NetAt w' w.heap.size p 0 (freshP k) ∧ Below w.heap.size w w' := by
  have hk1 := run_makeSent
  have hk2 := run_makeCame
  have h1 := MapF.made w 95
  have b1 : Below w.heap.size w (w.alloc (.map #[] 0)) := (Below.refl _ _).alloc (Nat.le_refl _) _
  have h2 := MapF.made (w.alloc (.map #[] 0)) 103
  rw [World.size_alloc] at h2
  have b2 := b1.alloc b1.size (.map #[] 0)
  have h3 := h1.alloc (.map #[] 0)
  have hw := Whole.new ((w.alloc (.map #[] 0)).alloc (.map #[] 0)) 99 #[.int .i64 k, .slice none 0 0, .map (some w.heap.size), .map (some (w.heap.size + 1)), .int .i64 0]
  rw [World.size_alloc, World.size_alloc] at hw
  have h4 := h3.alloc (.cells #[.int .i64 k, .slice none 0 0, .map (some w.heap.size), .map (some (w.heap.size + 1)), .int .i64 0] 99)
  have h5 := h2.alloc (.cells #[.int .i64 k, .slice none 0 0, .map (some w.heap.size), .map (some (w.heap.size + 1)), .int .i64 0] 99)
  have b3 := b2.alloc b2.size (.cells #[.int .i64 k, .slice none 0 0, .map (some w.heap.size), .map (some (w.heap.size + 1)), .int .i64 0] 99)
  have HN : Hid (NetIn (((w.alloc (.map #[] 0)).alloc (.map #[] 0)).alloc (.cells #[.int .i64 k, .slice none 0 0, .map (some w.heap.size), .map (some (w.heap.size + 1)), .int .i64 0] 99)) w.heap.size 0 (freshP k) (w.heap.size + 1 + 1) w.heap.size (w.heap.size + 1) (.slice none 0 0) (fun _ => none) (fun _ => none)) :=
    Lib.hid { bb := by omega, bm := Nat.le_refl _, bc := by omega, n1 := by omega, n2 := by omega, n3 := by omega, v1 := by simp [Value.ownBlock], v2 := by simp [Value.ownBlock], v3 := by simp [Value.ownBlock], whole := hw, fly := FlyAt.nil _ _, sent := h4, came := h5, fs := fun _ _ => rfl, gs := fun _ _ _ => rfl }
  have HB := Lib.hid b3
  clear h1 b1 h2 b2 h3 hw h4 h5 b3
  go_enter Tryd.func43, Tryd.ntmps43
  go_wp2_with fail
  go_ret
  exact ⟨_, rfl, ⟨_, _, _, _, _, _, rfl, HN.out⟩, HB.out⟩

/-- What New tells. -/
def NewTo (k : Int) (w : World) (e : Ending) (w' : World) : Prop :=
  Below w.heap.size w w' ∧ ((∃ (j : Nat) (p : Value), k = j ∧ 1 ≤ j ∧ j ≤ 64 ∧ e = .returned (.tuple #[p, .nilIface]) ∧ NetAt w' w.heap.size p 0 (freshP j)) ∨ ((k < 1 ∨ 64 < k) ∧ ∃ u, e = .returned (.tuple #[.pointer none, u]) ∧ FaultAt 1 0 w' u))
set_option maxRecDepth 100000 in
theorem netNew_any (k : Int) (w : World) : Calls Tryd.prog 27 #[.int .i64 k] w (NewTo k w) := by
  by_cases hk : k < 1 ∨ 64 < k
  · have HK := Lib.hid hk
    have hf := new_any 1 0 ⟨#[119, 111, 114, 107, 101, 114, 115]⟩ w
    have HB : Hid (Below w.heap.size w (w.alloc (.cells #[.int .i64 1, .int .i64 0, .string ⟨#[119, 111, 114, 107, 101, 114, 115]⟩] 72))) := Lib.hid ((Below.refl _ _).alloc (Nat.le_refl _) _)
    have HW := Lib.hid (Whole.new w 72 #[.int .i64 1, .int .i64 0, .string ⟨#[119, 111, 114, 107, 101, 114, 115]⟩])
    have HF := Lib.hid hf
    have hc : decide (k < 1) = true ∨ (decide (k < 1) = false ∧ decide (64 < k) = true) := by
      by_cases h : k < 1
      · exact Or.inl (decide_eq_true h)
      · exact Or.inr ⟨decide_eq_false h, decide_eq_true (by omega)⟩
    clear hk hf
    rcases hc with t1 | ⟨t1, t2⟩
    all_goals
      go_enter Tryd.func27, Tryd.ntmps27
      go_wp2_with fail
      refine HF.out.mono ?_; rintro e w1 ⟨rfl, rfl⟩
      go_wp2_with fail
      go_ret2
      exact ⟨HB.out, Or.inr ⟨HK.out, _, rfl, _, _, rfl, HW.out⟩⟩
  · obtain ⟨j, rfl⟩ : ∃ j : Nat, k = j := ⟨k.toNat, by omega⟩
    have HJ : Hid (1 ≤ j ∧ j ≤ 64) := Lib.hid (by omega)
    have t1 : decide ((j : Int) < 1) = false := decide_eq_false (by omega)
    have t1' : decide (j < 1) = false := decide_eq_false (by omega)
    have t2 : decide (64 < (j : Int)) = false := decide_eq_false (by omega)
    have t2' : decide (64 < j) = false := decide_eq_false (by omega)
    have HF := Lib.hid (fresh_any j w)
    have hj0 : ¬ j = 0 := by omega
    clear hk
    go_enter Tryd.func27, Tryd.ntmps27
    go_wp2_with fail
    refine HF.out.mono ?_; rintro e w1 ⟨p, rfl, hN, hb⟩
    have HN := Lib.hid hN; have HB := Lib.hid hb
    obtain ⟨b, mb, cb, v, F, G, rfl, _⟩ := id hN
    clear hN hb
    go_wp2_with fail
    go_ret2
    exact ⟨HB.out, Or.inl ⟨j, _, rfl, HJ.out.1, HJ.out.2, rfl, HN.out⟩⟩
end Go.Proofs.YtlopoddllfkkfaaDoor
