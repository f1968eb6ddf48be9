/- Back to what was kept. -/
import Derived.Test.YtlopoddllfkkfaaDoorBsp4
namespace Go.Proofs.YtlopoddllfkkfaaDoor
open Go.RowKit

theorem Tryd.infoStr : (Tryd.prog.info? 9).map (fun i => (i.zero, i.size, i.bytes)) = some (some (.string ⟨#[]⟩), 1, 16) := by kernel_rfl
theorem Tryd.infoBool : (Tryd.prog.info? 4).map (fun i => (i.zero, i.size, i.bytes)) = some (some (.bool false), 1, 1) := by kernel_rfl
theorem Tryd.infoStrs : (Tryd.prog.info? 22).map (fun i => (i.zero, i.size, i.bytes)) = some (some (.slice none 0 0), 1, 24) := by kernel_rfl
theorem make_strs (k : Nat) (V : World) (hk : k ≤ 1000000) : (Instr.makeSlice 22 (.int .i64 (k : Nat)) (.int .i64 (k : Nat))).run Tryd.prog V = .ok (.slice (some ⟨V.heap.size, 0, none⟩) k k) (V.alloc (.cells (madeCells #[.string ⟨#[]⟩] k) 9)) := by
  obtain ⟨j1, hi1, ky0, ky1, ky2⟩ := info_parts Tryd.infoStr
  have h := run_make (P := Tryd.prog) V 22 9 j1 (.string ⟨#[]⟩) Tryd.underlying22 hi1 ky0 .i64 .i64 (k : Int) (k : Int) (by omega) (by omega) (by rw [ky2]; omega) (by omega)
  rw [h, ky1, Int.toNat_natCast, Nat.mul_one]
  rfl
theorem make_bools (k : Nat) (V : World) (hk : k ≤ 1000000) : (Instr.makeSlice 37 (.int .i64 (k : Nat)) (.int .i64 (k : Nat))).run Tryd.prog V = .ok (.slice (some ⟨V.heap.size, 0, none⟩) k k) (V.alloc (.cells (madeCells #[.bool false] k) 4)) := by
  obtain ⟨j1, hi1, ky0, ky1, ky2⟩ := info_parts Tryd.infoBool
  have h := run_make (P := Tryd.prog) V 37 4 j1 (.bool false) Tryd.underlying37 hi1 ky0 .i64 .i64 (k : Int) (k : Int) (by omega) (by omega) (by rw [ky2]; omega) (by omega)
  rw [h, ky1, Int.toNat_natCast, Nat.mul_one]
  rfl
theorem make_rows (k : Nat) (V : World) (hk : k ≤ 1000000) : (Instr.makeSlice 36 (.int .i64 (k : Nat)) (.int .i64 (k : Nat))).run Tryd.prog V = .ok (.slice (some ⟨V.heap.size, 0, none⟩) k k) (V.alloc (.cells (madeCells #[.slice none 0 0] k) 22)) := by
  obtain ⟨j1, hi1, ky0, ky1, ky2⟩ := info_parts Tryd.infoStrs
  have h := run_make (P := Tryd.prog) V 36 22 j1 (.slice none 0 0) Tryd.underlying36 hi1 ky0 .i64 .i64 (k : Int) (k : Int) (by omega) (by omega) (by rw [ky2]; omega) (by omega)
  rw [h, ky1, Int.toNat_natCast, Nat.mul_one]
  rfl
theorem madeOne (z : Value) (k : Nat) : madeCells #[z] k = (List.replicate k z).toArray := by
  apply Array.ext
  · rw [size_madeCells]; simp
  · intro t h1 h2
    rw [size_madeCells] at h1
    have e2 : (madeCells #[z] k)[t]'(by rw [size_madeCells]; exact h1) = z := by
      simp only [madeCells, Array.getElem_map, Array.getElem_range]
      simp [show t % 1 = 0 by omega]
    rw [e2]
    simp
theorem made_txt (k : Nat) : madeCells #[.string ⟨#[]⟩] k = (txtC (List.replicate k ⟨#[]⟩)).toArray := by
  rw [madeOne]
  simp [txtC]
theorem made_bool (k : Nat) : madeCells #[.bool false] k = (boolC (List.replicate k false)).toArray := by
  rw [madeOne]
  simp [boolC]
theorem size_put (w : World) (p : Addr) (v : Value) : (w.setCell p v).heap.size = w.heap.size := by simp
/-- What back leaves. -/
def BackTo (base : Nat) (nk m k : Nat) (jv rv sv iv : Value) (w : World) (w' : World) : Prop :=
  ∃ nb wb b' Rn', Whole w' m 68 #[jv, rv, sv, iv, .slice (some ⟨nb, 0, none⟩) k k, .slice (some ⟨wb, 0, none⟩) k k, .pointer (some ⟨b', 0, none⟩)] ∧
    Whole w' nb 9 (txtC (List.replicate k ⟨#[]⟩)).toArray ∧ Whole w' wb 4 (boolC (List.replicate k false)).toArray ∧ NetB w' base 0 (freshP nk) b' Rn' ∧
    Fr w.heap.size (fun g => g = m) w w' ∧ w.heap.size ≤ nb ∧ w.heap.size ≤ wb ∧ nb ≠ wb ∧ ∀ g, Rn' g → w.heap.size ≤ g ∧ g ≠ nb ∧ g ≠ wb
set_option maxRecDepth 100000 in
set_option maxHeartbeats 4000000 in
theorem back_any {w : World} {base N : Nat} {n : NetP} {m b k : Nat} {A : Option Addr} {c : Nat} {jv rv iv x4 x5 : Value} {Rn : Nat → Prop} (hw : Whole w m 68 #[jv, rv, .slice A k c, iv, x4, x5, .pointer (some ⟨b, 0, none⟩)]) (hn : NetB w base N n b Rn) (hm : ¬ Rn m) (hbase : base ≤ w.heap.size) (hk : k ≤ 64) :
    Calls Tryd.prog 30 #[.pointer (some ⟨m, 0, none⟩)] w fun e w' => e = .returned (.tuple #[]) ∧ BackTo base n.k m k jv rv (.slice A k c) iv w w' := by
  have c2 : w.cell? ⟨m, 2, none⟩ = some (.slice A k c) := hw.cell 2
  have c4 : w.cell? ⟨m, 4, none⟩ = some x4 := hw.cell 4
  have f4 : w.frozen? ⟨m, 4, none⟩ = false := hw.free 4
  have c5 : w.cell? ⟨m, 5, none⟩ = some x5 := hw.cell 5
  have f5 : w.frozen? ⟨m, 5, none⟩ = false := hw.free 5
  have c6 : w.cell? ⟨m, 6, none⟩ = some (.pointer (some ⟨b, 0, none⟩)) := hw.cell 6
  have hml := hw.lt
  have mk1 := fun V => make_strs k V (by omega)
  have mk2 := fun V => make_bools k V (by omega)
  have p1 := ((hw.put 4 (.slice (some ⟨w.heap.size, 0, none⟩) k k)).put 5 (.slice (some ⟨w.heap.size + 1, 0, none⟩) k k)).alloc (.cells (madeCells #[.string ⟨#[]⟩] k) 9) |>.alloc (.cells (madeCells #[.bool false] k) 4)
  obtain ⟨w1, hw1⟩ : ∃ W, ((w.setCell ⟨m, 4, none⟩ (.slice (some ⟨w.heap.size, 0, none⟩) k k)).setCell ⟨m, 5, none⟩ (.slice (some ⟨w.heap.size + 1, 0, none⟩) k k)) = W := ⟨_, rfl⟩
  have hs1 : w1.heap.size = w.heap.size := by rw [← hw1, size_put, size_put]
  have g1 : w.grownBy w1 (some m) := by rw [← hw1]; exact (grown_cell w m 4 _).trans (grown_cell _ m 5 _)
  rw [hw1] at p1
  have p2 := (Whole.new w1 9 (madeCells #[.string ⟨#[]⟩] k)).alloc (.cells (madeCells #[.bool false] k) 4)
  have p3 := Whole.new (w1.alloc (.cells (madeCells #[.string ⟨#[]⟩] k) 9)) 4 (madeCells #[.bool false] k)
  rw [World.size_alloc] at p3
  rw [hs1] at p2 p3
  have hf2 : Fr w.heap.size (fun g => g = m) w ((w1.alloc (.cells (madeCells #[.string ⟨#[]⟩] k) 9)).alloc (.cells (madeCells #[.bool false] k) 4)) := by
    refine (Fr.of_grown g1 (Nat.le_refl _) (fun g hg _ => (Option.some.inj hg).symm)).trans (Fr.of_below (B := w1.heap.size) ?_ (by omega))
    exact ((Below.refl _ _).alloc (Nat.le_refl _) _).alloc (by rw [World.size_alloc]; omega) _
  obtain ⟨w2, hw2⟩ : ∃ W, ((w1.alloc (.cells (madeCells #[.string ⟨#[]⟩] k) 9)).alloc (.cells (madeCells #[.bool false] k) 4)) = W := ⟨_, rfl⟩
  rw [hw2] at p1 p2 p3 hf2
  have hs2 : w2.heap.size = w.heap.size + 2 := by rw [← hw2, World.size_alloc, World.size_alloc, hs1]
  have hn2 := hn.stay hf2 (fun g hg e => hm (by rw [← e]; exact hg))
  have NX := Lib.hid (next_b hn2 (by omega))
  have P1 := Lib.hid p1; have P2 := Lib.hid p2; have P3 := Lib.hid p3; have HF2 := Lib.hid hf2; have HW1 := Lib.hid hw1; have HW2 := Lib.hid hw2; have HS2 := Lib.hid hs2
  have HML := Lib.hid hml; have HMN := Lib.hid hm
  clear hw hn hm hbase p1 p2 p3 hw1 hw2 hs1 hs2 g1 hf2 hn2
  go_enter Tryd.func30, Tryd.ntmps30
  go_wp2_with fail
  rw [HW1.out, HW2.out]
  refine NX.out.mono ?_; rintro e w3 ⟨v, rfl, b', Rn', rfl, hn3, hr3, hb3⟩
  have q1 := P1.out.below hb3 (by have := HS2.out; have := HML.out; omega)
  have q2 := P2.out.below hb3 (by have := HS2.out; omega)
  have q3 := P3.out.below hb3 (by have := HS2.out; omega)
  have d6 : w3.cell? ⟨m, 6, none⟩ = some (.pointer (some ⟨b, 0, none⟩)) := q1.cell 6
  have g6 : w3.frozen? ⟨m, 6, none⟩ = false := q1.free 6
  have HFIN : Hid (BackTo base n.k m k jv rv (.slice A k c) iv w (w3.setCell ⟨m, 6, none⟩ (.pointer (some ⟨b', 0, none⟩)))) := Lib.hid (by
    have hml := HML.out
    have hs2 := HS2.out
    refine ⟨w.heap.size, w.heap.size + 1, b', Rn', q1.put 6 _, ?_, ?_, ?_, ?_, Nat.le_refl _, Nat.le_succ _, by omega, fun g hg => ?_⟩
    · rw [← made_txt]; exact q2.other (by show w.heap.size ≠ m; omega) _
    · rw [← made_bool]; exact q3.other (by show w.heap.size + 1 ≠ m; omega) _
    · exact hn3.stay (R' := fun g => g = m) (Fr.of_grown (grown_cell w3 m 6 _) (Nat.le_refl _) (fun g hg _ => (Option.some.inj hg).symm)) (fun g hg e => by have := hr3 g hg; omega)
    · exact (HF2.out.trans (Fr.of_below (B := w2.heap.size) hb3 (by omega))).trans (Fr.of_grown (grown_cell w3 m 6 _) (by have := hb3.size; omega) (fun g hg _ => (Option.some.inj hg).symm))
    · have := hr3 g hg
      exact ⟨by omega, by omega, by omega⟩)
  clear q1 q2 q3 hn3 hr3 hb3
  go_wp2_with fail
  refine bodyPost_end (results_none rfl _ _ _) rfl ?_
  exact ⟨rfl, HFIN.out⟩
end Go.Proofs.YtlopoddllfkkfaaDoor
