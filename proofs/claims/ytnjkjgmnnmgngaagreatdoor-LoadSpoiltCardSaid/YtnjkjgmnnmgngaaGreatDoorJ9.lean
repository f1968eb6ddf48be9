/- wire.Writer: contracts. wire.Writer: what its calls put. Writer.Err; fault.At at a fault. -/
import Derived.Test.YtnjkjgmnnmgngaaGreatDoorJ8
import Derived.Test.YtnjkjgmnnmgngaaGreatDoorJ1
namespace Go.Proofs.YtnjkjgmnnmgngaaGreatDoor
section
open Go.RowKit

def firstV (u f : Value) : Value := match u with | .nilIface => f | _ => u
theorem first_two (b T : Nat) (x u : Value) (w : World) (c0 : w.cell? ⟨b, 0, none⟩ = some u) (c1 : w.cell? ⟨b, 1, none⟩ = some (.iface T x)) (hu : u = .nilIface ∨ ∃ T' x', u = .iface T' x') :
    Calls Tryz.prog 87 #[.slice (some ⟨b, 0, none⟩) 2 2] w fun e w' => e = .returned (firstV u (.iface T x)) ∧ w' = w := by
  rcases hu with rfl | ⟨T', x', rfl⟩
  · show Calls _ _ _ _ fun e w' => e = .returned (.iface T x) ∧ w' = w
    go_enter Tryz.func87, Tryz.ntmps87
    go_wp2
    refine wp_loop_rounds 2 ?_
    rw [rounds_succ]
    go_wp2
    rw [rounds_succ]
    go_wp2
    go_ret
    exact ⟨rfl, rfl⟩
  · show Calls _ _ _ _ fun e w' => e = .returned (.iface T' x') ∧ w' = w
    go_enter Tryz.func87, Tryz.ntmps87
    go_wp2
    refine wp_loop_rounds 1 ?_
    rw [rounds_succ]
    go_wp2
    go_ret
    exact ⟨rfl, rfl⟩

/-- An error of Writer's: nothing yet, or Range at a place. -/
def ErrW (w : World) (v : Value) : Option Nat → Prop
  | none => v = .nilIface
  | some p => ∃ (b : Nat) (s : ByteArray), v = .iface 60 (.pointer (some ⟨b, 0, none⟩)) ∧ Whole w b 63 #[.int .i64 3, .int .i64 (p : Nat), .string s]
theorem ErrW.form {w : World} {v : Value} {E : Option Nat} (h : ErrW w v E) : v = .nilIface ∨ ∃ T x, v = .iface T x := by
  cases E with
  | none => exact Or.inl h
  | some p => obtain ⟨b, s, rfl, _⟩ := h; exact Or.inr ⟨_, _, rfl⟩
theorem ErrW.keep {w w' : World} {v : Value} {E : Option Nat} (h : ErrW w v E) (hk : ∀ b cs, Whole w b 63 cs → Whole w' b 63 cs) : ErrW w' v E := by
  cases E with
  | none => exact h
  | some p => obtain ⟨b, s, rfl, hw⟩ := h; exact ⟨b, s, rfl, hk _ _ hw⟩
/-- A Writer in block g that has put these bytes. -/
def WriterAt (w : World) (g base : Nat) (l : List UInt8) (E : Option Nat) : Prop :=
  base ≤ g ∧ ∃ (A : Option Addr) (c : Nat) (v : Value), Whole w g 68 #[.slice A l.length c, v] ∧ w.ownsRow base 5 1 (.slice A l.length c) l.length (Lib.byteCells l) ∧ ErrW w v E
def orE : Option Nat → Nat → Option Nat
  | none, n => some n
  | some q, _ => some q
/-- A number's bytes, and what becomes of the error. -/
def fitsN (n : Int) : Bool := decide (0 ≤ n ∧ n ≤ 4294967295)
def numB (n : Int) : List UInt8 := be 4 (if fitsN n then n.toNat else 0)
def numE (E : Option Nat) (n : Int) (at_ : Nat) : Option Nat := if fitsN n then E else orE E at_
theorem numB_len (n : Int) : (numB n).length = 4 := be_len _ _

set_option maxRecDepth 100000 in
set_option maxHeartbeats 4000000 in
theorem wnum_ok (g base n : Nat) (l : List UInt8) (E : Option Nat) (w : World) (h : WriterAt w g base l E) (hn : n ≤ 4294967295) (hl : l.length ≤ 1000000) :
    Calls Tryz.prog 59 #[.pointer (some ⟨g, 0, none⟩), .int .i64 n] w fun e w' => e = .returned (.tuple #[]) ∧ WriterAt w' g base (l ++ be 4 n) E ∧ Below base w w' := by
  obtain ⟨hbg, A, c, v, hw, hown, hE⟩ := h
  have hgl := hw.lt
  have t1 : decide ((n : Int) < 0) = false := decide_eq_false (by omega)
  have t2 : decide (4294967295 < (n : Int)) = false := decide_eq_false (by omega)
  have P1 := Lib.hid (put4 base l.length n n rfl _ _ w hown (by omega) (by omega) (by omega))
  have a0 := hw.cell 0; have a1 := hw.free 0
  simp at a0
  have HW := Lib.hid hw; have HO := Lib.hid hown; have HE := Lib.hid hE
  clear hw hown hE
  go_enter Tryz.func59, Tryz.ntmps59
  go_wp2_with fail
  refine P1.out.mono ?_; rintro e w2 ⟨v2, rfl, hown2, hgrow2⟩
  obtain ⟨A2, c2, rfl⟩ := own_form hown2
  have hw2 := hgrow2.whole HW.out HO.out (by decide)
  have b0 := hw2.cell 0; have b1 := hw2.free 0
  simp at b0
  have HW2 := Lib.hid hw2; have HO2 := Lib.hid hown2; have HG2 := Lib.hid hgrow2
  clear hw2 hown2 hgrow2
  go_wp2_with fail
  go_end0
  have e1 : (l ++ be 4 n).length = l.length + 4 := by simp [be_len]
  refine ⟨rfl, ⟨hbg, A2, c2, v, ?_, ?_, ?_⟩, ?_⟩
  · rw [e1]; exact HW2.out.put 0 _
  · rw [e1, byteCells_app]; exact own_put HO2.out (own_ne HO2.out HW2.out (by decide)) _
  · exact HE.out.keep fun b cs hb => (HG2.out.whole hb HO.out (by decide)).other (p := ⟨g, 0, none⟩) (fun e => by
      have e' : b = g := e
      subst e'
      have h1 := HW.out
      unfold Whole at h1 hb
      rw [hb] at h1
      injection h1 with h1
      injection h1 with _ h2
      exact absurd h2 (by decide)) _
  · exact (HG2.out.below HO.out (Below.refl _ _) (Nat.le_refl _) (by omega)).setCell hbg _

/-- What Num leaves where a number can't be. -/
def WBad (g _base n : Nat) (A : Option Addr) (c : Nat) (v' : Value) (E : Option Nat) (w wx : World) : Prop :=
  Whole wx g 68 #[.slice A n c, v'] ∧ ErrW wx v' (orE E n) ∧ w.grownBy wx (some g)
theorem whole_ne {w : World} {b g : Nat} {t t' : TypeId} {cs cs' : Array Value} (hb : Whole w b t cs) (hg : Whole w g t' cs') (hne : t ≠ t') : b ≠ g := by
  rintro rfl
  unfold Whole at hb hg
  rw [hb] at hg
  injection hg with hg
  injection hg with _ h2
  exact hne h2
theorem ErrW.first {w : World} {v : Value} {E : Option Nat} (h : ErrW w v E) {b p : Nat} {s : ByteArray} (hb : Whole w b 63 #[.int .i64 3, .int .i64 (p : Nat), .string s]) : ErrW w (firstV v (.iface 60 (.pointer (some ⟨b, 0, none⟩)))) (orE E p) := by
  cases E with
  | none => obtain rfl : v = .nilIface := h; exact ⟨b, s, rfl, hb⟩
  | some q => obtain ⟨b', s', rfl, hw⟩ := h; exact ⟨b', s', rfl, hw⟩

theorem two_cell0 (w : World) (o : Obj) (u v : Value) : ((w.alloc o).alloc (.cells #[u, v] 26)).drew.cell? ⟨w.heap.size + 1, 0, none⟩ = some u :=
  cell_of_row ((w.alloc o).alloc (.cells #[u, v] 26)) _ 0 _ _ _ (heap_alloc2_new w o _)
theorem two_cell1 (w : World) (o : Obj) (u v : Value) : ((w.alloc o).alloc (.cells #[u, v] 26)).drew.cell? ⟨w.heap.size + 1, 1, none⟩ = some v :=
  cell_of_row ((w.alloc o).alloc (.cells #[u, v] 26)) _ 1 _ _ _ (heap_alloc2_new w o _)
theorem first_nil_at (w : World) (o : Obj) (T : Nat) (x : Value) :
    Calls Tryz.prog 87 #[.slice (some ⟨w.heap.size + 1, 0, none⟩) 2 2] ((w.alloc o).alloc (.cells #[.nilIface, .iface T x] 26)).drew fun e w' => e = .returned (.iface T x) ∧ w' = ((w.alloc o).alloc (.cells #[.nilIface, .iface T x] 26)).drew :=
  first_two _ T x .nilIface _ (two_cell0 _ _ _ _) (two_cell1 _ _ _ _) (Or.inl rfl)
theorem first_err_at (w : World) (o : Obj) (T T' : Nat) (x x' : Value) :
    Calls Tryz.prog 87 #[.slice (some ⟨w.heap.size + 1, 0, none⟩) 2 2] ((w.alloc o).alloc (.cells #[.iface T' x', .iface T x] 26)).drew fun e w' => e = .returned (.iface T' x') ∧ w' = ((w.alloc o).alloc (.cells #[.iface T' x', .iface T x] 26)).drew :=
  first_two _ T x (.iface T' x') _ (two_cell0 _ _ _ _) (two_cell1 _ _ _ _) (Or.inr ⟨_, _, rfl⟩)
theorem grown_set (w : World) (g i : Nat) (v : Value) : w.grownBy (w.setCell ⟨g, i, none⟩ v) (some g) :=
  ⟨rfl, rfl, rfl, by simp [World.setCell], fun k _ hne => Below.heap_setCell w ⟨g, i, none⟩ v k (fun e => hne (by rw [e]))⟩
theorem grown_alloc {w w' : World} {r : Option Nat} (h : w.grownBy w' r) (o : Obj) : w.grownBy (w'.alloc o) r :=
  ⟨h.os, h.tape, h.output, Nat.le_trans h.size (by simp), fun k hk hne => (Below.heap_alloc w' o k (by have := h.size; omega)).trans (h.block k hk hne)⟩
theorem grown_drew {w w' : World} {r : Option Nat} (h : w.grownBy w' r) : w.grownBy w'.drew r := ⟨h.os, h.tape, h.output, h.size, h.block⟩
theorem size_set (w : World) (p : Addr) (v : Value) : (w.setCell p v).heap.size = w.heap.size := by simp [World.setCell]
theorem wbad_nil {g base n c : Nat} {A : Option Addr} {E : Option Nat} {w : World} {s : ByteArray} {o2 : Obj} (hw : Whole w g 68 #[.slice A n c, .nilIface]) (hE : ErrW w .nilIface E) (_hb : base ≤ g) :
    WBad g base n A c (.iface 60 (.pointer (some ⟨w.heap.size, 0, none⟩))) E w (((w.setCell ⟨g, 1, none⟩ (.iface 60 (.pointer (some ⟨w.heap.size, 0, none⟩)))).alloc (.cells #[.int .i64 3, .int .i64 (n : Nat), .string s] 63)).alloc o2).drew := by
  refine ⟨(((hw.put 1 _).alloc _).alloc _).drewN 1, ?_, grown_drew (grown_alloc (grown_alloc (grown_set _ _ _ _) _) _)⟩
  cases E with
  | none =>
    have h1 := Whole.new (w.setCell ⟨g, 1, none⟩ (.iface 60 (.pointer (some ⟨w.heap.size, 0, none⟩)))) 63 #[.int .i64 3, .int .i64 (n : Nat), .string s]
    rw [size_set] at h1
    exact ⟨w.heap.size, s, rfl, (h1.alloc o2).drewN 1⟩
  | some q => obtain ⟨b, s', h, _⟩ := hE; cases h
theorem wbad_err {g base n c T : Nat} {x : Value} {A : Option Addr} {E : Option Nat} {w : World} {o1 o2 : Obj} (hw : Whole w g 68 #[.slice A n c, .iface T x]) (hE : ErrW w (.iface T x) E) (_hb : base ≤ g) :
    WBad g base n A c (.iface T x) E w (((w.setCell ⟨g, 1, none⟩ (.iface T x)).alloc o1).alloc o2).drew := by
  refine ⟨(((hw.put 1 _).alloc _).alloc _).drewN 1, ?_, grown_drew (grown_alloc (grown_alloc (grown_set _ _ _ _) _) _)⟩
  cases E with
  | none => exact absurd hE (by intro h; cases h)
  | some q =>
    obtain ⟨b, s', h, hb⟩ := hE
    exact ⟨b, s', h, (((hb.other (p := ⟨g, 1, none⟩) (whole_ne hb hw (by decide)) _).alloc o1).alloc o2).drewN 1⟩
set_option maxRecDepth 100000 in
set_option maxHeartbeats 4000000 in
theorem wnum_bad_nn (g base : Nat) (n : Int) (l : List UInt8) (E : Option Nat) (w : World) (A : Option Addr) (c : Nat) (hbg : base ≤ g) (hw : Whole w g 68 #[.slice A l.length c, .nilIface]) (hown : w.ownsRow base 5 1 (.slice A l.length c) l.length (Lib.byteCells l)) (hE : ErrW w .nilIface E) (t1 : decide (n < 0) = true) (hl : l.length ≤ 1000000) :
    Calls Tryz.prog 59 #[.pointer (some ⟨g, 0, none⟩), .int .i64 n] w fun e w' => e = .returned (.tuple #[]) ∧ WriterAt w' g base (l ++ be 4 0) (orE E l.length) ∧ Below base w w' := by
  have hgl := hw.lt
  have a0 := hw.cell 0; have a1 := hw.free 0; have a2 := hw.cell 1; have a3 := hw.free 1
  simp at a0 a2
  have HW := Lib.hid hw; have HO := Lib.hid hown; have HE := Lib.hid hE
  clear hw hown hE
  go_enter Tryz.func59, Tryz.ntmps59
  go_upto_region 2 with fail
  go_cut [] (fun wx => ∃ v', WBad g base l.length A c v' E w wx)
  case first =>
    go_region_with (first
      | (go_at_call 27
         refine (new_any _ _ _ _).mono ?_
         rintro e' w3 ⟨rfl, hw3⟩
         subst hw3)
      | (go_at_call 87
         refine (first_nil_at _ _ _ _).mono ?_
         rintro e' w4 ⟨rfl, rfl⟩))
    all_goals
      go_wp2
      go_meet
      exact ⟨_, by exact wbad_nil HW.out HE.out hbg⟩
  case rest =>
    obtain ⟨v', hwb, hE', hgr⟩ := hcut
    have hoc : wc.ownsRow base 5 1 (.slice A l.length c) l.length (Lib.byteCells l) := HO.out.kept hgr (Or.inr (own_ne HO.out HW.out (by decide)))
    have hbc : Below base w wc := (Below.refl _ _).grown hgr (by omega) (fun k hk => by injection hk with hk; omega)
    have P1 := Lib.hid (put4 base l.length 0 0 rfl _ _ wc hoc (by omega) (by have := hbc.size; omega) (by omega))
    have a0 := hwb.cell 0; have a1 := hwb.free 0
    simp at a0
    have HWC := Lib.hid hwb; have HOC := Lib.hid hoc; have HEC := Lib.hid hE'; have HBC := Lib.hid hbc
    have hszc := hbc.size
    clear hwb hoc hE' hbc hgr
    go_wp2_with fail
    refine P1.out.mono ?_; rintro e w2 ⟨v2, rfl, hown2, hgrow2⟩
    obtain ⟨A2, c2, rfl⟩ := own_form hown2
    have hw2 := hgrow2.whole HWC.out HOC.out (by decide)
    have b0 := hw2.cell 0; have b1 := hw2.free 0
    simp at b0
    have HW2 := Lib.hid hw2; have HO2 := Lib.hid hown2; have HG2 := Lib.hid hgrow2
    clear hw2 hown2 hgrow2
    go_wp2_with fail
    go_end0
    have e1 : (l ++ be 4 0).length = l.length + 4 := by simp [be_len]
    refine ⟨rfl, ⟨hbg, A2, c2, v', ?_, ?_, ?_⟩, ?_⟩
    · rw [e1]; exact HW2.out.put 0 _
    · rw [e1, byteCells_app]; exact own_put HO2.out (own_ne HO2.out HW2.out (by decide)) _
    · exact HEC.out.keep fun b cs hb => (HG2.out.whole hb HOC.out (by decide)).other (p := ⟨g, 0, none⟩) (whole_ne hb HWC.out (by decide)) _
    · exact (HG2.out.below HOC.out HBC.out (Nat.le_refl _) (by omega)).setCell hbg _
set_option maxHeartbeats 4000000 in
theorem wnum_bad_nb (g base : Nat) (n : Int) (l : List UInt8) (E : Option Nat) (w : World) (A : Option Addr) (c : Nat) (hbg : base ≤ g) (hw : Whole w g 68 #[.slice A l.length c, .nilIface]) (hown : w.ownsRow base 5 1 (.slice A l.length c) l.length (Lib.byteCells l)) (hE : ErrW w .nilIface E) (t1 : decide (n < 0) = false) (t2 : decide (4294967295 < n) = true) (hl : l.length ≤ 1000000) :
    Calls Tryz.prog 59 #[.pointer (some ⟨g, 0, none⟩), .int .i64 n] w fun e w' => e = .returned (.tuple #[]) ∧ WriterAt w' g base (l ++ be 4 0) (orE E l.length) ∧ Below base w w' := by
  have hgl := hw.lt
  have a0 := hw.cell 0; have a1 := hw.free 0; have a2 := hw.cell 1; have a3 := hw.free 1
  simp at a0 a2
  have HW := Lib.hid hw; have HO := Lib.hid hown; have HE := Lib.hid hE
  clear hw hown hE
  go_enter Tryz.func59, Tryz.ntmps59
  go_upto_region 2 with fail
  go_cut [] (fun wx => ∃ v', WBad g base l.length A c v' E w wx)
  case first =>
    go_region_with (first
      | (go_at_call 27
         refine (new_any _ _ _ _).mono ?_
         rintro e' w3 ⟨rfl, hw3⟩
         subst hw3)
      | (go_at_call 87
         refine (first_nil_at _ _ _ _).mono ?_
         rintro e' w4 ⟨rfl, rfl⟩))
    all_goals
      go_wp2
      go_meet
      exact ⟨_, by exact wbad_nil HW.out HE.out hbg⟩
  case rest =>
    obtain ⟨v', hwb, hE', hgr⟩ := hcut
    have hoc : wc.ownsRow base 5 1 (.slice A l.length c) l.length (Lib.byteCells l) := HO.out.kept hgr (Or.inr (own_ne HO.out HW.out (by decide)))
    have hbc : Below base w wc := (Below.refl _ _).grown hgr (by omega) (fun k hk => by injection hk with hk; omega)
    have P1 := Lib.hid (put4 base l.length 0 0 rfl _ _ wc hoc (by omega) (by have := hbc.size; omega) (by omega))
    have a0 := hwb.cell 0; have a1 := hwb.free 0
    simp at a0
    have HWC := Lib.hid hwb; have HOC := Lib.hid hoc; have HEC := Lib.hid hE'; have HBC := Lib.hid hbc
    have hszc := hbc.size
    clear hwb hoc hE' hbc hgr
    go_wp2_with fail
    refine P1.out.mono ?_; rintro e w2 ⟨v2, rfl, hown2, hgrow2⟩
    obtain ⟨A2, c2, rfl⟩ := own_form hown2
    have hw2 := hgrow2.whole HWC.out HOC.out (by decide)
    have b0 := hw2.cell 0; have b1 := hw2.free 0
    simp at b0
    have HW2 := Lib.hid hw2; have HO2 := Lib.hid hown2; have HG2 := Lib.hid hgrow2
    clear hw2 hown2 hgrow2
    go_wp2_with fail
    go_end0
    have e1 : (l ++ be 4 0).length = l.length + 4 := by simp [be_len]
    refine ⟨rfl, ⟨hbg, A2, c2, v', ?_, ?_, ?_⟩, ?_⟩
    · rw [e1]; exact HW2.out.put 0 _
    · rw [e1, byteCells_app]; exact own_put HO2.out (own_ne HO2.out HW2.out (by decide)) _
    · exact HEC.out.keep fun b cs hb => (HG2.out.whole hb HOC.out (by decide)).other (p := ⟨g, 0, none⟩) (whole_ne hb HWC.out (by decide)) _
    · exact (HG2.out.below HOC.out HBC.out (Nat.le_refl _) (by omega)).setCell hbg _
set_option maxHeartbeats 4000000 in
theorem wnum_bad_en (g base : Nat) (n : Int) (l : List UInt8) (E : Option Nat) (w : World) (A : Option Addr) (c : Nat) (T : Nat) (x : Value) (hbg : base ≤ g) (hw : Whole w g 68 #[.slice A l.length c, (.iface T x)]) (hown : w.ownsRow base 5 1 (.slice A l.length c) l.length (Lib.byteCells l)) (hE : ErrW w (.iface T x) E) (t1 : decide (n < 0) = true) (hl : l.length ≤ 1000000) :
    Calls Tryz.prog 59 #[.pointer (some ⟨g, 0, none⟩), .int .i64 n] w fun e w' => e = .returned (.tuple #[]) ∧ WriterAt w' g base (l ++ be 4 0) (orE E l.length) ∧ Below base w w' := by
  have hgl := hw.lt
  have a0 := hw.cell 0; have a1 := hw.free 0; have a2 := hw.cell 1; have a3 := hw.free 1
  simp at a0 a2
  have HW := Lib.hid hw; have HO := Lib.hid hown; have HE := Lib.hid hE
  clear hw hown hE
  go_enter Tryz.func59, Tryz.ntmps59
  go_upto_region 2 with fail
  go_cut [] (fun wx => ∃ v', WBad g base l.length A c v' E w wx)
  case first =>
    go_region_with (first
      | (go_at_call 27
         refine (new_any _ _ _ _).mono ?_
         rintro e' w3 ⟨rfl, hw3⟩
         subst hw3)
      | (go_at_call 87
         refine (first_err_at _ _ _ _ _ _).mono ?_
         rintro e' w4 ⟨rfl, rfl⟩))
    all_goals
      go_wp2
      go_meet
      exact ⟨_, by exact wbad_err HW.out HE.out hbg⟩
  case rest =>
    obtain ⟨v', hwb, hE', hgr⟩ := hcut
    have hoc : wc.ownsRow base 5 1 (.slice A l.length c) l.length (Lib.byteCells l) := HO.out.kept hgr (Or.inr (own_ne HO.out HW.out (by decide)))
    have hbc : Below base w wc := (Below.refl _ _).grown hgr (by omega) (fun k hk => by injection hk with hk; omega)
    have P1 := Lib.hid (put4 base l.length 0 0 rfl _ _ wc hoc (by omega) (by have := hbc.size; omega) (by omega))
    have a0 := hwb.cell 0; have a1 := hwb.free 0
    simp at a0
    have HWC := Lib.hid hwb; have HOC := Lib.hid hoc; have HEC := Lib.hid hE'; have HBC := Lib.hid hbc
    have hszc := hbc.size
    clear hwb hoc hE' hbc hgr
    go_wp2_with fail
    refine P1.out.mono ?_; rintro e w2 ⟨v2, rfl, hown2, hgrow2⟩
    obtain ⟨A2, c2, rfl⟩ := own_form hown2
    have hw2 := hgrow2.whole HWC.out HOC.out (by decide)
    have b0 := hw2.cell 0; have b1 := hw2.free 0
    simp at b0
    have HW2 := Lib.hid hw2; have HO2 := Lib.hid hown2; have HG2 := Lib.hid hgrow2
    clear hw2 hown2 hgrow2
    go_wp2_with fail
    go_end0
    have e1 : (l ++ be 4 0).length = l.length + 4 := by simp [be_len]
    refine ⟨rfl, ⟨hbg, A2, c2, v', ?_, ?_, ?_⟩, ?_⟩
    · rw [e1]; exact HW2.out.put 0 _
    · rw [e1, byteCells_app]; exact own_put HO2.out (own_ne HO2.out HW2.out (by decide)) _
    · exact HEC.out.keep fun b cs hb => (HG2.out.whole hb HOC.out (by decide)).other (p := ⟨g, 0, none⟩) (whole_ne hb HWC.out (by decide)) _
    · exact (HG2.out.below HOC.out HBC.out (Nat.le_refl _) (by omega)).setCell hbg _
set_option maxHeartbeats 4000000 in
theorem wnum_bad_eb (g base : Nat) (n : Int) (l : List UInt8) (E : Option Nat) (w : World) (A : Option Addr) (c : Nat) (T : Nat) (x : Value) (hbg : base ≤ g) (hw : Whole w g 68 #[.slice A l.length c, (.iface T x)]) (hown : w.ownsRow base 5 1 (.slice A l.length c) l.length (Lib.byteCells l)) (hE : ErrW w (.iface T x) E) (t1 : decide (n < 0) = false) (t2 : decide (4294967295 < n) = true) (hl : l.length ≤ 1000000) :
    Calls Tryz.prog 59 #[.pointer (some ⟨g, 0, none⟩), .int .i64 n] w fun e w' => e = .returned (.tuple #[]) ∧ WriterAt w' g base (l ++ be 4 0) (orE E l.length) ∧ Below base w w' := by
  have hgl := hw.lt
  have a0 := hw.cell 0; have a1 := hw.free 0; have a2 := hw.cell 1; have a3 := hw.free 1
  simp at a0 a2
  have HW := Lib.hid hw; have HO := Lib.hid hown; have HE := Lib.hid hE
  clear hw hown hE
  go_enter Tryz.func59, Tryz.ntmps59
  go_upto_region 2 with fail
  go_cut [] (fun wx => ∃ v', WBad g base l.length A c v' E w wx)
  case first =>
    go_region_with (first
      | (go_at_call 27
         refine (new_any _ _ _ _).mono ?_
         rintro e' w3 ⟨rfl, hw3⟩
         subst hw3)
      | (go_at_call 87
         refine (first_err_at _ _ _ _ _ _).mono ?_
         rintro e' w4 ⟨rfl, rfl⟩))
    all_goals
      go_wp2
      go_meet
      exact ⟨_, by exact wbad_err HW.out HE.out hbg⟩
  case rest =>
    obtain ⟨v', hwb, hE', hgr⟩ := hcut
    have hoc : wc.ownsRow base 5 1 (.slice A l.length c) l.length (Lib.byteCells l) := HO.out.kept hgr (Or.inr (own_ne HO.out HW.out (by decide)))
    have hbc : Below base w wc := (Below.refl _ _).grown hgr (by omega) (fun k hk => by injection hk with hk; omega)
    have P1 := Lib.hid (put4 base l.length 0 0 rfl _ _ wc hoc (by omega) (by have := hbc.size; omega) (by omega))
    have a0 := hwb.cell 0; have a1 := hwb.free 0
    simp at a0
    have HWC := Lib.hid hwb; have HOC := Lib.hid hoc; have HEC := Lib.hid hE'; have HBC := Lib.hid hbc
    have hszc := hbc.size
    clear hwb hoc hE' hbc hgr
    go_wp2_with fail
    refine P1.out.mono ?_; rintro e w2 ⟨v2, rfl, hown2, hgrow2⟩
    obtain ⟨A2, c2, rfl⟩ := own_form hown2
    have hw2 := hgrow2.whole HWC.out HOC.out (by decide)
    have b0 := hw2.cell 0; have b1 := hw2.free 0
    simp at b0
    have HW2 := Lib.hid hw2; have HO2 := Lib.hid hown2; have HG2 := Lib.hid hgrow2
    clear hw2 hown2 hgrow2
    go_wp2_with fail
    go_end0
    have e1 : (l ++ be 4 0).length = l.length + 4 := by simp [be_len]
    refine ⟨rfl, ⟨hbg, A2, c2, v', ?_, ?_, ?_⟩, ?_⟩
    · rw [e1]; exact HW2.out.put 0 _
    · rw [e1, byteCells_app]; exact own_put HO2.out (own_ne HO2.out HW2.out (by decide)) _
    · exact HEC.out.keep fun b cs hb => (HG2.out.whole hb HOC.out (by decide)).other (p := ⟨g, 0, none⟩) (whole_ne hb HWC.out (by decide)) _
    · exact (HG2.out.below HOC.out HBC.out (Nat.le_refl _) (by omega)).setCell hbg _
theorem wnum_bad (g base : Nat) (n : Int) (l : List UInt8) (E : Option Nat) (w : World) (h : WriterAt w g base l E) (hn : n < 0 ∨ 4294967295 < n) (hl : l.length ≤ 1000000) :
    Calls Tryz.prog 59 #[.pointer (some ⟨g, 0, none⟩), .int .i64 n] w fun e w' => e = .returned (.tuple #[]) ∧ WriterAt w' g base (l ++ be 4 0) (orE E l.length) ∧ Below base w w' := by
  obtain ⟨hbg, A, c, v, hw, hown, hE⟩ := h
  have hf := hE.form
  have htest : (decide (n < 0) = true) ∨ (decide (n < 0) = false ∧ decide (4294967295 < n) = true) := by
    simp only [decide_eq_true_eq, decide_eq_false_iff_not]; omega
  rcases hf with rfl | ⟨T, x, rfl⟩ <;> rcases htest with t1 | ⟨t1, t2⟩
  · exact wnum_bad_nn g base n l E w A c hbg hw hown hE t1 hl
  · exact wnum_bad_nb g base n l E w A c hbg hw hown hE t1 t2 hl
  · exact wnum_bad_en g base n l E w A c T x hbg hw hown hE t1 hl
  · exact wnum_bad_eb g base n l E w A c T x hbg hw hown hE t1 t2 hl
end

section
open Go.RowKit

theorem wnum_any (g base : Nat) (n : Int) (l : List UInt8) (E : Option Nat) (w : World) (h : WriterAt w g base l E) (hl : l.length ≤ 1000000) :
    Calls Tryz.prog 59 #[.pointer (some ⟨g, 0, none⟩), .int .i64 n] w fun e w' => e = .returned (.tuple #[]) ∧ WriterAt w' g base (l ++ numB n) (numE E n l.length) ∧ Below base w w' := by
  by_cases hf : 0 ≤ n ∧ n ≤ 4294967295
  · have hF : fitsN n = true := decide_eq_true hf
    obtain ⟨m, rfl⟩ : ∃ m : Nat, n = m := ⟨n.toNat, by omega⟩
    unfold numB numE
    rw [hF]
    simp only [if_true, Int.toNat_natCast]
    exact wnum_ok g base m l E w h (by omega) hl
  · have hF : fitsN n = false := decide_eq_false hf
    unfold numB numE
    rw [hF]
    simp only [Bool.false_eq_true, if_false]
    exact wnum_bad g base n l E w h (by omega) hl

theorem strCells_eq (s : ByteArray) : Lib.strCells s = Lib.byteCells s.data.toList := rfl
/-- The bytes of numbers, and the error behind them. -/
def numsB (Z : Nat → Int) : Nat → List UInt8
  | 0 => []
  | k + 1 => numsB Z k ++ numB (Z k)
def numsE (Z : Nat → Int) (E : Option Nat) (at_ : Nat) : Nat → Option Nat
  | 0 => E
  | k + 1 => numE (numsE Z E at_ k) (Z k) (at_ + 4 * k)
theorem numsB_len (Z : Nat → Int) : ∀ k, (numsB Z k).length = 4 * k
  | 0 => rfl
  | k + 1 => by simp [numsB, numsB_len Z k, numB_len]; omega

set_option maxRecDepth 100000 in
set_option maxHeartbeats 4000000 in
theorem wlist_any (g base n : Nat) (Z : Nat → Int) (u : Value) (l : List UInt8) (E : Option Nat) (w : World) (h : WriterAt w g base l E) (hu : IntsV w u n Z) (hbase : w.heap.size ≤ base ∨ ∀ w', Below base w w' → IntsV w' u n Z) (hl : l.length ≤ 900000) (hn : n ≤ 1000) :
    Calls Tryz.prog 33 #[.pointer (some ⟨g, 0, none⟩), u] w fun e w' => e = .returned (.tuple #[]) ∧ WriterAt w' g base (l ++ be 4 n ++ numsB Z n) (numsE Z E (l.length + 4) n) ∧ Below base w w' := by
  have hkeep : ∀ w', Below base w w' → IntsV w' u n Z := by
    intro w' hb
    rcases hbase with h1 | h1
    · exact hu.below hb h1
    · exact h1 w' hb
  clear hbase
  obtain ⟨A, c, rfl⟩ := hu.form
  have N1 := Lib.hid (wnum_ok g base n l E w h (by omega) (by omega))
  have HK := Lib.hid hkeep
  clear h hu hkeep
  go_enter Tryz.func33, Tryz.ntmps33
  go_wp2_with fail
  refine N1.out.mono ?_; rintro e w2 ⟨rfl, hwr, hb2⟩
  have HWR := Lib.hid hwr; have HB2 := Lib.hid hb2
  clear hwr hb2
  go_wp2_with fail
  go_loopg [12] n (fun t y wr => ∃ k, k ≤ n ∧ t = n - k ∧ y = .int .i64 (k : Nat) ∧ WriterAt wr g base (l ++ be 4 n ++ numsB Z k) (numsE Z E (l.length + 4) k) ∧ Below base w wr)
  case atStart => exact ⟨0, by omega, rfl, rfl, by simpa [numsB, numsE] using HWR.out, HB2.out⟩
  case round =>
    obtain ⟨k, hk, rfl, rfl, hwr, hb⟩ := hrel
    by_cases hlt : k < n
    · obtain ⟨b, off, rfl, hcell⟩ := (HK.out wr hb).pos hlt
      have hc := hcell k hlt
      obtain ⟨z, hz⟩ : ∃ z, Z k = z := ⟨_, rfl⟩
      rw [hz] at hc
      have N2 := Lib.hid (wnum_any g base z _ _ wr hwr (by simp [be_len, numsB_len]; omega))
      have HB := Lib.hid hb; have HZ := Lib.hid hz; have HLT := Lib.hid hlt
      have t1 : decide (k < n) = true := decide_eq_true hlt
      have i0' : (0 : Int) ≤ k := by omega
      have i1' : (k : Int) < n := by omega
      clear hwr hb hz hcell
      go_wp2_with fail
      refine N2.out.mono ?_; rintro e w3 ⟨rfl, hwr3, hb3⟩
      have HW3 := Lib.hid hwr3; have HB3 := Lib.hid (HB.out.trans hb3)
      clear hwr3 hb3
      go_wp2_with fail
      go_roundg (n - (k + 1))
      case rel =>
        refine ⟨k + 1, by omega, rfl, by go_num, ?_, HB3.out⟩
        have h1 := HW3.out
        rw [← HZ.out, List.append_assoc] at h1
        have e1 : (l ++ be 4 n ++ numsB Z k).length = l.length + 4 + 4 * k := by simp [be_len, numsB_len]; omega
        rw [e1] at h1
        exact h1
      case measure => omega
    · obtain rfl : k = n := by omega
      have t1 : decide (k < k) = false := by simp
      have HWR' := Lib.hid hwr; have HB := Lib.hid hb
      clear hwr hb
      go_wp2
      go_end0
      exact ⟨rfl, HWR'.out, HB.out⟩

set_option maxRecDepth 100000 in
theorem wbytes_any (g base : Nat) (l : List UInt8) (E : Option Nat) (w : World) (h : WriterAt w g base l E) (hl : l.length ≤ 1000000) :
    Calls Tryz.prog 35 #[.pointer (some ⟨g, 0, none⟩)] w fun e w' => ∃ v', e = .returned v' ∧ w'.ownsRow w.heap.size 5 1 v' l.length (Lib.byteCells l) ∧ Below w.heap.size w w' := by
  obtain ⟨hbg, A, c, v, hw, hown, hE⟩ := h
  have C1 := Lib.hid (clone_any l _ w (own_bytesV hown) (by omega))
  have a0 := hw.cell 0
  simp at a0
  clear hw hown hE
  go_enter Tryz.func35, Tryz.ntmps35
  go_wp2_with fail
  refine C1.out.mono ?_; rintro e w2 ⟨v2, rfl, hown2, hb2⟩
  have HO2 := Lib.hid hown2; have HB2 := Lib.hid hb2
  clear hown2 hb2
  go_wp2_with fail
  go_ret
  exact ⟨_, rfl, HO2.out, HB2.out⟩
theorem WriterAt.below {w w' : World} {g base : Nat} {l : List UInt8} {E : Option Nat} (h : WriterAt w g base l E) (hb : Below w.heap.size w w') : WriterAt w' g base l E := by
  obtain ⟨hbg, A, c, v, hw, hown, hE⟩ := h
  exact ⟨hbg, A, c, v, hw.below hb hw.lt, own_below hown hb (Nat.le_refl _), hE.keep fun b cs hbb => hbb.below hb hbb.lt⟩
theorem writer_new (w : World) (base : Nat) (hb : base ≤ w.heap.size) : WriterAt (w.alloc (.cells #[.slice none 0 0, .nilIface] 68)) w.heap.size base [] none :=
  ⟨hb, none, 0, .nilIface, Whole.new _ _ _, World.ownsRow_nil _ _ _ _, rfl⟩
end

section
open Go.RowKit

set_option maxRecDepth 100000 in
theorem at_hit (b : Nat) (c : Int) (w : World) (hg : ErrT w) (hc : w.cell? ⟨b, 1, none⟩ = some (.int .i64 c)) :
    Calls Tryz.prog 11 #[.iface 60 (.pointer (some ⟨b, 0, none⟩))] w fun e w' => e = .returned (.int .i64 c) ∧ Below w.heap.size w w' := by
  have hb : b < w.heap.size := by
    rcases Nat.lt_or_ge b w.heap.size with h | h
    · exact h
    · simp [World.cell?, Array.getElem?_eq_none h] at hc
  go_enter Tryz.func11, Tryz.ntmps11
  go_wp2_with (go_at_call 30; refine (find_hit _ _ hg).mono ?_; rintro ev w' ⟨rfl, hw⟩; have hc' := (hw.cell (p := ⟨b, 1, none⟩) hb).trans hc; clear hc)
  go_ret
  exact ⟨rfl, by assumption⟩
end
end Go.Proofs.YtnjkjgmnnmgngaaGreatDoor
