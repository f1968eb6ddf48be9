/- Layer 3: the law's take and same. -/
import Derived.Test.YtkpoeahnlldpgaaDoorTake3
namespace Go.Proofs.YtkpoeahnlldpgaaDoor
open Go.RowKit

/-- take's three blocks: what came in, what it tells, what it fills. -/
def takeW (w : World) (x : Array Value) (K : Int) : World := ((w.alloc (.cells x 40)).alloc (.cells #[.int .i64 0, .int .i64 0, .string ⟨#[]⟩, .slice none 0 0] 40)).alloc (.cells #[.int .i64 K, .int .i64 0, .string ⟨#[]⟩, .slice none 0 0] 40)
theorem takeW_below (w : World) (x : Array Value) (K : Int) : Below w.heap.size w (takeW w x K) := (((Below.refl _ _).alloc (Nat.le_refl _) _).alloc (by simp) _).alloc (by simp; omega) _
theorem takeW_out (w : World) (x : Array Value) (K : Int) : Whole (takeW w x K) (w.heap.size + 1 + 1) 40 #[.int .i64 K, .int .i64 0, .string ⟨#[]⟩, .slice none 0 0] := by
  have := Whole.new ((w.alloc (.cells x 40)).alloc (.cells #[.int .i64 0, .int .i64 0, .string ⟨#[]⟩, .slice none 0 0] 40)) 40 #[.int .i64 K, .int .i64 0, .string ⟨#[]⟩, .slice none 0 0]
  simpa [takeW] using this
theorem takeW_res (w : World) (x : Array Value) (K : Int) : Whole (takeW w x K) (w.heap.size + 1) 40 #[.int .i64 0, .int .i64 0, .string ⟨#[]⟩, .slice none 0 0] := by
  have := (Whole.new (w.alloc (.cells x 40)) 40 #[.int .i64 0, .int .i64 0, .string ⟨#[]⟩, .slice none 0 0]).alloc (.cells #[.int .i64 K, .int .i64 0, .string ⟨#[]⟩, .slice none 0 0] 40)
  simpa [takeW] using this
theorem grown_sets {w w' : World} {g : Nat} (h : w.grownBy w' (some g)) (B : Nat) (hB : w.heap.size ≤ B) (i : Nat) (v : Value) : w.grownBy (w'.setCell ⟨B, i, none⟩ v) (some g) :=
  ⟨h.os, h.tape, h.output, by simpa [World.setCell] using h.size, fun k hk hne => (Below.heap_setCell w' ⟨B, i, none⟩ v k (by simp; omega)).trans (h.block k hk hne)⟩

theorem res_set {w : World} {B : Nat} {T : TypeId} {c0 c1 c2 c3 : Value} (h : Whole w B T #[c0, c1, c2, c3]) (v0 v1 v2 v3 : Value) :
    ((((w.setCell ⟨B, 0, none⟩ v0).setCell ⟨B, 1, none⟩ v1).setCell ⟨B, 2, none⟩ v2).setCell ⟨B, 3, none⟩ v3).cell? ⟨B, 0, none⟩ = some v0 ∧ ((((w.setCell ⟨B, 0, none⟩ v0).setCell ⟨B, 1, none⟩ v1).setCell ⟨B, 2, none⟩ v2).setCell ⟨B, 3, none⟩ v3).cell? ⟨B, 1, none⟩ = some v1 ∧
    ((((w.setCell ⟨B, 0, none⟩ v0).setCell ⟨B, 1, none⟩ v1).setCell ⟨B, 2, none⟩ v2).setCell ⟨B, 3, none⟩ v3).cell? ⟨B, 2, none⟩ = some v2 ∧ ((((w.setCell ⟨B, 0, none⟩ v0).setCell ⟨B, 1, none⟩ v1).setCell ⟨B, 2, none⟩ v2).setCell ⟨B, 3, none⟩ v3).cell? ⟨B, 3, none⟩ = some v3 := by
  have H := (((h.put 0 v0).put 1 v1).put 2 v2).put 3 v3
  exact ⟨by rw [H.cell]; simp, by rw [H.cell]; simp, by rw [H.cell]; simp, by rw [H.cell]; simp⟩
theorem take_grown {w w4 : World} {g B i : Nat} {u v0 v1 v2 v3 : Value} (hB : w.heap.size ≤ B) (h : w.grownBy w4 (some g)) :
    w.grownBy (((((w4.setCell ⟨B + 1 + 1, i, none⟩ u).setCell ⟨B + 1, 0, none⟩ v0).setCell ⟨B + 1, 1, none⟩ v1).setCell ⟨B + 1, 2, none⟩ v2).setCell ⟨B + 1, 3, none⟩ v3) (some g) :=
  grown_sets (grown_sets (grown_sets (grown_sets (grown_sets h _ (by omega) _ _) _ (by omega) _ _) _ (by omega) _ _) _ (by omega) _ _) _ (by omega) _ _
theorem take_below {w4 : World} {B i n : Nat} {u v0 v1 v2 v3 : Value} (hn : n ≤ B) :
    Below n w4 (((((w4.setCell ⟨B + 1 + 1, i, none⟩ u).setCell ⟨B + 1, 0, none⟩ v0).setCell ⟨B + 1, 1, none⟩ v1).setCell ⟨B + 1, 2, none⟩ v2).setCell ⟨B + 1, 3, none⟩ v3) :=
  (((((Below.refl _ _).setCell (by simp; omega) _).setCell (by simp; omega) _).setCell (by simp; omega) _).setCell (by simp; omega) _).setCell (by simp; omega) _
def NoByte (v : Value) : Prop := ∀ x : Int, v ≠ .int .u8 x
theorem noByte_int (x : Int) : NoByte (.int .i64 x) := fun y h => by cases h
theorem noByte_str (s : ByteArray) : NoByte (.string s) := fun y h => by cases h
theorem noByte_slice (a : Option Addr) (n c : Nat) : NoByte (.slice a n c) := fun y h => by cases h
theorem rdSet {w : World} {g p B : Nat} {l : List UInt8} {E : Option (Int × Nat)} {c0 c1 c2 c3 : Value} (h : RdAt w g l p E) (hB : Whole w B 40 #[c0, c1, c2, c3]) (n0 : NoByte c0) (n1 : NoByte c1) (n2 : NoByte c2) (n3 : NoByte c3) (i : Nat) (v : Value) : RdAt (w.setCell ⟨B, i, none⟩ v) g l p E := by
  obtain ⟨v0, ⟨hp, A, c, hw, hv⟩, hE⟩ := h
  refine ⟨v0, ⟨hp, A, c, hw.other (p := ⟨B, i, none⟩) (whole_ne hw hB (by decide)) _, ?_⟩, hE.keep fun b cs hb => hb.other (p := ⟨B, i, none⟩) (whole_ne hb hB (by decide)) _⟩
  obtain ⟨A', c', e, hc, hr⟩ := hv
  refine ⟨A', c', e, hc, fun h0 => ?_⟩
  obtain ⟨b, off, rfl, hcell⟩ := hr h0
  have hne : b ≠ B := by
    rintro rfl
    have h1 := hcell 0 h0
    rw [hB.cell] at h1
    match off, h1 with
    | 0, h1 => exact n0 _ (by simpa using h1)
    | 1, h1 => exact n1 _ (by simpa using h1)
    | 2, h1 => exact n2 _ (by simpa using h1)
    | 3, h1 => exact n3 _ (by simpa using h1)
    | n + 4, h1 => simp at h1
  refine ⟨b, off, rfl, fun i' hi' => ?_⟩
  rw [World.cell?_of_block (w := w) (w' := w.setCell ⟨B, i, none⟩ v) (a := ⟨b, off + i', none⟩) (Below.heap_setCell w ⟨B, i, none⟩ v b hne)]
  exact hcell i' hi'
theorem take_reader {w4 : World} {g p B i : Nat} {l : List UInt8} {E : Option (Int × Nat)} {a0 a1 a2 a3 b0 b1 b2 b3 u v0 v1 v2 v3 : Value} (h : RdAt w4 g l p E)
    (hO : Whole w4 (B + 1 + 1) 40 #[a0, a1, a2, a3]) (hR : Whole w4 (B + 1) 40 #[b0, b1, b2, b3])
    (na : NoByte a0 ∧ NoByte a1 ∧ NoByte a2 ∧ NoByte a3) (nb : NoByte b0 ∧ NoByte b1 ∧ NoByte b2 ∧ NoByte b3) (nv : NoByte v0 ∧ NoByte v1 ∧ NoByte v2) :
    RdAt (((((w4.setCell ⟨B + 1 + 1, i, none⟩ u).setCell ⟨B + 1, 0, none⟩ v0).setCell ⟨B + 1, 1, none⟩ v1).setCell ⟨B + 1, 2, none⟩ v2).setCell ⟨B + 1, 3, none⟩ v3) g l p E := by
  have h1 := rdSet h hO na.1 na.2.1 na.2.2.1 na.2.2.2 i u
  have r1 : Whole (w4.setCell ⟨B + 1 + 1, i, none⟩ u) (B + 1) _ _ := hR.other (p := ⟨B + 1 + 1, i, none⟩) (by simp) u
  have h2 := rdSet h1 r1 nb.1 nb.2.1 nb.2.2.1 nb.2.2.2 0 v0
  have r2 : Whole ((w4.setCell ⟨B + 1 + 1, i, none⟩ u).setCell ⟨B + 1, 0, none⟩ v0) (B + 1) 40 #[v0, b1, b2, b3] := by simpa using r1.put 0 v0
  have h3 := rdSet h2 r2 nv.1 nb.2.1 nb.2.2.1 nb.2.2.2 1 v1
  have r3 : Whole (((w4.setCell ⟨B + 1 + 1, i, none⟩ u).setCell ⟨B + 1, 0, none⟩ v0).setCell ⟨B + 1, 1, none⟩ v1) (B + 1) 40 #[v0, v1, b2, b3] := by simpa using r2.put 1 v1
  have h4 := rdSet h3 r3 nv.1 nv.2.1 nb.2.2.1 nb.2.2.2 2 v2
  have r4 : Whole ((((w4.setCell ⟨B + 1 + 1, i, none⟩ u).setCell ⟨B + 1, 0, none⟩ v0).setCell ⟨B + 1, 1, none⟩ v1).setCell ⟨B + 1, 2, none⟩ v2) (B + 1) 40 #[v0, v1, v2, b3] := by simpa using r3.put 2 v2
  exact rdSet h4 r4 nv.1 nv.2.1 nv.2.2 nb.2.2.2 3 v3
theorem take_block {w4 : World} {B i b : Nat} {u v0 v1 v2 v3 : Value} (h1 : b ≠ B + 1) (h2 : b ≠ B + 1 + 1) :
    (((((w4.setCell ⟨B + 1 + 1, i, none⟩ u).setCell ⟨B + 1, 0, none⟩ v0).setCell ⟨B + 1, 1, none⟩ v1).setCell ⟨B + 1, 2, none⟩ v2).setCell ⟨B + 1, 3, none⟩ v3).heap[b]? = w4.heap[b]? := by
  rw [Below.heap_setCell _ ⟨B + 1, 3, none⟩ v3 b h1, Below.heap_setCell _ ⟨B + 1, 2, none⟩ v2 b h1, Below.heap_setCell _ ⟨B + 1, 1, none⟩ v1 b h1, Below.heap_setCell _ ⟨B + 1, 0, none⟩ v0 b h1, Below.heap_setCell _ ⟨B + 1 + 1, i, none⟩ u b h2]
theorem IntsV.at_block {w w' : World} {b off n c : Nat} {Z : Nat → Int} (h : IntsV w (.slice (some ⟨b, off, none⟩) n c) n Z) (hb : w'.heap[b]? = w.heap[b]?) : IntsV w' (.slice (some ⟨b, off, none⟩) n c) n Z := by
  rcases h with h | ⟨h0, b', off', c', e, hc⟩
  · exact Or.inl h
  · refine Or.inr ⟨h0, b', off', c', e, fun i hi => ?_⟩
    injection e with e1
    injection e1 with e1
    injection e1 with e1 _
    subst e1
    rw [World.cell?_of_block (w := w) (w' := w') (a := ⟨b, off' + i, none⟩) hb]
    exact hc i hi
theorem rdAt_of {w : World} {g p : Nat} {l : List UInt8} (h : ReaderAt w g l p .nilIface) : RdAt w g l p none := ⟨_, h, rfl⟩

set_option maxRecDepth 100000 in
set_option maxHeartbeats 4000000 in
theorem ltake0 (g p : Nat) (M : Int) (S0 : ByteArray) (u0 : Value) (l : List UInt8) (w : World) (h : ReaderAt w g l p .nilIface) (hn : p + 4 ≤ l.length) (hl : l.length ≤ 1000000000) :
    Calls Tryd.prog 18 #[.pointer (some ⟨g, 0, none⟩), .agg #[.int .i64 0, .int .i64 M, .string S0, u0]] w fun e w' => ∃ N' S' u', e = .returned (.agg #[.int .i64 0, N', S', u']) ∧ (N' = .int .i64 (num (sub l p 4) : Nat) ∧ S' = .string ⟨#[]⟩ ∧ u' = .slice none 0 0) ∧ RdAt w' g l (p + 4) none ∧ w.grownBy w' (some g) := by
  have hb0 := takeW_below w #[.int .i64 0, .int .i64 M, .string S0, u0] 0
  have H3 := Lib.hid (rnum_ok g p l _ (h.below hb0) hn hl)
  have hO := Lib.hid (takeW_out w #[.int .i64 0, .int .i64 M, .string S0, u0] 0)
  have hR := Lib.hid (takeW_res w #[.int .i64 0, .int .i64 M, .string S0, u0] 0)
  have hgl : g < w.heap.size := by obtain ⟨_, A, c, hw, _⟩ := h; exact hw.lt
  have HB0 := Lib.hid hb0
  clear h hn hb0
  go_enter Tryd.func18, Tryd.ntmps18
  go_wp2_with fail
  refine H3.out.mono ?_; rintro e w4 ⟨rfl, hr4, hg4⟩
  have hO4 := hO.out.grown hg4 (by simp; omega)
  have hR4 := hR.out.grown hg4 (by simp; omega)
  have hsz4 : w.heap.size + 3 ≤ w4.heap.size := by have := hg4.size; simp [takeW] at this; omega
  have a0 := hO4.cell 0; have a1 := hO4.cell 1; have a2 := hO4.cell 2; have a3 := hO4.cell 3
  have k0 := hO4.free 0; have k1 := hO4.free 1; have k2 := hO4.free 2; have k3 := hO4.free 3
  have b0 := hR4.cell 0; have b1 := hR4.cell 1; have b2 := hR4.cell 2; have b3 := hR4.cell 3
  have m0 := hR4.free 0; have m1 := hR4.free 1; have m2 := hR4.free 2; have m3 := hR4.free 3
  simp at a0 a1 a2 a3 b0 b1 b2 b3
  have HR4 := Lib.hid hR4; have HO4 := Lib.hid hO4
  have hG4 : w.grownBy w4 (some g) := grown_trans (grown_below HB0.out) hg4
  have HG4 := Lib.hid hG4; have HRD := Lib.hid (rdAt_of hr4)
  clear hR4 hO4 hg4 hG4 hr4
  go_wp2_with fail
  obtain ⟨W, hW⟩ : ∃ W, ((((w4.setCell ⟨w.heap.size + 1 + 1, 1, none⟩ (.int .i64 (num (sub l p 4) : Nat))).setCell ⟨w.heap.size + 1, 0, none⟩ (.int .i64 0)).setCell ⟨w.heap.size + 1, 1, none⟩ (.int .i64 (num (sub l p 4) : Nat))).setCell ⟨w.heap.size + 1, 2, none⟩ (.string ⟨#[]⟩)).setCell ⟨w.heap.size + 1, 3, none⟩ (.slice none 0 0) = W := ⟨_, rfl⟩
  have hE := res_set (HR4.out.other (p := ⟨w.heap.size + 1 + 1, 1, none⟩) (by simp) (.int .i64 (num (sub l p 4) : Nat))) (.int .i64 0) (.int .i64 (num (sub l p 4) : Nat)) (.string ⟨#[]⟩) (.slice none 0 0)
  have hGW := take_grown (i := 1) (u := .int .i64 (num (sub l p 4) : Nat)) (v0 := .int .i64 0) (v1 := .int .i64 (num (sub l p 4) : Nat)) (v2 := .string ⟨#[]⟩) (v3 := .slice none 0 0) (Nat.le_refl _) HG4.out
  have hRW := HRD.out
  rw [hW] at hE hGW ⊢
  obtain ⟨e0, e1, e2, e3⟩ := hE
  have hRW' : RdAt W g l (p + 4) none := by rw [← hW]; exact take_reader hRW HO4.out HR4.out ⟨noByte_int _, noByte_int _, noByte_str _, noByte_slice _ _ _⟩ ⟨noByte_int _, noByte_int _, noByte_str _, noByte_slice _ _ _⟩ ⟨noByte_int _, noByte_int _, noByte_str _⟩
  exact bodyPost_ret (v := .agg #[.int .i64 0, .int .i64 (num (sub l p 4) : Nat), .string ⟨#[]⟩, .slice none 0 0]) (by simp [results, Tryd.results18, go_sem, e0, e1, e2, e3]) rfl ⟨_, _, _, rfl, ⟨rfl, rfl, rfl⟩, hRW', hGW⟩

set_option maxRecDepth 100000 in
set_option maxHeartbeats 4000000 in
theorem ltake1 (g p : Nat) (M z : Int) (S0 : ByteArray) (u0 : Value) (l : List UInt8) (w : World) (hz : IntKind.i64.wrap (num (sub l p 8) : Nat) = z) (h : ReaderAt w g l p .nilIface) (hn : p + 8 ≤ l.length) (hl : l.length ≤ 1000000000) :
    Calls Tryd.prog 18 #[.pointer (some ⟨g, 0, none⟩), .agg #[.int .i64 1, .int .i64 M, .string S0, u0]] w fun e w' => ∃ N' S' u', e = .returned (.agg #[.int .i64 1, N', S', u']) ∧ (N' = .int .i64 z ∧ S' = .string ⟨#[]⟩ ∧ u' = .slice none 0 0) ∧ RdAt w' g l (p + 8) none ∧ w.grownBy w' (some g) := by
  have hb0 := takeW_below w #[.int .i64 1, .int .i64 M, .string S0, u0] 1
  have H3 := Lib.hid (hz ▸ rlong_ok g p l _ (h.below hb0) hn hl)
  have hO := Lib.hid (takeW_out w #[.int .i64 1, .int .i64 M, .string S0, u0] 1)
  have hR := Lib.hid (takeW_res w #[.int .i64 1, .int .i64 M, .string S0, u0] 1)
  have hgl : g < w.heap.size := by obtain ⟨_, A, c, hw, _⟩ := h; exact hw.lt
  have HB0 := Lib.hid hb0
  clear h hn hz hb0
  go_enter Tryd.func18, Tryd.ntmps18
  go_wp2_with fail
  refine H3.out.mono ?_; rintro e w4 ⟨rfl, hr4, hg4⟩
  have hO4 := hO.out.grown hg4 (by simp; omega)
  have hR4 := hR.out.grown hg4 (by simp; omega)
  have hsz4 : w.heap.size + 3 ≤ w4.heap.size := by have := hg4.size; simp [takeW] at this; omega
  have a0 := hO4.cell 0; have a1 := hO4.cell 1; have a2 := hO4.cell 2; have a3 := hO4.cell 3
  have k0 := hO4.free 0; have k1 := hO4.free 1; have k2 := hO4.free 2; have k3 := hO4.free 3
  have b0 := hR4.cell 0; have b1 := hR4.cell 1; have b2 := hR4.cell 2; have b3 := hR4.cell 3
  have m0 := hR4.free 0; have m1 := hR4.free 1; have m2 := hR4.free 2; have m3 := hR4.free 3
  simp at a0 a1 a2 a3 b0 b1 b2 b3
  have HR4 := Lib.hid hR4; have HO4 := Lib.hid hO4
  have hG4 : w.grownBy w4 (some g) := grown_trans (grown_below HB0.out) hg4
  have HG4 := Lib.hid hG4; have HRD := Lib.hid (rdAt_of hr4)
  clear hR4 hO4 hg4 hG4 hr4
  go_wp2_with fail
  obtain ⟨W, hW⟩ : ∃ W, ((((w4.setCell ⟨w.heap.size + 1 + 1, 1, none⟩ (.int .i64 z)).setCell ⟨w.heap.size + 1, 0, none⟩ (.int .i64 1)).setCell ⟨w.heap.size + 1, 1, none⟩ (.int .i64 z)).setCell ⟨w.heap.size + 1, 2, none⟩ (.string ⟨#[]⟩)).setCell ⟨w.heap.size + 1, 3, none⟩ (.slice none 0 0) = W := ⟨_, rfl⟩
  have hE := res_set (HR4.out.other (p := ⟨w.heap.size + 1 + 1, 1, none⟩) (by simp) (.int .i64 z)) (.int .i64 1) (.int .i64 z) (.string ⟨#[]⟩) (.slice none 0 0)
  have hGW := take_grown (i := 1) (u := .int .i64 z) (v0 := .int .i64 1) (v1 := .int .i64 z) (v2 := .string ⟨#[]⟩) (v3 := .slice none 0 0) (Nat.le_refl _) HG4.out
  have hRW := HRD.out
  rw [hW] at hE hGW ⊢
  obtain ⟨e0, e1, e2, e3⟩ := hE
  have hRW' : RdAt W g l (p + 8) none := by rw [← hW]; exact take_reader hRW HO4.out HR4.out ⟨noByte_int _, noByte_int _, noByte_str _, noByte_slice _ _ _⟩ ⟨noByte_int _, noByte_int _, noByte_str _, noByte_slice _ _ _⟩ ⟨noByte_int _, noByte_int _, noByte_str _⟩
  exact bodyPost_ret (v := .agg #[.int .i64 1, .int .i64 z, .string ⟨#[]⟩, .slice none 0 0]) (by simp [results, Tryd.results18, go_sem, e0, e1, e2, e3]) rfl ⟨_, _, _, rfl, ⟨rfl, rfl, rfl⟩, hRW', hGW⟩

set_option maxRecDepth 100000 in
set_option maxHeartbeats 4000000 in
theorem ltake2 (g p n : Nat) (M : Int) (S0 : ByteArray) (u0 : Value) (l : List UInt8) (w : World) (h : ReaderAt w g l p .nilIface) (hnum : num (sub l p 4) = n) (hn : p + 4 + n ≤ l.length) (hl : l.length ≤ 1000000000) :
    Calls Tryd.prog 18 #[.pointer (some ⟨g, 0, none⟩), .agg #[.int .i64 2, .int .i64 M, .string S0, u0]] w fun e w' => ∃ N' S' u', e = .returned (.agg #[.int .i64 2, N', S', u']) ∧ (N' = .int .i64 0 ∧ S' = .string ⟨(sub l (p + 4) n).toArray⟩ ∧ u' = .slice none 0 0) ∧ RdAt w' g l (p + 4 + n) none ∧ w.grownBy w' (some g) := by
  have hb0 := takeW_below w #[.int .i64 2, .int .i64 M, .string S0, u0] 2
  have H3 := Lib.hid (rtext_ok g p n l _ (h.below hb0) hnum hn hl)
  have hO := Lib.hid (takeW_out w #[.int .i64 2, .int .i64 M, .string S0, u0] 2)
  have hR := Lib.hid (takeW_res w #[.int .i64 2, .int .i64 M, .string S0, u0] 2)
  have hgl : g < w.heap.size := by obtain ⟨_, A, c, hw, _⟩ := h; exact hw.lt
  have HB0 := Lib.hid hb0
  clear h hn hnum hb0
  go_enter Tryd.func18, Tryd.ntmps18
  go_wp2_with fail
  refine H3.out.mono ?_; rintro e w4 ⟨rfl, hr4, hg4⟩
  have hO4 := hO.out.grown hg4 (by simp; omega)
  have hR4 := hR.out.grown hg4 (by simp; omega)
  have hsz4 : w.heap.size + 3 ≤ w4.heap.size := by have := hg4.size; simp [takeW] at this; omega
  have a0 := hO4.cell 0; have a1 := hO4.cell 1; have a2 := hO4.cell 2; have a3 := hO4.cell 3
  have k0 := hO4.free 0; have k1 := hO4.free 1; have k2 := hO4.free 2; have k3 := hO4.free 3
  have b0 := hR4.cell 0; have b1 := hR4.cell 1; have b2 := hR4.cell 2; have b3 := hR4.cell 3
  have m0 := hR4.free 0; have m1 := hR4.free 1; have m2 := hR4.free 2; have m3 := hR4.free 3
  simp at a0 a1 a2 a3 b0 b1 b2 b3
  have HR4 := Lib.hid hR4; have HO4 := Lib.hid hO4
  have hG4 : w.grownBy w4 (some g) := grown_trans (grown_below HB0.out) hg4
  have HG4 := Lib.hid hG4; have HRD := Lib.hid (rdAt_of hr4)
  clear hR4 hO4 hg4 hG4 hr4
  go_wp2_with fail
  obtain ⟨W, hW⟩ : ∃ W, ((((w4.setCell ⟨w.heap.size + 1 + 1, 2, none⟩ (.string ⟨(sub l (p + 4) n).toArray⟩)).setCell ⟨w.heap.size + 1, 0, none⟩ (.int .i64 2)).setCell ⟨w.heap.size + 1, 1, none⟩ (.int .i64 0)).setCell ⟨w.heap.size + 1, 2, none⟩ (.string ⟨(sub l (p + 4) n).toArray⟩)).setCell ⟨w.heap.size + 1, 3, none⟩ (.slice none 0 0) = W := ⟨_, rfl⟩
  have hE := res_set (HR4.out.other (p := ⟨w.heap.size + 1 + 1, 2, none⟩) (by simp) (.string ⟨(sub l (p + 4) n).toArray⟩)) (.int .i64 2) (.int .i64 0) (.string ⟨(sub l (p + 4) n).toArray⟩) (.slice none 0 0)
  have hGW := take_grown (i := 2) (u := .string ⟨(sub l (p + 4) n).toArray⟩) (v0 := .int .i64 2) (v1 := .int .i64 0) (v2 := .string ⟨(sub l (p + 4) n).toArray⟩) (v3 := .slice none 0 0) (Nat.le_refl _) HG4.out
  have hRW := HRD.out
  rw [hW] at hE hGW ⊢
  obtain ⟨e0, e1, e2, e3⟩ := hE
  have hRW' : RdAt W g l (p + 4 + n) none := by rw [← hW]; exact take_reader hRW HO4.out HR4.out ⟨noByte_int _, noByte_int _, noByte_str _, noByte_slice _ _ _⟩ ⟨noByte_int _, noByte_int _, noByte_str _, noByte_slice _ _ _⟩ ⟨noByte_int _, noByte_int _, noByte_str _⟩
  exact bodyPost_ret (v := .agg #[.int .i64 2, .int .i64 0, .string ⟨(sub l (p + 4) n).toArray⟩, .slice none 0 0]) (by simp [results, Tryd.results18, go_sem, e0, e1, e2, e3]) rfl ⟨_, _, _, rfl, ⟨rfl, rfl, rfl⟩, hRW', hGW⟩

set_option maxRecDepth 100000 in
set_option maxHeartbeats 4000000 in
theorem ltake3 (g p n M : Nat) (S0 : ByteArray) (u0 : Value) (l : List UInt8) (w : World) (h : ReaderAt w g l p .nilIface) (hnum : num (sub l p 4) = n) (hn : p + 4 + 4 * n ≤ l.length) (hm : n ≤ M) (hM : M ≤ 1000000000) (hl : l.length ≤ 1000000000) :
    Calls Tryd.prog 18 #[.pointer (some ⟨g, 0, none⟩), .agg #[.int .i64 3, .int .i64 M, .string S0, u0]] w fun e w' => ∃ N' S' u', e = .returned (.agg #[.int .i64 3, N', S', u']) ∧ (N' = .int .i64 0 ∧ S' = .string ⟨#[]⟩ ∧ IntsV w' u' n (fun i => (num (sub l (p + 4 + 4 * i) 4) : Nat))) ∧ RdAt w' g l (p + 4 + 4 * n) none ∧ w.grownBy w' (some g) := by
  have hb0 := takeW_below w #[.int .i64 3, .int .i64 M, .string S0, u0] 3
  have H3 := Lib.hid (rlist_ok g p n M l _ (h.below hb0) hnum hn hm hM hl)
  have hO := Lib.hid (takeW_out w #[.int .i64 3, .int .i64 M, .string S0, u0] 3)
  have hR := Lib.hid (takeW_res w #[.int .i64 3, .int .i64 M, .string S0, u0] 3)
  have hgl : g < w.heap.size := by obtain ⟨_, A, c, hw, _⟩ := h; exact hw.lt
  have HB0 := Lib.hid hb0
  clear h hn hnum hm hb0
  go_enter Tryd.func18, Tryd.ntmps18
  go_wp2_with fail
  refine H3.out.mono ?_; rintro e w4 ⟨b4, rfl, hbb4, hu4, hr4, hg4⟩; simp [takeW] at hbb4; have HBB4 := Lib.hid hbb4; have HU4 := Lib.hid hu4; clear hbb4 hu4
  have hO4 := hO.out.grown hg4 (by simp; omega)
  have hR4 := hR.out.grown hg4 (by simp; omega)
  have hsz4 : w.heap.size + 3 ≤ w4.heap.size := by have := hg4.size; simp [takeW] at this; omega
  have a0 := hO4.cell 0; have a1 := hO4.cell 1; have a2 := hO4.cell 2; have a3 := hO4.cell 3
  have k0 := hO4.free 0; have k1 := hO4.free 1; have k2 := hO4.free 2; have k3 := hO4.free 3
  have b0 := hR4.cell 0; have b1 := hR4.cell 1; have b2 := hR4.cell 2; have b3 := hR4.cell 3
  have m0 := hR4.free 0; have m1 := hR4.free 1; have m2 := hR4.free 2; have m3 := hR4.free 3
  simp at a0 a1 a2 a3 b0 b1 b2 b3
  have HR4 := Lib.hid hR4; have HO4 := Lib.hid hO4
  have hG4 : w.grownBy w4 (some g) := grown_trans (grown_below HB0.out) hg4
  have HG4 := Lib.hid hG4; have HRD := Lib.hid (rdAt_of hr4)
  clear hR4 hO4 hg4 hG4 hr4
  go_wp2_with fail
  obtain ⟨W, hW⟩ : ∃ W, ((((w4.setCell ⟨w.heap.size + 1 + 1, 3, none⟩ (.slice (some ⟨b4, 0, none⟩) n n)).setCell ⟨w.heap.size + 1, 0, none⟩ (.int .i64 3)).setCell ⟨w.heap.size + 1, 1, none⟩ (.int .i64 0)).setCell ⟨w.heap.size + 1, 2, none⟩ (.string ⟨#[]⟩)).setCell ⟨w.heap.size + 1, 3, none⟩ (.slice (some ⟨b4, 0, none⟩) n n) = W := ⟨_, rfl⟩
  have hE := res_set (HR4.out.other (p := ⟨w.heap.size + 1 + 1, 3, none⟩) (by simp) (.slice (some ⟨b4, 0, none⟩) n n)) (.int .i64 3) (.int .i64 0) (.string ⟨#[]⟩) (.slice (some ⟨b4, 0, none⟩) n n)
  have hGW := take_grown (i := 3) (u := .slice (some ⟨b4, 0, none⟩) n n) (v0 := .int .i64 3) (v1 := .int .i64 0) (v2 := .string ⟨#[]⟩) (v3 := .slice (some ⟨b4, 0, none⟩) n n) (Nat.le_refl _) HG4.out
  have hRW := HRD.out
  rw [hW] at hE hGW ⊢
  obtain ⟨e0, e1, e2, e3⟩ := hE
  have hRW' : RdAt W g l (p + 4 + 4 * n) none := by rw [← hW]; exact take_reader hRW HO4.out HR4.out ⟨noByte_int _, noByte_int _, noByte_str _, noByte_slice _ _ _⟩ ⟨noByte_int _, noByte_int _, noByte_str _, noByte_slice _ _ _⟩ ⟨noByte_int _, noByte_int _, noByte_str _⟩
  exact bodyPost_ret (v := .agg #[.int .i64 3, .int .i64 0, .string ⟨#[]⟩, .slice (some ⟨b4, 0, none⟩) n n]) (by simp [results, Tryd.results18, go_sem, e0, e1, e2, e3]) rfl ⟨_, _, _, rfl, ⟨rfl, rfl, by rw [← hW]; exact HU4.out.at_block (take_block (by have := HBB4.out; omega) (by have := HBB4.out; omega))⟩, hRW', hGW⟩

set_option maxRecDepth 100000 in
set_option maxHeartbeats 4000000 in
theorem ltake0_no (g p : Nat) (M : Int) (S0 : ByteArray) (u0 : Value) (l : List UInt8) (w : World) (E : Option (Int × Nat)) (h : RdAt w g l p E) (hn : E ≠ none) (hl : l.length ≤ 1000000000) :
    Calls Tryd.prog 18 #[.pointer (some ⟨g, 0, none⟩), .agg #[.int .i64 0, .int .i64 M, .string S0, u0]] w fun e w' => ∃ N' S' u', e = .returned (.agg #[.int .i64 0, N', S', u']) ∧ (N' = .int .i64 0 ∧ S' = .string ⟨#[]⟩ ∧ u' = .slice none 0 0) ∧ RdAt w' g l p (orP E (9, p)) ∧ w.grownBy w' (some g) := by
  have hb0 := takeW_below w #[.int .i64 0, .int .i64 M, .string S0, u0] 0
  have H3 := Lib.hid (rnum_no g p E l _ (h.below hb0) (Or.inl hn) hl)
  have hO := Lib.hid (takeW_out w #[.int .i64 0, .int .i64 M, .string S0, u0] 0)
  have hR := Lib.hid (takeW_res w #[.int .i64 0, .int .i64 M, .string S0, u0] 0)
  have hgl : g < w.heap.size := h.lt
  have HB0 := Lib.hid hb0
  clear h hn hb0
  go_enter Tryd.func18, Tryd.ntmps18
  go_wp2_with fail
  refine H3.out.mono ?_; rintro e w4 ⟨rfl, hr4, hg4⟩
  have hO4 := hO.out.grown hg4 (by simp; omega)
  have hR4 := hR.out.grown hg4 (by simp; omega)
  have hsz4 : w.heap.size + 3 ≤ w4.heap.size := by have := hg4.size; simp [takeW] at this; omega
  have a0 := hO4.cell 0; have a1 := hO4.cell 1; have a2 := hO4.cell 2; have a3 := hO4.cell 3
  have k0 := hO4.free 0; have k1 := hO4.free 1; have k2 := hO4.free 2; have k3 := hO4.free 3
  have b0 := hR4.cell 0; have b1 := hR4.cell 1; have b2 := hR4.cell 2; have b3 := hR4.cell 3
  have m0 := hR4.free 0; have m1 := hR4.free 1; have m2 := hR4.free 2; have m3 := hR4.free 3
  simp at a0 a1 a2 a3 b0 b1 b2 b3
  have HR4 := Lib.hid hR4; have HO4 := Lib.hid hO4
  have hG4 : w.grownBy w4 (some g) := grown_trans (grown_below HB0.out) hg4
  have HG4 := Lib.hid hG4; have HRD := Lib.hid hr4
  clear hR4 hO4 hg4 hG4 hr4
  go_wp2_with fail
  obtain ⟨W, hW⟩ : ∃ W, ((((w4.setCell ⟨w.heap.size + 1 + 1, 1, none⟩ (.int .i64 0)).setCell ⟨w.heap.size + 1, 0, none⟩ (.int .i64 0)).setCell ⟨w.heap.size + 1, 1, none⟩ (.int .i64 0)).setCell ⟨w.heap.size + 1, 2, none⟩ (.string ⟨#[]⟩)).setCell ⟨w.heap.size + 1, 3, none⟩ (.slice none 0 0) = W := ⟨_, rfl⟩
  have hE := res_set (HR4.out.other (p := ⟨w.heap.size + 1 + 1, 1, none⟩) (by simp) (.int .i64 0)) (.int .i64 0) (.int .i64 0) (.string ⟨#[]⟩) (.slice none 0 0)
  have hGW := take_grown (i := 1) (u := .int .i64 0) (v0 := .int .i64 0) (v1 := .int .i64 0) (v2 := .string ⟨#[]⟩) (v3 := .slice none 0 0) (Nat.le_refl _) HG4.out
  have hRW := HRD.out
  rw [hW] at hE hGW ⊢
  obtain ⟨e0, e1, e2, e3⟩ := hE
  have hRW' : RdAt W g l p (orP E (9, p)) := by rw [← hW]; exact take_reader hRW HO4.out HR4.out ⟨noByte_int _, noByte_int _, noByte_str _, noByte_slice _ _ _⟩ ⟨noByte_int _, noByte_int _, noByte_str _, noByte_slice _ _ _⟩ ⟨noByte_int _, noByte_int _, noByte_str _⟩
  exact bodyPost_ret (v := .agg #[.int .i64 0, .int .i64 0, .string ⟨#[]⟩, .slice none 0 0]) (by simp [results, Tryd.results18, go_sem, e0, e1, e2, e3]) rfl ⟨_, _, _, rfl, ⟨rfl, rfl, rfl⟩, hRW', hGW⟩

set_option maxRecDepth 100000 in
set_option maxHeartbeats 4000000 in
theorem ltake1_no (g p : Nat) (M : Int) (S0 : ByteArray) (u0 : Value) (l : List UInt8) (w : World) (E : Option (Int × Nat)) (h : RdAt w g l p E) (hn : E ≠ none) (hl : l.length ≤ 1000000000) :
    Calls Tryd.prog 18 #[.pointer (some ⟨g, 0, none⟩), .agg #[.int .i64 1, .int .i64 M, .string S0, u0]] w fun e w' => ∃ N' S' u', e = .returned (.agg #[.int .i64 1, N', S', u']) ∧ (N' = .int .i64 0 ∧ S' = .string ⟨#[]⟩ ∧ u' = .slice none 0 0) ∧ RdAt w' g l p (orP E (9, p)) ∧ w.grownBy w' (some g) := by
  have hb0 := takeW_below w #[.int .i64 1, .int .i64 M, .string S0, u0] 1
  have H3 := Lib.hid (rlong_no g p E l _ (h.below hb0) (Or.inl hn) hl)
  have hO := Lib.hid (takeW_out w #[.int .i64 1, .int .i64 M, .string S0, u0] 1)
  have hR := Lib.hid (takeW_res w #[.int .i64 1, .int .i64 M, .string S0, u0] 1)
  have hgl : g < w.heap.size := h.lt
  have HB0 := Lib.hid hb0
  clear h hn hb0
  go_enter Tryd.func18, Tryd.ntmps18
  go_wp2_with fail
  refine H3.out.mono ?_; rintro e w4 ⟨rfl, hr4, hg4⟩
  have hO4 := hO.out.grown hg4 (by simp; omega)
  have hR4 := hR.out.grown hg4 (by simp; omega)
  have hsz4 : w.heap.size + 3 ≤ w4.heap.size := by have := hg4.size; simp [takeW] at this; omega
  have a0 := hO4.cell 0; have a1 := hO4.cell 1; have a2 := hO4.cell 2; have a3 := hO4.cell 3
  have k0 := hO4.free 0; have k1 := hO4.free 1; have k2 := hO4.free 2; have k3 := hO4.free 3
  have b0 := hR4.cell 0; have b1 := hR4.cell 1; have b2 := hR4.cell 2; have b3 := hR4.cell 3
  have m0 := hR4.free 0; have m1 := hR4.free 1; have m2 := hR4.free 2; have m3 := hR4.free 3
  simp at a0 a1 a2 a3 b0 b1 b2 b3
  have HR4 := Lib.hid hR4; have HO4 := Lib.hid hO4
  have hG4 : w.grownBy w4 (some g) := grown_trans (grown_below HB0.out) hg4
  have HG4 := Lib.hid hG4; have HRD := Lib.hid hr4
  clear hR4 hO4 hg4 hG4 hr4
  go_wp2_with fail
  obtain ⟨W, hW⟩ : ∃ W, ((((w4.setCell ⟨w.heap.size + 1 + 1, 1, none⟩ (.int .i64 0)).setCell ⟨w.heap.size + 1, 0, none⟩ (.int .i64 1)).setCell ⟨w.heap.size + 1, 1, none⟩ (.int .i64 0)).setCell ⟨w.heap.size + 1, 2, none⟩ (.string ⟨#[]⟩)).setCell ⟨w.heap.size + 1, 3, none⟩ (.slice none 0 0) = W := ⟨_, rfl⟩
  have hE := res_set (HR4.out.other (p := ⟨w.heap.size + 1 + 1, 1, none⟩) (by simp) (.int .i64 0)) (.int .i64 1) (.int .i64 0) (.string ⟨#[]⟩) (.slice none 0 0)
  have hGW := take_grown (i := 1) (u := .int .i64 0) (v0 := .int .i64 1) (v1 := .int .i64 0) (v2 := .string ⟨#[]⟩) (v3 := .slice none 0 0) (Nat.le_refl _) HG4.out
  have hRW := HRD.out
  rw [hW] at hE hGW ⊢
  obtain ⟨e0, e1, e2, e3⟩ := hE
  have hRW' : RdAt W g l p (orP E (9, p)) := by rw [← hW]; exact take_reader hRW HO4.out HR4.out ⟨noByte_int _, noByte_int _, noByte_str _, noByte_slice _ _ _⟩ ⟨noByte_int _, noByte_int _, noByte_str _, noByte_slice _ _ _⟩ ⟨noByte_int _, noByte_int _, noByte_str _⟩
  exact bodyPost_ret (v := .agg #[.int .i64 1, .int .i64 0, .string ⟨#[]⟩, .slice none 0 0]) (by simp [results, Tryd.results18, go_sem, e0, e1, e2, e3]) rfl ⟨_, _, _, rfl, ⟨rfl, rfl, rfl⟩, hRW', hGW⟩

set_option maxRecDepth 100000 in
set_option maxHeartbeats 4000000 in
theorem ltake2_no (g p : Nat) (M : Int) (S0 : ByteArray) (u0 : Value) (l : List UInt8) (w : World) (E : Option (Int × Nat)) (h : RdAt w g l p E) (hn : E ≠ none) (hl : l.length ≤ 1000000000) :
    Calls Tryd.prog 18 #[.pointer (some ⟨g, 0, none⟩), .agg #[.int .i64 2, .int .i64 M, .string S0, u0]] w fun e w' => ∃ N' S' u', e = .returned (.agg #[.int .i64 2, N', S', u']) ∧ (N' = .int .i64 0 ∧ S' = .string ⟨#[]⟩ ∧ u' = .slice none 0 0) ∧ RdAt w' g l p (orP E (9, p)) ∧ w.grownBy w' (some g) := by
  have hb0 := takeW_below w #[.int .i64 2, .int .i64 M, .string S0, u0] 2
  have H3 := Lib.hid (rtext_no g p E l _ (h.below hb0) (Or.inl hn) hl)
  have hO := Lib.hid (takeW_out w #[.int .i64 2, .int .i64 M, .string S0, u0] 2)
  have hR := Lib.hid (takeW_res w #[.int .i64 2, .int .i64 M, .string S0, u0] 2)
  have hgl : g < w.heap.size := h.lt
  have HB0 := Lib.hid hb0
  clear h hn hb0
  go_enter Tryd.func18, Tryd.ntmps18
  go_wp2_with fail
  refine H3.out.mono ?_; rintro e w4 ⟨rfl, hr4, hg4⟩
  have hO4 := hO.out.grown hg4 (by simp; omega)
  have hR4 := hR.out.grown hg4 (by simp; omega)
  have hsz4 : w.heap.size + 3 ≤ w4.heap.size := by have := hg4.size; simp [takeW] at this; omega
  have a0 := hO4.cell 0; have a1 := hO4.cell 1; have a2 := hO4.cell 2; have a3 := hO4.cell 3
  have k0 := hO4.free 0; have k1 := hO4.free 1; have k2 := hO4.free 2; have k3 := hO4.free 3
  have b0 := hR4.cell 0; have b1 := hR4.cell 1; have b2 := hR4.cell 2; have b3 := hR4.cell 3
  have m0 := hR4.free 0; have m1 := hR4.free 1; have m2 := hR4.free 2; have m3 := hR4.free 3
  simp at a0 a1 a2 a3 b0 b1 b2 b3
  have HR4 := Lib.hid hR4; have HO4 := Lib.hid hO4
  have hG4 : w.grownBy w4 (some g) := grown_trans (grown_below HB0.out) hg4
  have HG4 := Lib.hid hG4; have HRD := Lib.hid hr4
  clear hR4 hO4 hg4 hG4 hr4
  go_wp2_with fail
  obtain ⟨W, hW⟩ : ∃ W, ((((w4.setCell ⟨w.heap.size + 1 + 1, 2, none⟩ (.string ⟨#[]⟩)).setCell ⟨w.heap.size + 1, 0, none⟩ (.int .i64 2)).setCell ⟨w.heap.size + 1, 1, none⟩ (.int .i64 0)).setCell ⟨w.heap.size + 1, 2, none⟩ (.string ⟨#[]⟩)).setCell ⟨w.heap.size + 1, 3, none⟩ (.slice none 0 0) = W := ⟨_, rfl⟩
  have hE := res_set (HR4.out.other (p := ⟨w.heap.size + 1 + 1, 2, none⟩) (by simp) (.string ⟨#[]⟩)) (.int .i64 2) (.int .i64 0) (.string ⟨#[]⟩) (.slice none 0 0)
  have hGW := take_grown (i := 2) (u := .string ⟨#[]⟩) (v0 := .int .i64 2) (v1 := .int .i64 0) (v2 := .string ⟨#[]⟩) (v3 := .slice none 0 0) (Nat.le_refl _) HG4.out
  have hRW := HRD.out
  rw [hW] at hE hGW ⊢
  obtain ⟨e0, e1, e2, e3⟩ := hE
  have hRW' : RdAt W g l p (orP E (9, p)) := by rw [← hW]; exact take_reader hRW HO4.out HR4.out ⟨noByte_int _, noByte_int _, noByte_str _, noByte_slice _ _ _⟩ ⟨noByte_int _, noByte_int _, noByte_str _, noByte_slice _ _ _⟩ ⟨noByte_int _, noByte_int _, noByte_str _⟩
  exact bodyPost_ret (v := .agg #[.int .i64 2, .int .i64 0, .string ⟨#[]⟩, .slice none 0 0]) (by simp [results, Tryd.results18, go_sem, e0, e1, e2, e3]) rfl ⟨_, _, _, rfl, ⟨rfl, rfl, rfl⟩, hRW', hGW⟩

set_option maxRecDepth 100000 in
set_option maxHeartbeats 4000000 in
theorem ltake3_no (g p : Nat) (M : Int) (S0 : ByteArray) (u0 : Value) (l : List UInt8) (w : World) (E : Option (Int × Nat)) (h : RdAt w g l p E) (hn : E ≠ none) (hl : l.length ≤ 1000000000) :
    Calls Tryd.prog 18 #[.pointer (some ⟨g, 0, none⟩), .agg #[.int .i64 3, .int .i64 M, .string S0, u0]] w fun e w' => ∃ N' S' u', e = .returned (.agg #[.int .i64 3, N', S', u']) ∧ (N' = .int .i64 0 ∧ S' = .string ⟨#[]⟩ ∧ u' = .slice none 0 0) ∧ RdAt w' g l p (orP E (9, p)) ∧ w.grownBy w' (some g) := by
  have hb0 := takeW_below w #[.int .i64 3, .int .i64 M, .string S0, u0] 3
  have H3 := Lib.hid (rlist_no g p M E l _ (h.below hb0) (Or.inl hn) hl)
  have hO := Lib.hid (takeW_out w #[.int .i64 3, .int .i64 M, .string S0, u0] 3)
  have hR := Lib.hid (takeW_res w #[.int .i64 3, .int .i64 M, .string S0, u0] 3)
  have hgl : g < w.heap.size := h.lt
  have HB0 := Lib.hid hb0
  clear h hn hb0
  go_enter Tryd.func18, Tryd.ntmps18
  go_wp2_with fail
  refine H3.out.mono ?_; rintro e w4 ⟨rfl, hr4, hg4⟩
  have hO4 := hO.out.grown hg4 (by simp; omega)
  have hR4 := hR.out.grown hg4 (by simp; omega)
  have hsz4 : w.heap.size + 3 ≤ w4.heap.size := by have := hg4.size; simp [takeW] at this; omega
  have a0 := hO4.cell 0; have a1 := hO4.cell 1; have a2 := hO4.cell 2; have a3 := hO4.cell 3
  have k0 := hO4.free 0; have k1 := hO4.free 1; have k2 := hO4.free 2; have k3 := hO4.free 3
  have b0 := hR4.cell 0; have b1 := hR4.cell 1; have b2 := hR4.cell 2; have b3 := hR4.cell 3
  have m0 := hR4.free 0; have m1 := hR4.free 1; have m2 := hR4.free 2; have m3 := hR4.free 3
  simp at a0 a1 a2 a3 b0 b1 b2 b3
  have HR4 := Lib.hid hR4; have HO4 := Lib.hid hO4
  have hG4 : w.grownBy w4 (some g) := grown_trans (grown_below HB0.out) hg4
  have HG4 := Lib.hid hG4; have HRD := Lib.hid hr4
  clear hR4 hO4 hg4 hG4 hr4
  go_wp2_with fail
  obtain ⟨W, hW⟩ : ∃ W, ((((w4.setCell ⟨w.heap.size + 1 + 1, 3, none⟩ (.slice none 0 0)).setCell ⟨w.heap.size + 1, 0, none⟩ (.int .i64 3)).setCell ⟨w.heap.size + 1, 1, none⟩ (.int .i64 0)).setCell ⟨w.heap.size + 1, 2, none⟩ (.string ⟨#[]⟩)).setCell ⟨w.heap.size + 1, 3, none⟩ (.slice none 0 0) = W := ⟨_, rfl⟩
  have hE := res_set (HR4.out.other (p := ⟨w.heap.size + 1 + 1, 3, none⟩) (by simp) (.slice none 0 0)) (.int .i64 3) (.int .i64 0) (.string ⟨#[]⟩) (.slice none 0 0)
  have hGW := take_grown (i := 3) (u := .slice none 0 0) (v0 := .int .i64 3) (v1 := .int .i64 0) (v2 := .string ⟨#[]⟩) (v3 := .slice none 0 0) (Nat.le_refl _) HG4.out
  have hRW := HRD.out
  rw [hW] at hE hGW ⊢
  obtain ⟨e0, e1, e2, e3⟩ := hE
  have hRW' : RdAt W g l p (orP E (9, p)) := by rw [← hW]; exact take_reader hRW HO4.out HR4.out ⟨noByte_int _, noByte_int _, noByte_str _, noByte_slice _ _ _⟩ ⟨noByte_int _, noByte_int _, noByte_str _, noByte_slice _ _ _⟩ ⟨noByte_int _, noByte_int _, noByte_str _⟩
  exact bodyPost_ret (v := .agg #[.int .i64 3, .int .i64 0, .string ⟨#[]⟩, .slice none 0 0]) (by simp [results, Tryd.results18, go_sem, e0, e1, e2, e3]) rfl ⟨_, _, _, rfl, ⟨rfl, rfl, rfl⟩, hRW', hGW⟩
end Go.Proofs.YtkpoeahnlldpgaaDoor
