/- Layer 8: a law's patterns as the program's, in whatever order. -/
import Derived.Test.YtgolcogigpnbeaaDoorRegInv
import Derived.Test.YtgolcogigpnbeaaDoorPat9
namespace Go.Proofs.YtgolcogigpnbeaaDoor
open Go.RowKit

theorem flag_set {L : Array Bool} {i : Nat} (hi : i < L.size) (j : Nat) : (L.setIfInBounds i true).getD j false = if j = i then true else L.getD j false := by
  simp only [Array.getD_eq_getD_getElem?]
  by_cases h : j = i
  · subst h
    rw [if_pos rfl, Array.getElem?_setIfInBounds_self_of_lt hi]
    rfl
  · rw [if_neg h, Array.getElem?_setIfInBounds_ne (fun e => h e.symm)]
theorem flag_not {L : Array Bool} {i : Nat} (h : L.getD i true = false) : L.getD i false = false := by
  simp only [Array.getD_eq_getD_getElem?] at h ⊢
  cases hc : L[i]? with
  | none => rw [hc] at h; cases h
  | some b => rw [hc] at h; exact h
/-- What a call of Of told. -/
def CallV (w : World) (lv : Value) (m : Nat) (E : List (Int × Int)) (v : Value) : Prop := ∃ A c, v = .agg #[lv, .slice A m c] ∧ w.ownsRow 0 43 2 (.slice A m c) m (eL E)
theorem CallV.below {w w' : World} {lv v : Value} {m : Nat} {E : List (Int × Int)} (h : CallV w lv m E v) (hb : Below w.heap.size w w') : CallV w' lv m E v := by
  obtain ⟨A, c, h1, h2⟩ := h
  exact ⟨A, c, h1, own_below h2 hb (Nat.le_refl _)⟩
theorem CallV.put {w : World} {lv v x y u : Value} {m g : Nat} {E : List (Int × Int)} (h : CallV w lv m E v) (hg : Whole w g 29 #[x, y]) (i : Nat) : CallV (w.setCell ⟨g, i, none⟩ u) lv m E v := by
  obtain ⟨A, c, h1, h2⟩ := h
  exact ⟨A, c, h1, own_put h2 (p := ⟨g, i, none⟩) (fun e => own_ne h2 hg (by decide) e) u⟩
/-- A box, empty or filled with what was told. -/
def BoxV (B : Nat) (w : World) (v : Value) (d : Bool) (c : Value) : Prop := ∃ g x y, v = .pointer (some ⟨g, 0, none⟩) ∧ B ≤ g ∧ Whole w g 29 #[x, y] ∧ (d = true → c = .agg #[x, y])
theorem BoxV.below {B : Nat} {w w' : World} {v c : Value} {d : Bool} (h : BoxV B w v d c) (hb : Below w.heap.size w w') : BoxV B w' v d c := by
  obtain ⟨g, x, y, h1, h2, h3, h4⟩ := h
  exact ⟨g, x, y, h1, h2, h3.below hb h3.lt, h4⟩
theorem BoxV.empty {B : Nat} {w : World} {v c c' : Value} (h : BoxV B w v false c) : BoxV B w v false c' := by
  obtain ⟨g, x, y, h1, h2, h3, h4⟩ := h
  exact ⟨g, x, y, h1, h2, h3, fun e => by cases e⟩
theorem BoxV.other {B g : Nat} {w : World} {v c u : Value} {d : Bool} (h : BoxV B w v d c) (hne : v ≠ .pointer (some ⟨g, 0, none⟩)) (i : Nat) : BoxV B (w.setCell ⟨g, i, none⟩ u) v d c := by
  obtain ⟨g', x, y, h1, h2, h3, h4⟩ := h
  exact ⟨g', x, y, h1, h2, h3.other (p := ⟨g, i, none⟩) (fun e => hne (by rw [h1]; have e' : g' = g := e; rw [e'])) u, h4⟩
theorem BoxV.ne_new {B : Nat} {w : World} {v c : Value} {d : Bool} (h : BoxV B w v d c) : v ≠ .pointer (some ⟨w.heap.size, 0, none⟩) := by
  obtain ⟨g, x, y, rfl, h2, h3, h4⟩ := h
  intro e
  injection e with e
  injection e with e
  injection e with e
  have := h3.lt
  omega
def frOfs3 (Al1 Ae1 : Option Addr) (n1 cl1 m1 ce1 b1 : Nat) (Al2 Ae2 : Option Addr) (n2 cl2 m2 ce2 b2 : Nat) (Al3 Ae3 : Option Addr) (n3 cl3 m3 ce3 b3 : Nat) (ld1 ld2 ld3 cv1 cv2 cv3 pt1 pt2 pt3 : Value) : Act := { tmps := #[.agg #[.slice Al1 n1 cl1, .slice Ae1 m1 ce1], .agg #[.slice Al2 n2 cl2, .slice Ae2 m2 ce2], .agg #[.slice Al3 n3 cl3, .slice Ae3 m3 ce3], .pointer (some ⟨b1, 0, none⟩), .pointer (some ⟨b2, 0, none⟩), .pointer (some ⟨b3, 0, none⟩), .bool false, pt1, pt2, pt3, undef, undef, undef, undef, undef, .bool true, .bool false, ld1, cv1, ld2, cv2, ld3, cv3, undef, undef, undef, undef, undef, undef, undef, undef, undef, undef, undef, undef, undef, undef, undef, undef, undef, undef, undef, undef, undef, undef, undef, undef, undef, undef, undef, undef, undef, undef, undef, undef, undef, undef, undef, undef, undef, undef, undef, undef, undef, undef, undef, undef, undef, undef, undef, undef, undef, undef, undef, undef, undef, undef, undef, undef, undef, undef, undef, undef, undef, undef, undef, undef, undef, undef, undef, undef, undef, undef, undef, undef, undef, undef, undef, undef, undef, undef, undef, undef, undef, undef, undef, undef, undef, undef, undef, undef, undef, undef, undef, undef, undef, undef, undef, undef, undef, undef, undef, undef, undef, undef, undef, undef, undef, undef, undef], defers := [] }
def opsOfs3 : Array Oper := #[{ dst := some 17, op := Op.load 25 (Operand.tmp 3), type := 25, pos := "law.go:180", after := #[], guard := none },
  { dst := some 18, op := Op.call { callee := Callee.value (Operand.func 5), args := #[Operand.tmp 17], argTypes := #[25] }, type := 29, pos := "law.go:180", after := #[{ on := 0, ground := Ground.data }], guard := none },
  { dst := some 19, op := Op.load 25 (Operand.tmp 4), type := 25, pos := "law.go:180", after := #[], guard := none },
  { dst := some 20, op := Op.call { callee := Callee.value (Operand.func 5), args := #[Operand.tmp 19], argTypes := #[25] }, type := 29, pos := "law.go:180", after := #[{ on := 2, ground := Ground.data }, { on := 1, ground := Ground.chain }], guard := none },
  { dst := some 21, op := Op.load 25 (Operand.tmp 5), type := 25, pos := "law.go:180", after := #[], guard := none },
  { dst := some 22, op := Op.call { callee := Callee.value (Operand.func 5), args := #[Operand.tmp 21], argTypes := #[25] }, type := 29, pos := "law.go:180", after := #[{ on := 4, ground := Ground.data }, { on := 3, ground := Ground.chain }], guard := none },
  { dst := some 7, op := Op.alloc 29, type := 0, pos := "law.go:180", after := #[], guard := none },
  { dst := some 8, op := Op.alloc 29, type := 0, pos := "law.go:180", after := #[], guard := none },
  { dst := some 9, op := Op.alloc 29, type := 0, pos := "law.go:180", after := #[], guard := none },
  { dst := none, op := Op.store 29 (Operand.tmp 7) (Operand.tmp 18), type := 0, pos := "law.go:180", after := #[{ on := 6, ground := Ground.data }, { on := 1, ground := Ground.data }, { on := 5, ground := Ground.chain }, { on := 0, ground := Ground.phase }, { on := 1, ground := Ground.phase }, { on := 2, ground := Ground.textOnly Departure.lateStores }, { on := 3, ground := Ground.textOnly Departure.lateStoresUnsure }, { on := 4, ground := Ground.textOnly Departure.lateStores }, { on := 5, ground := Ground.textOnly Departure.lateStoresUnsure }, { on := 6, ground := Ground.phase }, { on := 7, ground := Ground.phase }, { on := 8, ground := Ground.phase }], guard := none },
  { dst := none, op := Op.store 29 (Operand.tmp 8) (Operand.tmp 20), type := 0, pos := "law.go:180", after := #[{ on := 7, ground := Ground.data }, { on := 3, ground := Ground.data }, { on := 9, ground := Ground.chain }, { on := 0, ground := Ground.phase }, { on := 1, ground := Ground.phase }, { on := 2, ground := Ground.phase }, { on := 3, ground := Ground.phase }, { on := 4, ground := Ground.textOnly Departure.lateStores }, { on := 5, ground := Ground.textOnly Departure.lateStoresUnsure }, { on := 6, ground := Ground.phase }, { on := 7, ground := Ground.phase }, { on := 8, ground := Ground.phase }, { on := 9, ground := Ground.phase }], guard := none },
  { dst := none, op := Op.store 29 (Operand.tmp 9) (Operand.tmp 22), type := 0, pos := "law.go:180", after := #[{ on := 8, ground := Ground.data }, { on := 5, ground := Ground.data }, { on := 10, ground := Ground.chain }, { on := 0, ground := Ground.phase }, { on := 1, ground := Ground.phase }, { on := 2, ground := Ground.phase }, { on := 3, ground := Ground.phase }, { on := 4, ground := Ground.phase }, { on := 5, ground := Ground.phase }, { on := 6, ground := Ground.phase }, { on := 7, ground := Ground.phase }, { on := 8, ground := Ground.phase }, { on := 9, ground := Ground.phase }, { on := 10, ground := Ground.phase }], guard := none }]
structure FactsOfs3 (w1 : World) (P1 lv1 : Value) (m1 : Nat) (E1 : List (Int × Int)) (P2 lv2 : Value) (m2 : Nat) (E2 : List (Int × Int)) (P3 lv3 : Value) (m3 : Nat) (E3 : List (Int × Int)) (φ : Nat → Bool) (ld1 ld2 ld3 cv1 cv2 cv3 pt1 pt2 pt3 : Value) (w : World) : Prop where
  bel : Below w1.heap.size w1 w
  l1 : φ 0 = true → ld1 = P1
  c1 : φ 1 = true → CallV w lv1 m1 E1 cv1
  p1 : φ 6 = true → BoxV w1.heap.size w pt1 (φ 9) cv1
  s1 : φ 9 = true → φ 1 = true ∧ φ 6 = true
  l2 : φ 2 = true → ld2 = P2
  c2 : φ 3 = true → CallV w lv2 m2 E2 cv2
  p2 : φ 7 = true → BoxV w1.heap.size w pt2 (φ 10) cv2
  s2 : φ 10 = true → φ 3 = true ∧ φ 7 = true
  l3 : φ 4 = true → ld3 = P3
  c3 : φ 5 = true → CallV w lv3 m3 E3 cv3
  p3 : φ 8 = true → BoxV w1.heap.size w pt3 (φ 11) cv3
  s3 : φ 11 = true → φ 5 = true ∧ φ 8 = true
  d12 : φ 6 = true → φ 7 = true → pt1 ≠ pt2
  d13 : φ 6 = true → φ 8 = true → pt1 ≠ pt3
  d23 : φ 7 = true → φ 8 = true → pt2 ≠ pt3
def JOfs3 (w1 : World) (Al1 Ae1 : Option Addr) (n1 cl1 m1 ce1 b1 : Nat) (Al2 Ae2 : Option Addr) (n2 cl2 m2 ce2 b2 : Nat) (Al3 Ae3 : Option Addr) (n3 cl3 m3 ce3 b3 : Nat) (E1 : List (Int × Int)) (E2 : List (Int × Int)) (E3 : List (Int × Int)) (L : Array Bool) (a : Act) (w : World) : Prop := (L.size = 12 ∧ ∃ ld1 ld2 ld3 cv1 cv2 cv3 pt1 pt2 pt3, a = frOfs3 Al1 Ae1 n1 cl1 m1 ce1 b1 Al2 Ae2 n2 cl2 m2 ce2 b2 Al3 Ae3 n3 cl3 m3 ce3 b3 ld1 ld2 ld3 cv1 cv2 cv3 pt1 pt2 pt3 ∧ FactsOfs3 w1 (.agg #[.slice Al1 n1 cl1, .slice Ae1 m1 ce1]) (.slice Al1 n1 cl1) m1 E1 (.agg #[.slice Al2 n2 cl2, .slice Ae2 m2 ce2]) (.slice Al2 n2 cl2) m2 E2 (.agg #[.slice Al3 n3 cl3, .slice Ae3 m3 ce3]) (.slice Al3 n3 cl3) m3 E3 (fun j => L.getD j false) ld1 ld2 ld3 cv1 cv2 cv3 pt1 pt2 pt3 w)
set_option maxRecDepth 100000 in
set_option maxHeartbeats 4000000 in
theorem regionOfs3 {w1 : World} {Al1 Ae1 : Option Addr} {n1 cl1 m1 ce1 b1 : Nat} {Al2 Ae2 : Option Addr} {n2 cl2 m2 ce2 b2 : Nat} {Al3 Ae3 : Option Addr} {n3 cl3 m3 ce3 b3 : Nat} {E1 : List (Int × Int)} {E2 : List (Int × Int)} {E3 : List (Int × Int)} {Q : Exit → Act → World → Prop}
    (kc1 : ∀ W, Below w1.heap.size w1 W → W.cell? ⟨b1, 0, none⟩ = some (.slice Al1 n1 cl1) ∧ W.cell? ⟨b1, 1, none⟩ = some (.slice Ae1 m1 ce1))
    (ko1 : ∀ W, Below w1.heap.size w1 W → Calls Tryd.prog 5 #[(.agg #[.slice Al1 n1 cl1, .slice Ae1 m1 ce1])] W fun e w' => ∃ v, e = .returned v ∧ CallV w' (.slice Al1 n1 cl1) m1 E1 v ∧ Below W.heap.size W w')
    (kc2 : ∀ W, Below w1.heap.size w1 W → W.cell? ⟨b2, 0, none⟩ = some (.slice Al2 n2 cl2) ∧ W.cell? ⟨b2, 1, none⟩ = some (.slice Ae2 m2 ce2))
    (ko2 : ∀ W, Below w1.heap.size w1 W → Calls Tryd.prog 5 #[(.agg #[.slice Al2 n2 cl2, .slice Ae2 m2 ce2])] W fun e w' => ∃ v, e = .returned v ∧ CallV w' (.slice Al2 n2 cl2) m2 E2 v ∧ Below W.heap.size W w')
    (kc3 : ∀ W, Below w1.heap.size w1 W → W.cell? ⟨b3, 0, none⟩ = some (.slice Al3 n3 cl3) ∧ W.cell? ⟨b3, 1, none⟩ = some (.slice Ae3 m3 ce3))
    (ko3 : ∀ W, Below w1.heap.size w1 W → Calls Tryd.prog 5 #[(.agg #[.slice Al3 n3 cl3, .slice Ae3 m3 ce3])] W fun e w' => ∃ v, e = .returned v ∧ CallV w' (.slice Al3 n3 cl3) m3 E3 v ∧ Below W.heap.size W w')
    (hend : ∀ (A1 A2 A3 : Option Addr) (c1 g1 c2 g2 c3 g3 : Nat) (w : World), Below w1.heap.size w1 w → EdgesV w (.slice A1 m1 c1) E1 → Whole w g1 29 #[.slice Al1 n1 cl1, .slice A1 m1 c1] → EdgesV w (.slice A2 m2 c2) E2 → Whole w g2 29 #[.slice Al2 n2 cl2, .slice A2 m2 c2] → EdgesV w (.slice A3 m3 c3) E3 → Whole w g3 29 #[.slice Al3 n3 cl3, .slice A3 m3 c3] →
      Q .normal (frOfs3 Al1 Ae1 n1 cl1 m1 ce1 b1 Al2 Ae2 n2 cl2 m2 ce2 b2 Al3 Ae3 n3 cl3 m3 ce3 b3 (.agg #[.slice Al1 n1 cl1, .slice Ae1 m1 ce1]) (.agg #[.slice Al2 n2 cl2, .slice Ae2 m2 ce2]) (.agg #[.slice Al3 n3 cl3, .slice Ae3 m3 ce3]) (.agg #[.slice Al1 n1 cl1, .slice A1 m1 c1]) (.agg #[.slice Al2 n2 cl2, .slice A2 m2 c2]) (.agg #[.slice Al3 n3 cl3, .slice A3 m3 c3]) (.pointer (some ⟨g1, 0, none⟩)) (.pointer (some ⟨g2, 0, none⟩)) (.pointer (some ⟨g3, 0, none⟩))) w) :
    (Code.region 3 opsOfs3 true).wp Tryd.prog Q (frOfs3 Al1 Ae1 n1 cl1 m1 ce1 b1 Al2 Ae2 n2 cl2 m2 ce2 b2 Al3 Ae3 n3 cl3 m3 ce3 b3 undef undef undef undef undef undef undef undef undef) w1 := by
  refine wp_region_inv (by kernel_rfl) (JOfs3 w1 Al1 Ae1 n1 cl1 m1 ce1 b1 Al2 Ae2 n2 cl2 m2 ce2 b2 Al3 Ae3 n3 cl3 m3 ce3 b3 E1 E2 E3) (by kernel_rfl) ?_ (fun L a w h => h.1) ?_ ?_
  · refine ⟨by kernel_rfl, undef, undef, undef, undef, undef, undef, undef, undef, undef, rfl, ?_⟩
    have hz : ∀ j, (Array.replicate (opsOfs3).size false).getD j false = true → False := fun j h => by
      simp only [Array.getD_eq_getD_getElem?, Array.getElem?_replicate] at h
      split at h <;> cases h
    exact ⟨below_drewN' (Below.refl _ _) 1, fun h => (hz _ h).elim, fun h => (hz _ h).elim, fun h => (hz _ h).elim, fun h => (hz _ h).elim, fun h => (hz _ h).elim, fun h => (hz _ h).elim, fun h => (hz _ h).elim, fun h => (hz _ h).elim, fun h => (hz _ h).elim, fun h => (hz _ h).elim, fun h => (hz _ h).elim, fun h => (hz _ h).elim, fun h => (hz _ h).elim, fun h => (hz _ h).elim, fun h => (hz _ h).elim⟩
  · rintro L a w ⟨hsz, ld1, ld2, ld3, cv1, cv2, cv3, pt1, pt2, pt3, rfl, F⟩ hall
    have hf : ∀ j, j < 12 → L.getD j false = true := fun j hj => by
      have h := hall j hj
      simp only [Array.getD_eq_getD_getElem?, Array.getElem?_eq_getElem (show j < L.size by omega)] at h ⊢
      exact h
    obtain rfl := F.l1 (hf 0 (by decide))
    obtain ⟨A1, c1, hcv1, ho1⟩ := F.c1 (hf 1 (by decide))
    obtain ⟨g1, x1, y1, hpt1, _, hw1, hxy1⟩ := F.p1 (hf 6 (by decide))
    have hq1 := hxy1 (hf 9 (by decide))
    rw [hcv1] at hq1
    injection hq1 with hq1
    injection hq1 with hq1
    injection hq1 with q1 hq1
    injection hq1 with q2 _
    subst q1 q2
    subst hcv1 hpt1
    obtain rfl := F.l2 (hf 2 (by decide))
    obtain ⟨A2, c2, hcv2, ho2⟩ := F.c2 (hf 3 (by decide))
    obtain ⟨g2, x2, y2, hpt2, _, hw2, hxy2⟩ := F.p2 (hf 7 (by decide))
    have hq2 := hxy2 (hf 10 (by decide))
    rw [hcv2] at hq2
    injection hq2 with hq2
    injection hq2 with hq2
    injection hq2 with q1 hq2
    injection hq2 with q2 _
    subst q1 q2
    subst hcv2 hpt2
    obtain rfl := F.l3 (hf 4 (by decide))
    obtain ⟨A3, c3, hcv3, ho3⟩ := F.c3 (hf 5 (by decide))
    obtain ⟨g3, x3, y3, hpt3, _, hw3, hxy3⟩ := F.p3 (hf 8 (by decide))
    have hq3 := hxy3 (hf 11 (by decide))
    rw [hcv3] at hq3
    injection hq3 with hq3
    injection hq3 with hq3
    injection hq3 with q1 hq3
    injection hq3 with q2 _
    subst q1 q2
    subst hcv3 hpt3
    exact hend A1 A2 A3 c1 g1 c2 g2 c3 g3 w F.bel (own_edges ho1) hw1 (own_edges ho2) hw2 (own_edges ho3) hw3
  · rintro i o L a w ⟨hsz, ld1, ld2, ld3, cv1, cv2, cv3, pt1, pt2, pt3, rfl, F⟩ hno ho hdep
    have hlt : i < 12 := by
      have := (Array.getElem?_eq_some_iff.1 ho).1
      exact this
    have hnf := flag_not hno
    have FS := fun j => flag_set (L := L) (i := i) (by omega) j
    have hsz2 : (L.setIfInBounds i true).size = 12 := by rw [Array.size_setIfInBounds]; exact hsz
    match i, hlt with
    | 0, _ =>
      have hlit : opsOfs3[0]? = some ({ dst := some 17, op := Op.load 25 (Operand.tmp 3), type := 25, pos := "law.go:180", after := #[], guard := none } : Oper) := rfl
      obtain rfl := Option.some.inj (hlit.symm.trans ho)
      refine wpOp_step hlit (fun K hK => ?_)
      clear ho hlit
      have fl : ∀ j, j ≠ 0 → (L.setIfInBounds 0 true).getD j false = L.getD j false := fun j hj => by rw [FS j, if_neg hj]
      have fi : (L.setIfInBounds 0 true).getD 0 false = true := by rw [FS 0, if_pos rfl]
      obtain ⟨x0, x1⟩ := kc1 w F.bel
      clear hend FS
      unfold frOfs3
      go_simp
      refine hK _ _ ⟨hsz2, (.agg #[.slice Al1 n1 cl1, .slice Ae1 m1 ce1]), ld2, ld3, cv1, cv2, cv3, pt1, pt2, pt3, rfl, ?_⟩
      exact ⟨F.bel, fun _ => rfl, fun h => F.c1 ((fl 1 (by decide)) ▸ h), fun h => by rw [(show (L.setIfInBounds 0 true).getD 9 false = L.getD 9 false from (fl 9 (by decide)))]; exact F.p1 ((fl 6 (by decide)) ▸ h), fun h => ⟨((fl 1 (by decide)).trans (F.s1 ((fl 9 (by decide)) ▸ h)).1), ((fl 6 (by decide)).trans (F.s1 ((fl 9 (by decide)) ▸ h)).2)⟩, fun h => F.l2 ((fl 2 (by decide)) ▸ h), fun h => F.c2 ((fl 3 (by decide)) ▸ h), fun h => by rw [(show (L.setIfInBounds 0 true).getD 10 false = L.getD 10 false from (fl 10 (by decide)))]; exact F.p2 ((fl 7 (by decide)) ▸ h), fun h => ⟨((fl 3 (by decide)).trans (F.s2 ((fl 10 (by decide)) ▸ h)).1), ((fl 7 (by decide)).trans (F.s2 ((fl 10 (by decide)) ▸ h)).2)⟩, fun h => F.l3 ((fl 4 (by decide)) ▸ h), fun h => F.c3 ((fl 5 (by decide)) ▸ h), fun h => by rw [(show (L.setIfInBounds 0 true).getD 11 false = L.getD 11 false from (fl 11 (by decide)))]; exact F.p3 ((fl 8 (by decide)) ▸ h), fun h => ⟨((fl 5 (by decide)).trans (F.s3 ((fl 11 (by decide)) ▸ h)).1), ((fl 8 (by decide)).trans (F.s3 ((fl 11 (by decide)) ▸ h)).2)⟩, fun h h2 => F.d12 ((fl 6 (by decide)) ▸ h) ((fl 7 (by decide)) ▸ h2), fun h h2 => F.d13 ((fl 6 (by decide)) ▸ h) ((fl 8 (by decide)) ▸ h2), fun h h2 => F.d23 ((fl 7 (by decide)) ▸ h) ((fl 8 (by decide)) ▸ h2)⟩
    | 1, _ =>
      have hlit : opsOfs3[1]? = some ({ dst := some 18, op := Op.call { callee := Callee.value (Operand.func 5), args := #[Operand.tmp 17], argTypes := #[25] }, type := 29, pos := "law.go:180", after := #[{ on := 0, ground := Ground.data }], guard := none } : Oper) := rfl
      obtain rfl := Option.some.inj (hlit.symm.trans ho)
      refine wpOp_step hlit (fun K hK => ?_)
      clear ho hlit
      have fl : ∀ j, j ≠ 1 → (L.setIfInBounds 1 true).getD j false = L.getD j false := fun j hj => by rw [FS j, if_neg hj]
      have fi : (L.setIfInBounds 1 true).getD 1 false = true := by rw [FS 1, if_pos rfl]
      have hd : L.getD 0 false = true := hdep ⟨0, .data⟩ (by simp) (by rfl)
      obtain rfl := F.l1 hd
      have hs0 : L.getD 9 false = false := by
        cases hc : L.getD 9 false with
        | false => rfl
        | true => exact absurd ((F.s1 hc).1) (by simpa using hnf)
      have HO := Lib.hid (ko1 w F.bel)
      clear hend FS hdep
      unfold frOfs3
      go_simp
      refine HO.out.mono ?_; rintro e w' ⟨v, rfl, hcv, hb⟩
      refine hK _ _ ⟨hsz2, (.agg #[.slice Al1 n1 cl1, .slice Ae1 m1 ce1]), ld2, ld3, v, cv2, cv3, pt1, pt2, pt3, rfl, ?_⟩
      exact ⟨F.bel.trans (hb.mono F.bel.size), fun h => F.l1 ((fl 0 (by decide)) ▸ h), fun _ => hcv, fun h => by rw [(show (L.setIfInBounds 1 true).getD 9 false = L.getD 9 false from (fl 9 (by decide))), hs0]; have h3 := F.p1 ((fl 6 (by decide)) ▸ h); rw [hs0] at h3; exact h3.empty.below hb, fun h => ⟨fi, ((fl 6 (by decide)).trans (F.s1 ((fl 9 (by decide)) ▸ h)).2)⟩, fun h => F.l2 ((fl 2 (by decide)) ▸ h), fun h => (F.c2 ((fl 3 (by decide)) ▸ h)).below hb, fun h => by rw [(show (L.setIfInBounds 1 true).getD 10 false = L.getD 10 false from (fl 10 (by decide)))]; exact (F.p2 ((fl 7 (by decide)) ▸ h)).below hb, fun h => ⟨((fl 3 (by decide)).trans (F.s2 ((fl 10 (by decide)) ▸ h)).1), ((fl 7 (by decide)).trans (F.s2 ((fl 10 (by decide)) ▸ h)).2)⟩, fun h => F.l3 ((fl 4 (by decide)) ▸ h), fun h => (F.c3 ((fl 5 (by decide)) ▸ h)).below hb, fun h => by rw [(show (L.setIfInBounds 1 true).getD 11 false = L.getD 11 false from (fl 11 (by decide)))]; exact (F.p3 ((fl 8 (by decide)) ▸ h)).below hb, fun h => ⟨((fl 5 (by decide)).trans (F.s3 ((fl 11 (by decide)) ▸ h)).1), ((fl 8 (by decide)).trans (F.s3 ((fl 11 (by decide)) ▸ h)).2)⟩, fun h h2 => F.d12 ((fl 6 (by decide)) ▸ h) ((fl 7 (by decide)) ▸ h2), fun h h2 => F.d13 ((fl 6 (by decide)) ▸ h) ((fl 8 (by decide)) ▸ h2), fun h h2 => F.d23 ((fl 7 (by decide)) ▸ h) ((fl 8 (by decide)) ▸ h2)⟩
    | 2, _ =>
      have hlit : opsOfs3[2]? = some ({ dst := some 19, op := Op.load 25 (Operand.tmp 4), type := 25, pos := "law.go:180", after := #[], guard := none } : Oper) := rfl
      obtain rfl := Option.some.inj (hlit.symm.trans ho)
      refine wpOp_step hlit (fun K hK => ?_)
      clear ho hlit
      have fl : ∀ j, j ≠ 2 → (L.setIfInBounds 2 true).getD j false = L.getD j false := fun j hj => by rw [FS j, if_neg hj]
      have fi : (L.setIfInBounds 2 true).getD 2 false = true := by rw [FS 2, if_pos rfl]
      obtain ⟨x0, x1⟩ := kc2 w F.bel
      clear hend FS
      unfold frOfs3
      go_simp
      refine hK _ _ ⟨hsz2, ld1, (.agg #[.slice Al2 n2 cl2, .slice Ae2 m2 ce2]), ld3, cv1, cv2, cv3, pt1, pt2, pt3, rfl, ?_⟩
      exact ⟨F.bel, fun h => F.l1 ((fl 0 (by decide)) ▸ h), fun h => F.c1 ((fl 1 (by decide)) ▸ h), fun h => by rw [(show (L.setIfInBounds 2 true).getD 9 false = L.getD 9 false from (fl 9 (by decide)))]; exact F.p1 ((fl 6 (by decide)) ▸ h), fun h => ⟨((fl 1 (by decide)).trans (F.s1 ((fl 9 (by decide)) ▸ h)).1), ((fl 6 (by decide)).trans (F.s1 ((fl 9 (by decide)) ▸ h)).2)⟩, fun _ => rfl, fun h => F.c2 ((fl 3 (by decide)) ▸ h), fun h => by rw [(show (L.setIfInBounds 2 true).getD 10 false = L.getD 10 false from (fl 10 (by decide)))]; exact F.p2 ((fl 7 (by decide)) ▸ h), fun h => ⟨((fl 3 (by decide)).trans (F.s2 ((fl 10 (by decide)) ▸ h)).1), ((fl 7 (by decide)).trans (F.s2 ((fl 10 (by decide)) ▸ h)).2)⟩, fun h => F.l3 ((fl 4 (by decide)) ▸ h), fun h => F.c3 ((fl 5 (by decide)) ▸ h), fun h => by rw [(show (L.setIfInBounds 2 true).getD 11 false = L.getD 11 false from (fl 11 (by decide)))]; exact F.p3 ((fl 8 (by decide)) ▸ h), fun h => ⟨((fl 5 (by decide)).trans (F.s3 ((fl 11 (by decide)) ▸ h)).1), ((fl 8 (by decide)).trans (F.s3 ((fl 11 (by decide)) ▸ h)).2)⟩, fun h h2 => F.d12 ((fl 6 (by decide)) ▸ h) ((fl 7 (by decide)) ▸ h2), fun h h2 => F.d13 ((fl 6 (by decide)) ▸ h) ((fl 8 (by decide)) ▸ h2), fun h h2 => F.d23 ((fl 7 (by decide)) ▸ h) ((fl 8 (by decide)) ▸ h2)⟩
    | 3, _ =>
      have hlit : opsOfs3[3]? = some ({ dst := some 20, op := Op.call { callee := Callee.value (Operand.func 5), args := #[Operand.tmp 19], argTypes := #[25] }, type := 29, pos := "law.go:180", after := #[{ on := 2, ground := Ground.data }, { on := 1, ground := Ground.chain }], guard := none } : Oper) := rfl
      obtain rfl := Option.some.inj (hlit.symm.trans ho)
      refine wpOp_step hlit (fun K hK => ?_)
      clear ho hlit
      have fl : ∀ j, j ≠ 3 → (L.setIfInBounds 3 true).getD j false = L.getD j false := fun j hj => by rw [FS j, if_neg hj]
      have fi : (L.setIfInBounds 3 true).getD 3 false = true := by rw [FS 3, if_pos rfl]
      have hd : L.getD 2 false = true := hdep ⟨2, .data⟩ (by simp) (by rfl)
      obtain rfl := F.l2 hd
      have hs0 : L.getD 10 false = false := by
        cases hc : L.getD 10 false with
        | false => rfl
        | true => exact absurd ((F.s2 hc).1) (by simpa using hnf)
      have HO := Lib.hid (ko2 w F.bel)
      clear hend FS hdep
      unfold frOfs3
      go_simp
      refine HO.out.mono ?_; rintro e w' ⟨v, rfl, hcv, hb⟩
      refine hK _ _ ⟨hsz2, ld1, (.agg #[.slice Al2 n2 cl2, .slice Ae2 m2 ce2]), ld3, cv1, v, cv3, pt1, pt2, pt3, rfl, ?_⟩
      exact ⟨F.bel.trans (hb.mono F.bel.size), fun h => F.l1 ((fl 0 (by decide)) ▸ h), fun h => (F.c1 ((fl 1 (by decide)) ▸ h)).below hb, fun h => by rw [(show (L.setIfInBounds 3 true).getD 9 false = L.getD 9 false from (fl 9 (by decide)))]; exact (F.p1 ((fl 6 (by decide)) ▸ h)).below hb, fun h => ⟨((fl 1 (by decide)).trans (F.s1 ((fl 9 (by decide)) ▸ h)).1), ((fl 6 (by decide)).trans (F.s1 ((fl 9 (by decide)) ▸ h)).2)⟩, fun h => F.l2 ((fl 2 (by decide)) ▸ h), fun _ => hcv, fun h => by rw [(show (L.setIfInBounds 3 true).getD 10 false = L.getD 10 false from (fl 10 (by decide))), hs0]; have h3 := F.p2 ((fl 7 (by decide)) ▸ h); rw [hs0] at h3; exact h3.empty.below hb, fun h => ⟨fi, ((fl 7 (by decide)).trans (F.s2 ((fl 10 (by decide)) ▸ h)).2)⟩, fun h => F.l3 ((fl 4 (by decide)) ▸ h), fun h => (F.c3 ((fl 5 (by decide)) ▸ h)).below hb, fun h => by rw [(show (L.setIfInBounds 3 true).getD 11 false = L.getD 11 false from (fl 11 (by decide)))]; exact (F.p3 ((fl 8 (by decide)) ▸ h)).below hb, fun h => ⟨((fl 5 (by decide)).trans (F.s3 ((fl 11 (by decide)) ▸ h)).1), ((fl 8 (by decide)).trans (F.s3 ((fl 11 (by decide)) ▸ h)).2)⟩, fun h h2 => F.d12 ((fl 6 (by decide)) ▸ h) ((fl 7 (by decide)) ▸ h2), fun h h2 => F.d13 ((fl 6 (by decide)) ▸ h) ((fl 8 (by decide)) ▸ h2), fun h h2 => F.d23 ((fl 7 (by decide)) ▸ h) ((fl 8 (by decide)) ▸ h2)⟩
    | 4, _ =>
      have hlit : opsOfs3[4]? = some ({ dst := some 21, op := Op.load 25 (Operand.tmp 5), type := 25, pos := "law.go:180", after := #[], guard := none } : Oper) := rfl
      obtain rfl := Option.some.inj (hlit.symm.trans ho)
      refine wpOp_step hlit (fun K hK => ?_)
      clear ho hlit
      have fl : ∀ j, j ≠ 4 → (L.setIfInBounds 4 true).getD j false = L.getD j false := fun j hj => by rw [FS j, if_neg hj]
      have fi : (L.setIfInBounds 4 true).getD 4 false = true := by rw [FS 4, if_pos rfl]
      obtain ⟨x0, x1⟩ := kc3 w F.bel
      clear hend FS
      unfold frOfs3
      go_simp
      refine hK _ _ ⟨hsz2, ld1, ld2, (.agg #[.slice Al3 n3 cl3, .slice Ae3 m3 ce3]), cv1, cv2, cv3, pt1, pt2, pt3, rfl, ?_⟩
      exact ⟨F.bel, fun h => F.l1 ((fl 0 (by decide)) ▸ h), fun h => F.c1 ((fl 1 (by decide)) ▸ h), fun h => by rw [(show (L.setIfInBounds 4 true).getD 9 false = L.getD 9 false from (fl 9 (by decide)))]; exact F.p1 ((fl 6 (by decide)) ▸ h), fun h => ⟨((fl 1 (by decide)).trans (F.s1 ((fl 9 (by decide)) ▸ h)).1), ((fl 6 (by decide)).trans (F.s1 ((fl 9 (by decide)) ▸ h)).2)⟩, fun h => F.l2 ((fl 2 (by decide)) ▸ h), fun h => F.c2 ((fl 3 (by decide)) ▸ h), fun h => by rw [(show (L.setIfInBounds 4 true).getD 10 false = L.getD 10 false from (fl 10 (by decide)))]; exact F.p2 ((fl 7 (by decide)) ▸ h), fun h => ⟨((fl 3 (by decide)).trans (F.s2 ((fl 10 (by decide)) ▸ h)).1), ((fl 7 (by decide)).trans (F.s2 ((fl 10 (by decide)) ▸ h)).2)⟩, fun _ => rfl, fun h => F.c3 ((fl 5 (by decide)) ▸ h), fun h => by rw [(show (L.setIfInBounds 4 true).getD 11 false = L.getD 11 false from (fl 11 (by decide)))]; exact F.p3 ((fl 8 (by decide)) ▸ h), fun h => ⟨((fl 5 (by decide)).trans (F.s3 ((fl 11 (by decide)) ▸ h)).1), ((fl 8 (by decide)).trans (F.s3 ((fl 11 (by decide)) ▸ h)).2)⟩, fun h h2 => F.d12 ((fl 6 (by decide)) ▸ h) ((fl 7 (by decide)) ▸ h2), fun h h2 => F.d13 ((fl 6 (by decide)) ▸ h) ((fl 8 (by decide)) ▸ h2), fun h h2 => F.d23 ((fl 7 (by decide)) ▸ h) ((fl 8 (by decide)) ▸ h2)⟩
    | 5, _ =>
      have hlit : opsOfs3[5]? = some ({ dst := some 22, op := Op.call { callee := Callee.value (Operand.func 5), args := #[Operand.tmp 21], argTypes := #[25] }, type := 29, pos := "law.go:180", after := #[{ on := 4, ground := Ground.data }, { on := 3, ground := Ground.chain }], guard := none } : Oper) := rfl
      obtain rfl := Option.some.inj (hlit.symm.trans ho)
      refine wpOp_step hlit (fun K hK => ?_)
      clear ho hlit
      have fl : ∀ j, j ≠ 5 → (L.setIfInBounds 5 true).getD j false = L.getD j false := fun j hj => by rw [FS j, if_neg hj]
      have fi : (L.setIfInBounds 5 true).getD 5 false = true := by rw [FS 5, if_pos rfl]
      have hd : L.getD 4 false = true := hdep ⟨4, .data⟩ (by simp) (by rfl)
      obtain rfl := F.l3 hd
      have hs0 : L.getD 11 false = false := by
        cases hc : L.getD 11 false with
        | false => rfl
        | true => exact absurd ((F.s3 hc).1) (by simpa using hnf)
      have HO := Lib.hid (ko3 w F.bel)
      clear hend FS hdep
      unfold frOfs3
      go_simp
      refine HO.out.mono ?_; rintro e w' ⟨v, rfl, hcv, hb⟩
      refine hK _ _ ⟨hsz2, ld1, ld2, (.agg #[.slice Al3 n3 cl3, .slice Ae3 m3 ce3]), cv1, cv2, v, pt1, pt2, pt3, rfl, ?_⟩
      exact ⟨F.bel.trans (hb.mono F.bel.size), fun h => F.l1 ((fl 0 (by decide)) ▸ h), fun h => (F.c1 ((fl 1 (by decide)) ▸ h)).below hb, fun h => by rw [(show (L.setIfInBounds 5 true).getD 9 false = L.getD 9 false from (fl 9 (by decide)))]; exact (F.p1 ((fl 6 (by decide)) ▸ h)).below hb, fun h => ⟨((fl 1 (by decide)).trans (F.s1 ((fl 9 (by decide)) ▸ h)).1), ((fl 6 (by decide)).trans (F.s1 ((fl 9 (by decide)) ▸ h)).2)⟩, fun h => F.l2 ((fl 2 (by decide)) ▸ h), fun h => (F.c2 ((fl 3 (by decide)) ▸ h)).below hb, fun h => by rw [(show (L.setIfInBounds 5 true).getD 10 false = L.getD 10 false from (fl 10 (by decide)))]; exact (F.p2 ((fl 7 (by decide)) ▸ h)).below hb, fun h => ⟨((fl 3 (by decide)).trans (F.s2 ((fl 10 (by decide)) ▸ h)).1), ((fl 7 (by decide)).trans (F.s2 ((fl 10 (by decide)) ▸ h)).2)⟩, fun h => F.l3 ((fl 4 (by decide)) ▸ h), fun _ => hcv, fun h => by rw [(show (L.setIfInBounds 5 true).getD 11 false = L.getD 11 false from (fl 11 (by decide))), hs0]; have h3 := F.p3 ((fl 8 (by decide)) ▸ h); rw [hs0] at h3; exact h3.empty.below hb, fun h => ⟨fi, ((fl 8 (by decide)).trans (F.s3 ((fl 11 (by decide)) ▸ h)).2)⟩, fun h h2 => F.d12 ((fl 6 (by decide)) ▸ h) ((fl 7 (by decide)) ▸ h2), fun h h2 => F.d13 ((fl 6 (by decide)) ▸ h) ((fl 8 (by decide)) ▸ h2), fun h h2 => F.d23 ((fl 7 (by decide)) ▸ h) ((fl 8 (by decide)) ▸ h2)⟩
    | 6, _ =>
      have hlit : opsOfs3[6]? = some ({ dst := some 7, op := Op.alloc 29, type := 0, pos := "law.go:180", after := #[], guard := none } : Oper) := rfl
      obtain rfl := Option.some.inj (hlit.symm.trans ho)
      refine wpOp_step hlit (fun K hK => ?_)
      clear ho hlit
      have fl : ∀ j, j ≠ 6 → (L.setIfInBounds 6 true).getD j false = L.getD j false := fun j hj => by rw [FS j, if_neg hj]
      have fi : (L.setIfInBounds 6 true).getD 6 false = true := by rw [FS 6, if_pos rfl]
      have hb : Below w.heap.size w (w.alloc (.cells #[.slice none 0 0, .slice none 0 0] 29)) := (Below.refl _ _).alloc (Nat.le_refl _) _
      clear hend FS hdep
      unfold frOfs3
      go_simp
      refine hK _ _ ⟨hsz2, ld1, ld2, ld3, cv1, cv2, cv3, (.pointer (some ⟨w.heap.size, 0, none⟩)), pt2, pt3, rfl, ?_⟩
      exact ⟨F.bel.alloc F.bel.size _, fun h => F.l1 ((fl 0 (by decide)) ▸ h), fun h => (F.c1 ((fl 1 (by decide)) ▸ h)).below hb, fun _ => ⟨w.heap.size, _, _, rfl, F.bel.size, Whole.new _ _ _, fun h => absurd ((F.s1 ((fl 9 (by decide)) ▸ h)).2) (by simpa using hnf)⟩, fun h => ⟨((fl 1 (by decide)).trans (F.s1 ((fl 9 (by decide)) ▸ h)).1), fi⟩, fun h => F.l2 ((fl 2 (by decide)) ▸ h), fun h => (F.c2 ((fl 3 (by decide)) ▸ h)).below hb, fun h => by rw [(show (L.setIfInBounds 6 true).getD 10 false = L.getD 10 false from (fl 10 (by decide)))]; exact (F.p2 ((fl 7 (by decide)) ▸ h)).below hb, fun h => ⟨((fl 3 (by decide)).trans (F.s2 ((fl 10 (by decide)) ▸ h)).1), ((fl 7 (by decide)).trans (F.s2 ((fl 10 (by decide)) ▸ h)).2)⟩, fun h => F.l3 ((fl 4 (by decide)) ▸ h), fun h => (F.c3 ((fl 5 (by decide)) ▸ h)).below hb, fun h => by rw [(show (L.setIfInBounds 6 true).getD 11 false = L.getD 11 false from (fl 11 (by decide)))]; exact (F.p3 ((fl 8 (by decide)) ▸ h)).below hb, fun h => ⟨((fl 5 (by decide)).trans (F.s3 ((fl 11 (by decide)) ▸ h)).1), ((fl 8 (by decide)).trans (F.s3 ((fl 11 (by decide)) ▸ h)).2)⟩, fun _ h => (F.p2 ((fl 7 (by decide)) ▸ h)).ne_new.symm, fun _ h => (F.p3 ((fl 8 (by decide)) ▸ h)).ne_new.symm, fun h h2 => F.d23 ((fl 7 (by decide)) ▸ h) ((fl 8 (by decide)) ▸ h2)⟩
    | 7, _ =>
      have hlit : opsOfs3[7]? = some ({ dst := some 8, op := Op.alloc 29, type := 0, pos := "law.go:180", after := #[], guard := none } : Oper) := rfl
      obtain rfl := Option.some.inj (hlit.symm.trans ho)
      refine wpOp_step hlit (fun K hK => ?_)
      clear ho hlit
      have fl : ∀ j, j ≠ 7 → (L.setIfInBounds 7 true).getD j false = L.getD j false := fun j hj => by rw [FS j, if_neg hj]
      have fi : (L.setIfInBounds 7 true).getD 7 false = true := by rw [FS 7, if_pos rfl]
      have hb : Below w.heap.size w (w.alloc (.cells #[.slice none 0 0, .slice none 0 0] 29)) := (Below.refl _ _).alloc (Nat.le_refl _) _
      clear hend FS hdep
      unfold frOfs3
      go_simp
      refine hK _ _ ⟨hsz2, ld1, ld2, ld3, cv1, cv2, cv3, pt1, (.pointer (some ⟨w.heap.size, 0, none⟩)), pt3, rfl, ?_⟩
      exact ⟨F.bel.alloc F.bel.size _, fun h => F.l1 ((fl 0 (by decide)) ▸ h), fun h => (F.c1 ((fl 1 (by decide)) ▸ h)).below hb, fun h => by rw [(show (L.setIfInBounds 7 true).getD 9 false = L.getD 9 false from (fl 9 (by decide)))]; exact (F.p1 ((fl 6 (by decide)) ▸ h)).below hb, fun h => ⟨((fl 1 (by decide)).trans (F.s1 ((fl 9 (by decide)) ▸ h)).1), ((fl 6 (by decide)).trans (F.s1 ((fl 9 (by decide)) ▸ h)).2)⟩, fun h => F.l2 ((fl 2 (by decide)) ▸ h), fun h => (F.c2 ((fl 3 (by decide)) ▸ h)).below hb, fun _ => ⟨w.heap.size, _, _, rfl, F.bel.size, Whole.new _ _ _, fun h => absurd ((F.s2 ((fl 10 (by decide)) ▸ h)).2) (by simpa using hnf)⟩, fun h => ⟨((fl 3 (by decide)).trans (F.s2 ((fl 10 (by decide)) ▸ h)).1), fi⟩, fun h => F.l3 ((fl 4 (by decide)) ▸ h), fun h => (F.c3 ((fl 5 (by decide)) ▸ h)).below hb, fun h => by rw [(show (L.setIfInBounds 7 true).getD 11 false = L.getD 11 false from (fl 11 (by decide)))]; exact (F.p3 ((fl 8 (by decide)) ▸ h)).below hb, fun h => ⟨((fl 5 (by decide)).trans (F.s3 ((fl 11 (by decide)) ▸ h)).1), ((fl 8 (by decide)).trans (F.s3 ((fl 11 (by decide)) ▸ h)).2)⟩, fun h _ => (F.p1 ((fl 6 (by decide)) ▸ h)).ne_new, fun h h2 => F.d13 ((fl 6 (by decide)) ▸ h) ((fl 8 (by decide)) ▸ h2), fun _ h => (F.p3 ((fl 8 (by decide)) ▸ h)).ne_new.symm⟩
    | 8, _ =>
      have hlit : opsOfs3[8]? = some ({ dst := some 9, op := Op.alloc 29, type := 0, pos := "law.go:180", after := #[], guard := none } : Oper) := rfl
      obtain rfl := Option.some.inj (hlit.symm.trans ho)
      refine wpOp_step hlit (fun K hK => ?_)
      clear ho hlit
      have fl : ∀ j, j ≠ 8 → (L.setIfInBounds 8 true).getD j false = L.getD j false := fun j hj => by rw [FS j, if_neg hj]
      have fi : (L.setIfInBounds 8 true).getD 8 false = true := by rw [FS 8, if_pos rfl]
      have hb : Below w.heap.size w (w.alloc (.cells #[.slice none 0 0, .slice none 0 0] 29)) := (Below.refl _ _).alloc (Nat.le_refl _) _
      clear hend FS hdep
      unfold frOfs3
      go_simp
      refine hK _ _ ⟨hsz2, ld1, ld2, ld3, cv1, cv2, cv3, pt1, pt2, (.pointer (some ⟨w.heap.size, 0, none⟩)), rfl, ?_⟩
      exact ⟨F.bel.alloc F.bel.size _, fun h => F.l1 ((fl 0 (by decide)) ▸ h), fun h => (F.c1 ((fl 1 (by decide)) ▸ h)).below hb, fun h => by rw [(show (L.setIfInBounds 8 true).getD 9 false = L.getD 9 false from (fl 9 (by decide)))]; exact (F.p1 ((fl 6 (by decide)) ▸ h)).below hb, fun h => ⟨((fl 1 (by decide)).trans (F.s1 ((fl 9 (by decide)) ▸ h)).1), ((fl 6 (by decide)).trans (F.s1 ((fl 9 (by decide)) ▸ h)).2)⟩, fun h => F.l2 ((fl 2 (by decide)) ▸ h), fun h => (F.c2 ((fl 3 (by decide)) ▸ h)).below hb, fun h => by rw [(show (L.setIfInBounds 8 true).getD 10 false = L.getD 10 false from (fl 10 (by decide)))]; exact (F.p2 ((fl 7 (by decide)) ▸ h)).below hb, fun h => ⟨((fl 3 (by decide)).trans (F.s2 ((fl 10 (by decide)) ▸ h)).1), ((fl 7 (by decide)).trans (F.s2 ((fl 10 (by decide)) ▸ h)).2)⟩, fun h => F.l3 ((fl 4 (by decide)) ▸ h), fun h => (F.c3 ((fl 5 (by decide)) ▸ h)).below hb, fun _ => ⟨w.heap.size, _, _, rfl, F.bel.size, Whole.new _ _ _, fun h => absurd ((F.s3 ((fl 11 (by decide)) ▸ h)).2) (by simpa using hnf)⟩, fun h => ⟨((fl 5 (by decide)).trans (F.s3 ((fl 11 (by decide)) ▸ h)).1), fi⟩, fun h h2 => F.d12 ((fl 6 (by decide)) ▸ h) ((fl 7 (by decide)) ▸ h2), fun h _ => (F.p1 ((fl 6 (by decide)) ▸ h)).ne_new, fun h _ => (F.p2 ((fl 7 (by decide)) ▸ h)).ne_new⟩
    | 9, _ =>
      have hlit : opsOfs3[9]? = some ({ dst := none, op := Op.store 29 (Operand.tmp 7) (Operand.tmp 18), type := 0, pos := "law.go:180", after := #[{ on := 6, ground := Ground.data }, { on := 1, ground := Ground.data }, { on := 5, ground := Ground.chain }, { on := 0, ground := Ground.phase }, { on := 1, ground := Ground.phase }, { on := 2, ground := Ground.textOnly Departure.lateStores }, { on := 3, ground := Ground.textOnly Departure.lateStoresUnsure }, { on := 4, ground := Ground.textOnly Departure.lateStores }, { on := 5, ground := Ground.textOnly Departure.lateStoresUnsure }, { on := 6, ground := Ground.phase }, { on := 7, ground := Ground.phase }, { on := 8, ground := Ground.phase }], guard := none } : Oper) := rfl
      obtain rfl := Option.some.inj (hlit.symm.trans ho)
      refine wpOp_step hlit (fun K hK => ?_)
      clear ho hlit
      have fl : ∀ j, j ≠ 9 → (L.setIfInBounds 9 true).getD j false = L.getD j false := fun j hj => by rw [FS j, if_neg hj]
      have fi : (L.setIfInBounds 9 true).getD 9 false = true := by rw [FS 9, if_pos rfl]
      have hk1 : L.getD 1 false = true := hdep ⟨1, .data⟩ (by simp) (by rfl)
      have hk2 : L.getD 6 false = true := hdep ⟨6, .data⟩ (by simp) (by rfl)
      obtain ⟨A, c, rfl, hown⟩ := F.c1 hk1
      obtain ⟨g, x, y, rfl, hg, hw, _⟩ := F.p1 hk2
      have z0 : w.cell? ⟨g, 0, none⟩ = some x := hw.cell 0
      have z1 : w.cell? ⟨g, 1, none⟩ = some y := hw.cell 1
      have f0 := hw.free 0
      have f1 := hw.free 1
      clear hend FS hdep
      unfold frOfs3
      go_simp
      refine hK _ _ ⟨hsz2, ld1, ld2, ld3, (.agg #[.slice Al1 n1 cl1, .slice A m1 c]), cv2, cv3, (.pointer (some ⟨g, 0, none⟩)), pt2, pt3, rfl, ?_⟩
      exact ⟨(F.bel.setCell (p := ⟨g, 0, none⟩) hg _).setCell (p := ⟨g, 1, none⟩) hg _, fun h => F.l1 ((fl 0 (by decide)) ▸ h), fun h => ((F.c1 ((fl 1 (by decide)) ▸ h)).put hw 0).put (hw.put 0 _) 1, fun _ => ⟨g, _, _, rfl, hg, (hw.put 0 _).put 1 _, fun _ => rfl⟩, fun _ => ⟨(fl 1 (by decide)).trans hk1, (fl 6 (by decide)).trans hk2⟩, fun h => F.l2 ((fl 2 (by decide)) ▸ h), fun h => ((F.c2 ((fl 3 (by decide)) ▸ h)).put hw 0).put (hw.put 0 _) 1, fun h => by rw [(show (L.setIfInBounds 9 true).getD 10 false = L.getD 10 false from (fl 10 (by decide)))]; have h1 : L.getD 7 false = true := (fl 7 (by decide)) ▸ h; have h2 := hk2; exact ((F.p2 h1).other ((F.d12 h2 h1).symm) 0).other ((F.d12 h2 h1).symm) 1, fun h => ⟨((fl 3 (by decide)).trans (F.s2 ((fl 10 (by decide)) ▸ h)).1), ((fl 7 (by decide)).trans (F.s2 ((fl 10 (by decide)) ▸ h)).2)⟩, fun h => F.l3 ((fl 4 (by decide)) ▸ h), fun h => ((F.c3 ((fl 5 (by decide)) ▸ h)).put hw 0).put (hw.put 0 _) 1, fun h => by rw [(show (L.setIfInBounds 9 true).getD 11 false = L.getD 11 false from (fl 11 (by decide)))]; have h1 : L.getD 8 false = true := (fl 8 (by decide)) ▸ h; have h2 := hk2; exact ((F.p3 h1).other ((F.d13 h2 h1).symm) 0).other ((F.d13 h2 h1).symm) 1, fun h => ⟨((fl 5 (by decide)).trans (F.s3 ((fl 11 (by decide)) ▸ h)).1), ((fl 8 (by decide)).trans (F.s3 ((fl 11 (by decide)) ▸ h)).2)⟩, fun h h2 => F.d12 ((fl 6 (by decide)) ▸ h) ((fl 7 (by decide)) ▸ h2), fun h h2 => F.d13 ((fl 6 (by decide)) ▸ h) ((fl 8 (by decide)) ▸ h2), fun h h2 => F.d23 ((fl 7 (by decide)) ▸ h) ((fl 8 (by decide)) ▸ h2)⟩
    | 10, _ =>
      have hlit : opsOfs3[10]? = some ({ dst := none, op := Op.store 29 (Operand.tmp 8) (Operand.tmp 20), type := 0, pos := "law.go:180", after := #[{ on := 7, ground := Ground.data }, { on := 3, ground := Ground.data }, { on := 9, ground := Ground.chain }, { on := 0, ground := Ground.phase }, { on := 1, ground := Ground.phase }, { on := 2, ground := Ground.phase }, { on := 3, ground := Ground.phase }, { on := 4, ground := Ground.textOnly Departure.lateStores }, { on := 5, ground := Ground.textOnly Departure.lateStoresUnsure }, { on := 6, ground := Ground.phase }, { on := 7, ground := Ground.phase }, { on := 8, ground := Ground.phase }, { on := 9, ground := Ground.phase }], guard := none } : Oper) := rfl
      obtain rfl := Option.some.inj (hlit.symm.trans ho)
      refine wpOp_step hlit (fun K hK => ?_)
      clear ho hlit
      have fl : ∀ j, j ≠ 10 → (L.setIfInBounds 10 true).getD j false = L.getD j false := fun j hj => by rw [FS j, if_neg hj]
      have fi : (L.setIfInBounds 10 true).getD 10 false = true := by rw [FS 10, if_pos rfl]
      have hk1 : L.getD 3 false = true := hdep ⟨3, .data⟩ (by simp) (by rfl)
      have hk2 : L.getD 7 false = true := hdep ⟨7, .data⟩ (by simp) (by rfl)
      obtain ⟨A, c, rfl, hown⟩ := F.c2 hk1
      obtain ⟨g, x, y, rfl, hg, hw, _⟩ := F.p2 hk2
      have z0 : w.cell? ⟨g, 0, none⟩ = some x := hw.cell 0
      have z1 : w.cell? ⟨g, 1, none⟩ = some y := hw.cell 1
      have f0 := hw.free 0
      have f1 := hw.free 1
      clear hend FS hdep
      unfold frOfs3
      go_simp
      refine hK _ _ ⟨hsz2, ld1, ld2, ld3, cv1, (.agg #[.slice Al2 n2 cl2, .slice A m2 c]), cv3, pt1, (.pointer (some ⟨g, 0, none⟩)), pt3, rfl, ?_⟩
      exact ⟨(F.bel.setCell (p := ⟨g, 0, none⟩) hg _).setCell (p := ⟨g, 1, none⟩) hg _, fun h => F.l1 ((fl 0 (by decide)) ▸ h), fun h => ((F.c1 ((fl 1 (by decide)) ▸ h)).put hw 0).put (hw.put 0 _) 1, fun h => by rw [(show (L.setIfInBounds 10 true).getD 9 false = L.getD 9 false from (fl 9 (by decide)))]; have h1 : L.getD 6 false = true := (fl 6 (by decide)) ▸ h; have h2 := hk2; exact ((F.p1 h1).other (F.d12 h1 h2) 0).other (F.d12 h1 h2) 1, fun h => ⟨((fl 1 (by decide)).trans (F.s1 ((fl 9 (by decide)) ▸ h)).1), ((fl 6 (by decide)).trans (F.s1 ((fl 9 (by decide)) ▸ h)).2)⟩, fun h => F.l2 ((fl 2 (by decide)) ▸ h), fun h => ((F.c2 ((fl 3 (by decide)) ▸ h)).put hw 0).put (hw.put 0 _) 1, fun _ => ⟨g, _, _, rfl, hg, (hw.put 0 _).put 1 _, fun _ => rfl⟩, fun _ => ⟨(fl 3 (by decide)).trans hk1, (fl 7 (by decide)).trans hk2⟩, fun h => F.l3 ((fl 4 (by decide)) ▸ h), fun h => ((F.c3 ((fl 5 (by decide)) ▸ h)).put hw 0).put (hw.put 0 _) 1, fun h => by rw [(show (L.setIfInBounds 10 true).getD 11 false = L.getD 11 false from (fl 11 (by decide)))]; have h1 : L.getD 8 false = true := (fl 8 (by decide)) ▸ h; have h2 := hk2; exact ((F.p3 h1).other ((F.d23 h2 h1).symm) 0).other ((F.d23 h2 h1).symm) 1, fun h => ⟨((fl 5 (by decide)).trans (F.s3 ((fl 11 (by decide)) ▸ h)).1), ((fl 8 (by decide)).trans (F.s3 ((fl 11 (by decide)) ▸ h)).2)⟩, fun h h2 => F.d12 ((fl 6 (by decide)) ▸ h) ((fl 7 (by decide)) ▸ h2), fun h h2 => F.d13 ((fl 6 (by decide)) ▸ h) ((fl 8 (by decide)) ▸ h2), fun h h2 => F.d23 ((fl 7 (by decide)) ▸ h) ((fl 8 (by decide)) ▸ h2)⟩
    | 11, _ =>
      have hlit : opsOfs3[11]? = some ({ dst := none, op := Op.store 29 (Operand.tmp 9) (Operand.tmp 22), type := 0, pos := "law.go:180", after := #[{ on := 8, ground := Ground.data }, { on := 5, ground := Ground.data }, { on := 10, ground := Ground.chain }, { on := 0, ground := Ground.phase }, { on := 1, ground := Ground.phase }, { on := 2, ground := Ground.phase }, { on := 3, ground := Ground.phase }, { on := 4, ground := Ground.phase }, { on := 5, ground := Ground.phase }, { on := 6, ground := Ground.phase }, { on := 7, ground := Ground.phase }, { on := 8, ground := Ground.phase }, { on := 9, ground := Ground.phase }, { on := 10, ground := Ground.phase }], guard := none } : Oper) := rfl
      obtain rfl := Option.some.inj (hlit.symm.trans ho)
      refine wpOp_step hlit (fun K hK => ?_)
      clear ho hlit
      have fl : ∀ j, j ≠ 11 → (L.setIfInBounds 11 true).getD j false = L.getD j false := fun j hj => by rw [FS j, if_neg hj]
      have fi : (L.setIfInBounds 11 true).getD 11 false = true := by rw [FS 11, if_pos rfl]
      have hk1 : L.getD 5 false = true := hdep ⟨5, .data⟩ (by simp) (by rfl)
      have hk2 : L.getD 8 false = true := hdep ⟨8, .data⟩ (by simp) (by rfl)
      obtain ⟨A, c, rfl, hown⟩ := F.c3 hk1
      obtain ⟨g, x, y, rfl, hg, hw, _⟩ := F.p3 hk2
      have z0 : w.cell? ⟨g, 0, none⟩ = some x := hw.cell 0
      have z1 : w.cell? ⟨g, 1, none⟩ = some y := hw.cell 1
      have f0 := hw.free 0
      have f1 := hw.free 1
      clear hend FS hdep
      unfold frOfs3
      go_simp
      refine hK _ _ ⟨hsz2, ld1, ld2, ld3, cv1, cv2, (.agg #[.slice Al3 n3 cl3, .slice A m3 c]), pt1, pt2, (.pointer (some ⟨g, 0, none⟩)), rfl, ?_⟩
      exact ⟨(F.bel.setCell (p := ⟨g, 0, none⟩) hg _).setCell (p := ⟨g, 1, none⟩) hg _, fun h => F.l1 ((fl 0 (by decide)) ▸ h), fun h => ((F.c1 ((fl 1 (by decide)) ▸ h)).put hw 0).put (hw.put 0 _) 1, fun h => by rw [(show (L.setIfInBounds 11 true).getD 9 false = L.getD 9 false from (fl 9 (by decide)))]; have h1 : L.getD 6 false = true := (fl 6 (by decide)) ▸ h; have h2 := hk2; exact ((F.p1 h1).other (F.d13 h1 h2) 0).other (F.d13 h1 h2) 1, fun h => ⟨((fl 1 (by decide)).trans (F.s1 ((fl 9 (by decide)) ▸ h)).1), ((fl 6 (by decide)).trans (F.s1 ((fl 9 (by decide)) ▸ h)).2)⟩, fun h => F.l2 ((fl 2 (by decide)) ▸ h), fun h => ((F.c2 ((fl 3 (by decide)) ▸ h)).put hw 0).put (hw.put 0 _) 1, fun h => by rw [(show (L.setIfInBounds 11 true).getD 10 false = L.getD 10 false from (fl 10 (by decide)))]; have h1 : L.getD 7 false = true := (fl 7 (by decide)) ▸ h; have h2 := hk2; exact ((F.p2 h1).other (F.d23 h1 h2) 0).other (F.d23 h1 h2) 1, fun h => ⟨((fl 3 (by decide)).trans (F.s2 ((fl 10 (by decide)) ▸ h)).1), ((fl 7 (by decide)).trans (F.s2 ((fl 10 (by decide)) ▸ h)).2)⟩, fun h => F.l3 ((fl 4 (by decide)) ▸ h), fun h => ((F.c3 ((fl 5 (by decide)) ▸ h)).put hw 0).put (hw.put 0 _) 1, fun _ => ⟨g, _, _, rfl, hg, (hw.put 0 _).put 1 _, fun _ => rfl⟩, fun _ => ⟨(fl 5 (by decide)).trans hk1, (fl 8 (by decide)).trans hk2⟩, fun h h2 => F.d12 ((fl 6 (by decide)) ▸ h) ((fl 7 (by decide)) ▸ h2), fun h h2 => F.d13 ((fl 6 (by decide)) ▸ h) ((fl 8 (by decide)) ▸ h2), fun h h2 => F.d23 ((fl 7 (by decide)) ▸ h) ((fl 8 (by decide)) ▸ h2)⟩
end Go.Proofs.YtgolcogigpnbeaaDoor
