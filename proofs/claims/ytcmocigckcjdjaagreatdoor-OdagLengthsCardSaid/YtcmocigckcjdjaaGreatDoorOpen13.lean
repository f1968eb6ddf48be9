/- odag: open: its contract. -/
import Derived.Test.YtcmocigckcjdjaaGreatDoorNextF13
import Derived.Test.YtcmocigckcjdjaaGreatDoorShelfRows
import Derived.Deep.DeepCutAuto
import Derived.Deep.RegionHeld3
import Derived.Deep.QuietTactic
import Derived.BigQuiet
import Derived.WalkSmall
namespace Go.Proofs.YtcmocigckcjdjaaGreatDoor
open Go.RowKit
attribute [local go_sem ↓] app_alias

set_option maxRecDepth 100000 in
set_option maxHeartbeats 1000000 in
/-- slices.ContainsFunc, where the first number is one of the next row's. -/
theorem contains_open {W : World} {v uo : Value} {T R : List Int} {g opb ib i n c : Nat} (hv : SeqV W v T) (hT : ∃ b t, T = b :: t ∧ b ∈ R) (hTl : T.length ≤ 1000000) (hr : Rising R) (hl : R.length ≤ 1000000)
    (ho : W.cell? ⟨opb, 0, none⟩ = some (.slice (some ⟨g, 0, none⟩) n c)) (hi : W.cell? ⟨ib, 0, none⟩ = some (.int .i64 i)) (hin : i + 1 < n) (hn : n ≤ 8) (hu : W.cell? ⟨g, i + 1, none⟩ = some uo) (hR : SeqC W uo R) :
    Calls Tryz.prog 69 #[v, .func (.func 70) #[] #[.pointer (some ⟨opb, 0, none⟩), .pointer (some ⟨ib, 0, none⟩)]] W fun e w' => e = .returned (.bool true) ∧ ∃ q, w' = W.drewN q := by
  obtain ⟨b, t, rfl, hb⟩ := hT
  have HAS := has_any hR.1 hr hl b
  rw [show R.contains b = true by simpa using hb] at HAS
  have HH := Lib.hid HAS
  obtain ⟨_, A1, c1, rfl, _⟩ := hR
  obtain ⟨lr, hlr⟩ : ∃ x, R.length = x := ⟨_, rfl⟩
  rw [hlr] at hu HH
  obtain ⟨A, cv, rfl⟩ := IntsV.form hv
  obtain ⟨bv, off, rfl, cb⟩ := hv.pos (i := 0) (by simp)
  obtain ⟨m, hm⟩ : ∃ m, (b :: t).length = m := ⟨_, rfl⟩
  have hm0 : 0 < m := by rw [← hm]; simp
  rw [hm] at hTl ⊢
  simp only [List.getD_cons_zero] at cb
  have cb' : W.cell? ⟨bv, off, none⟩ = some (.int .i64 b) := cb
  have i1 : (i : Int) + 1 < n := by omega
  have i2 : (0 : Int) ≤ i := by omega
  have i3 : (n : Int) ≤ 8 := by omega
  have i4 : (0 : Int) < m := by omega
  have t1 : decide ((0 : Int) < m) = true := decide_eq_true i4
  have t2 : decide (0 < m) = true := decide_eq_true hm0
  clear HAS hlr hl hr hb hv hm
  have KO : Calls Tryz.prog 70 #[.int .i64 b, .pointer (some ⟨opb, 0, none⟩), .pointer (some ⟨ib, 0, none⟩)] W fun e w' => e = .returned (.bool true) ∧ ∃ q, w' = W.drewN q := by
    clear cb cb' i4 t1 t2 hm0
    go_enter Tryz.func70, Tryz.ntmps70
    go_wp2_with fail
    refine HH.out.mono ?_; rintro e w1 ⟨rfl, q, hw1⟩
    have HW := Lib.hid hw1
    clear hw1
    go_wp2_with fail
    go_ret
    exact ⟨rfl, q, HW.out⟩
  have HKO := Lib.hid KO
  have KI : Calls Tryz.prog 90 #[.slice (some ⟨bv, off, none⟩) m cv, .func (.func 70) #[] #[.pointer (some ⟨opb, 0, none⟩), .pointer (some ⟨ib, 0, none⟩)]] W fun e w' => e = .returned (.int .i64 0) ∧ ∃ q, w' = W.drewN q := by
    clear ho hi hu KO
    go_enter Tryz.func90, Tryz.ntmps90
    go_wp2_with fail
    refine wp_loop_rounds 1 ?_
    rw [rounds_succ]
    go_wp2_with fail
    refine HKO.out.mono ?_; rintro e w1 ⟨rfl, q, hw1⟩
    have HW := Lib.hid hw1
    clear hw1
    go_wp2_with fail
    go_ret
    exact ⟨rfl, q, HW.out⟩
  have HKI := Lib.hid KI
  clear ho hi hu KO KI cb cb'
  go_enter Tryz.func69, Tryz.ntmps69
  go_wp2_with fail
  refine HKI.out.mono ?_; rintro e w1 ⟨rfl, q, hw1⟩
  have HW := Lib.hid hw1
  clear hw1
  go_wp2_with fail
  go_ret
  exact ⟨rfl, q, HW.out⟩

theorem cell_belowW {w w' : World} {p : Addr} {v : Value} (h : w.cell? p = some v) (hb : Below w.heap.size w w') : w'.cell? p = some v :=
  (hb.cell (p := p) (World.block_lt_of_cell? _ _ h)).trans h
/-- Where the open rows may lie. -/
def OpnS (Wo w : World) (g : Nat) (X : Nat → Prop) (b : Nat) : Prop := ((b < Wo.heap.size ∨ w.heap.size ≤ b) ∧ b ≠ g) ∧ ¬ X b
/-- The open rows, those of D as they are to be, in block g; nothing of them lies in X. -/
structure OpnM (Wo w : World) (g n : Nat) (C : List (List Int)) (D X : Nat → Prop) (wr : World) : Prop where
  blk : ∃ cs : Array Value, Whole wr g 44 cs ∧ ∀ j, j < n → ∃ u, cs[j]? = some u ∧ (D j → Firm (OpnS Wo w g X) wr fun V => SeqC V u (rowP C j))
  bel : Below w.heap.size w wr
  at_ : w.heap.size ≤ g
section
variable {Wo w wr w' : World} {g n : Nat} {C : List (List Int)} {D D' X X' : Nat → Prop}
theorem OpnM.grown (h : OpnM Wo w g n C D X wr) {row : Option Nat} (hg : wr.grownBy w' row) (hr : ∀ b, row = some b → X b ∧ b ≠ g ∧ w.heap.size ≤ b) : OpnM Wo w g n C D X w' := by
  obtain ⟨cs, h1, h2⟩ := h.blk
  refine ⟨⟨cs, h1.grown hg (fun e => (hr g e.symm).2.1 rfl), fun j hj => ?_⟩, h.bel.grown hg h.bel.size (fun k hk => (hr k hk).2.2), h.at_⟩
  obtain ⟨u, k1, k2⟩ := h2 j hj
  exact ⟨u, k1, fun hd => (k2 hd).next (fun b hb hl => hg.block b hl (fun e => hb.2 (hr b e.symm).1)) hg.size⟩
theorem OpnM.below (h : OpnM Wo w g n C D X wr) (hb : Below wr.heap.size wr w') : OpnM Wo w g n C D X w' := h.grown (row := none) ⟨hb.os, hb.tape, hb.output, hb.size, fun i hi _ => hb.block i hi⟩ (fun b hb => by cases hb)
theorem OpnM.excl (h : OpnM Wo w g n C D X wr) (hX : ∀ b, b < wr.heap.size → X' b → X b) : OpnM Wo w g n C D X' wr := by
  obtain ⟨cs, h1, h2⟩ := h.blk
  refine ⟨⟨cs, h1, fun j hj => ?_⟩, h.bel, h.at_⟩
  obtain ⟨u, k1, k2⟩ := h2 j hj
  exact ⟨u, k1, fun hd => (k2 hd).wider (fun b hl hb => ⟨hb.1, fun hx => hb.2 (hX b hl hx)⟩)⟩
theorem OpnM.box (h : OpnM Wo w g n C D X wr) {b : Nat} (hx : X b) (hg : b ≠ g) (hb : w.heap.size ≤ b) (u : Value) : OpnM Wo w g n C D X (wr.setCell ⟨b, 0, none⟩ u) := by
  have hpg : Below b wr (wr.setCell ⟨b, 0, none⟩ u) := (Below.refl b wr).setCell (Nat.le_refl _) _
  exact h.grown (row := some b) ⟨hpg.os, hpg.tape, hpg.output, hpg.size, fun k _ hk => Below.heap_setCell wr _ _ k (fun e => hk (by rw [e]))⟩ (fun r hr => by obtain rfl := Option.some.inj hr; exact ⟨hx, hg, hb⟩)
theorem OpnM.put (h : OpnM Wo w g n C D X wr) {i : Nat} {x : Value} (hx : D' i → Firm (OpnS Wo w g X) wr fun V => SeqC V x (rowP C i)) (hD : ∀ j, j ≠ i → D' j → D j) : OpnM Wo w g n C D' X (wr.setCell ⟨g, i, none⟩ x) := by
  obtain ⟨cs, h1, h2⟩ := h.blk
  have hno : ¬ OpnS Wo w g X g := fun hb => hb.1.2 rfl
  refine ⟨⟨_, h1.put i x, fun j hj => ?_⟩, h.bel.setCell h.at_ _, h.at_⟩
  obtain ⟨u, k1, k2⟩ := h2 j hj
  rw [Array.getElem?_setIfInBounds]
  by_cases hij : i = j
  · subst hij
    have hlt : i < cs.size := (Array.getElem?_eq_some_iff.1 k1).1
    exact ⟨x, by rw [if_pos rfl, if_pos hlt], fun hd => (hx hd).set hno x⟩
  · exact ⟨u, by rw [if_neg hij]; exact k1, fun hd => (k2 (hD j (fun e => hij e.symm) hd)).set hno x⟩
theorem OpnM.lists (h : OpnM Wo w g n C (fun _ => True) X wr) (hn : 1 ≤ n) (c : Nat) : Firm (fun b => b < Wo.heap.size ∨ w.heap.size ≤ b) wr fun V => ListsV V (.slice (some ⟨g, 0, none⟩) n c) (rowsP n C) := by
  intro V hV hs
  obtain ⟨cs, h1, h2⟩ := h.blk
  have hl : (rowsP n C).length = n := by simp [rowsP]
  have hg : Whole V g 44 cs := (hV g (Or.inr h.at_) h1.lt).trans h1
  refine ⟨(List.range n).map fun j => (cs[j]?).getD .nilIface, by simp [rowsP], fun i u L hu hL => ?_, Or.inr ⟨by omega, g, 0, c, by rw [hl], fun i hi => ?_⟩⟩
  · have hin : i < n := by
      have := (List.getElem?_eq_some_iff.1 hu).1
      simpa using this
    obtain ⟨u', k1, k2⟩ := h2 i hin
    simp [hin, k1] at hu
    simp [rowsP, hin] at hL
    rw [← hu, ← hL]
    exact k2 trivial V (fun b hb hl => hV b hb.1.1 hl) hs
  · rw [hl] at hi
    obtain ⟨u', k1, _⟩ := h2 i hi
    rw [Nat.zero_add, hg.cell i, k1]
    simp [hi, k1]
end
theorem rowsOpen_any {Wo w : World} {v : Value} {n : Nat} {C : List (List Int)} (h : ListsV Wo v (rowsP n C)) (hcells : ∀ b, b < Wo.heap.size → w.heap[b]? = Wo.heap[b]?) (hs : Wo.heap.size ≤ w.heap.size) (hn : 1 ≤ n) (hn8 : n ≤ 8) :
    Calls Tryz.prog 63 #[v] w fun e w' => ∃ g c, e = .returned (.slice (some ⟨g, 0, none⟩) n c) ∧ OpnM Wo w g n C (fun _ => True) (fun _ => False) w' := by
  have cv : ∀ {p : Addr} {x : Value}, Wo.cell? p = some x → w.cell? p = some x := fun {p x} hp => (World.cell?_of_block (hcells p.block (World.block_lt_of_cell? _ _ hp))).trans hp
  obtain ⟨us, hl, hr, h⟩ := h
  have hl2 : (rowsP n C).length = n := by simp [rowsP]
  rcases h with ⟨e, _⟩ | ⟨_, b, off, c, rfl, hc⟩
  · rw [e] at hl2; simp at hl2; omega
  · rw [hl2] at hl hc ⊢
    obtain ⟨i0, hi0, hz0, hz1, hz2⟩ := info_parts Tryz.infoRow
    have hone : ∀ u ∈ us, u.oneCell' = true := fun u hu => by
      obtain ⟨i, hi, rfl⟩ := List.getElem_of_mem hu
      obtain ⟨_, A, c, e, _⟩ := hr i us[i] (rowP C i) (List.getElem?_eq_getElem hi) (by simp [rowsP, show i < n by omega])
      rw [e]; rfl
    refine (show Calls Tryz.prog 63 _ _ _ from AnyE.slices_Clone Tryz.cloneR i0 (.slice none 0 0) 1 24 hi0 hz0 hz1 hz2 rfl (by omega) (fun w => Tryz.sizeOf44 w) b off n c us w (by omega) (by unfold maxLen; omega) (by omega) (fun j u hu => by
      have hj : j < us.length := (List.getElem?_eq_some_iff.1 hu).1
      exact cv (by rw [hc j (by omega), hu])) hone).mono ?_
    rintro e w1 ⟨v1, rfl, hown, hne, hb1⟩
    have hown0 := hown
    rcases hown.2 with ⟨hnil, _⟩ | ⟨g, cap, cur, rfl, hbase, hh, hncap, hcapm, _⟩
    · exact absurd hnil hne
    · refine ⟨g, cap, rfl, ⟨cur, hh, fun j hj => ?_⟩, hb1, hbase⟩
      have hju : j < us.length := by omega
      have hcell := hown0.cellAt j (by omega)
      have hcur : cur[j]? = some us[j] := by
        have h1 : w1.cell? ⟨g, j, none⟩ = cur[j]? := Whole.cell (t := 44) hh j
        rw [← h1, hcell]
        exact List.getElem?_eq_getElem hju
      have hS := hr j us[j] (rowP C j) (List.getElem?_eq_getElem hju) (by simp [rowsP, hj])
      refine ⟨us[j], hcur, fun _ X hX hXs => ?_⟩
      refine hS.firm X (fun b hb _ => ?_) (by have := hb1.size; omega)
      rw [hX b ⟨⟨Or.inl hb, by omega⟩, fun h => h⟩ (by have := hb1.size; omega), hb1.block b (by omega), hcells b hb]

theorem OpnM.done {Wo w wr : World} {g n i ib : Nat} {C : List (List Int)} {x : Value} (h : OpnM Wo w g n C (fun j => j ≠ i) (fun b => b = ib ∨ x.ownBlock = some b) wr) (hc : wr.cell? ⟨g, i, none⟩ = some x) {m : Nat}
    (ho : wr.ownsRow w.heap.size 3 1 x m (intCells (rowP C i))) (hne : x.ownBlock ≠ some ib) : OpnM Wo w g n C (fun _ => True) (fun b => b = ib) wr := by
  have h' := h.excl (X' := fun b => b = ib) (fun b _ hb => Or.inl hb)
  obtain ⟨cs, h1, h2⟩ := h'.blk
  refine ⟨⟨cs, h1, fun j hj => ?_⟩, h.bel, h.at_⟩
  obtain ⟨u, k1, k2⟩ := h2 j hj
  by_cases hij : j = i
  · subst hij
    have hx : cs[j]? = some x := by rw [← h1.cell j]; exact hc
    refine ⟨x, hx, fun _ => own_firm ho fun b hb => ⟨⟨Or.inr (ho.lt b hb).1, fun e => ?_⟩, fun e => hne (by rw [hb, e])⟩⟩
    exact own_ne ho h1 (by decide) (by rw [hb, e])
  · exact ⟨u, k1, fun _ => k2 hij⟩
/-- Between two rows. -/
def OpnAt (Wo w : World) (opb g n c : Nat) (C : List (List Int)) (ib : Nat) (z : Int) (wr : World) : Prop :=
  OpnM Wo w g n C (fun _ => True) (fun b => b = ib) wr ∧ Whole wr ib 3 #[.int .i64 z] ∧ w.heap.size ≤ ib ∧ ib ≠ g ∧ Whole wr opb 22 #[.slice (some ⟨g, 0, none⟩) n c]
/-- A row in the making. -/
def OpnRow (Wo w : World) (opb g n c : Nat) (C : List (List Int)) (i ib k : Nat) (wr : World) : Prop :=
  ∃ x, OpnM Wo w g n C (fun j => j ≠ i) (fun b => b = ib ∨ x.ownBlock = some b) wr ∧ wr.cell? ⟨g, i, none⟩ = some x ∧ wr.ownsRow w.heap.size 3 1 x k (intCells ((rowP C i).take k)) ∧ x.ownBlock ≠ some ib ∧
    Whole wr ib 3 #[.int .i64 (i : Nat)] ∧ w.heap.size ≤ ib ∧ ib ≠ g ∧ Whole wr opb 22 #[.slice (some ⟨g, 0, none⟩) n c]
section
variable {Wo w wr w' : World} {opb g n c i ib k : Nat} {C : List (List Int)}
theorem OpnRow.below (h : OpnRow Wo w opb g n c C i ib k wr) (hb : Below wr.heap.size wr w') : OpnRow Wo w opb g n c C i ib k w' := by
  obtain ⟨x, h1, h2, h3, h4, h5, h6, h7, h8⟩ := h
  exact ⟨x, h1.below hb, cell_belowW h2 hb, own_below h3 hb (Nat.le_refl _), h4, h5.below hb h5.lt, h6, h7, h8.below hb h8.lt⟩
/-- A row is begun. -/
theorem OpnAt.start (h : OpnAt Wo w opb g n c C ib (i : Nat) wr) (hi : i < n) (hog : opb ≠ g) : OpnRow Wo w opb g n c C i ib 0 (wr.setCell ⟨g, i, none⟩ (.slice none 0 0)) := by
  obtain ⟨h1, h2, h3, h4, h5⟩ := h
  obtain ⟨cs, hcs, hrow⟩ := h1.blk
  obtain ⟨u, hu, _⟩ := hrow i hi
  have hlt : i < cs.size := (Array.getElem?_eq_some_iff.1 hu).1
  refine ⟨.slice none 0 0, ((h1.put (D' := fun j => j ≠ i) (i := i) (x := .slice none 0 0) (fun h => absurd rfl h) (fun j _ _ => trivial)).excl (fun b _ hb => ?_)), by rw [(hcs.put i (.slice none 0 0)).cell i]; simp [hlt], World.ownsRow_nil _ _ _ _, by simp [Value.ownBlock], h2.other h4 _, h3, h4, h5.other hog _⟩
  rcases hb with hb | hb
  · exact hb
  · simp [Value.ownBlock] at hb
end
set_option maxRecDepth 100000 in
set_option maxHeartbeats 4000000 in
theorem open_any {Wo w : World} {vo : Value} {n : Nat} {C : List (List Int)} (h : OdagC Wo vo n C) (hcells : ∀ b, b < Wo.heap.size → w.heap[b]? = Wo.heap[b]?) (hs : Wo.heap.size ≤ w.heap.size) (hn : 1 ≤ n) (hn8 : n ≤ 8) (hC : C.length ≤ 100000) :
    Calls Tryz.prog 38 #[vo] w fun e w' => ∃ u, e = .returned u ∧ Below w.heap.size w w' ∧ Firm (fun b => b < Wo.heap.size ∨ w.heap.size ≤ b) w' fun X => ListsV X u (rowsP n C) := by
  have hw0 := h.heap hcells hs
  have HLEN := Lib.hid (fun W (hW : Below w.heap.size w W) => len_any (hw0.below hW (Nat.le_refl _)))
  have CV : Hid (∀ X : World, w.heap.size ≤ X.heap.size → (∀ b, b < w.heap.size → X.heap[b]? = w.heap[b]?) → ∀ (p : Addr) (x : Value), Wo.cell? p = some x → X.cell? p = some x) := Lib.hid (fun X _ hX p x hp => by
    have hl := World.block_lt_of_cell? _ _ hp
    exact (World.cell?_of_block (a := p) ((hX p.block (Nat.lt_of_lt_of_le hl hs)).trans (hcells p.block hl))).trans hp)
  have HO := Lib.hid hw0
  have HH := Lib.hid h; have HCE := Lib.hid hcells; have HSZ := Lib.hid hs
  obtain ⟨ob, vr, vk, rfl, hw, hr, hkk⟩ := h
  have CL := Lib.hid (rowsOpen_any hr hcells hs hn hn8)
  have C0 := Lib.hid (hw.cell 0); have C1 := Lib.hid (hw.cell 1)
  have c0 : w.cell? ⟨ob, 0, none⟩ = some vr := CV.out w (Nat.le_refl _) (fun _ _ => rfl) _ _ C0.out
  obtain ⟨Ar, cr, rfl⟩ := hr.form
  obtain ⟨Ak, ck, rfl⟩ := hkk.form
  have hkl : (allLinksP n C).length = n - 1 := by simp [allLinksP]
  rw [rowsP_len] at C0 c0 CL
  rw [hkl] at C1
  have HR := Lib.hid hr; have HK := Lib.hid hkk
  have i1 : (1 : Int) ≤ n := by omega
  have i2 : (n : Int) ≤ 8 := by omega
  clear hw hr hkk hw0 hcells hs hkl
  go_enter Tryz.func38, Tryz.ntmps38
  go_wp2_with fail
  refine CL.out.mono ?_; rintro e w1 ⟨g, cg, rfl, hm⟩
  obtain ⟨w2, hw2⟩ : ∃ X, w1.alloc (.cells #[.slice (some ⟨g, 0, none⟩) n cg] 22) = X := ⟨_, rfl⟩
  have hb2 : Below w1.heap.size w1 w2 := by rw [← hw2]; exact (Below.refl _ _).alloc (Nat.le_refl _) _
  have hop : Whole w2 w1.heap.size 22 #[.slice (some ⟨g, 0, none⟩) n cg] := by rw [← hw2]; exact Whole.new _ _ _
  obtain ⟨opb, hopb⟩ : ∃ x, w1.heap.size = x := ⟨_, rfl⟩
  have hm2 := hm.below hb2
  have hgl : g < w1.heap.size := by obtain ⟨cs, h1, _⟩ := hm.blk; exact h1.lt
  have hog : opb ≠ g := by omega
  rw [hopb] at hop
  obtain ⟨w3, hw3⟩ : ∃ X, w2.alloc (.cells #[.int .i64 ((n : Int) - 2)] 3) = X := ⟨_, rfl⟩
  have hb3 : Below w2.heap.size w2 w3 := by rw [← hw3]; exact (Below.refl _ _).alloc (Nat.le_refl _) _
  have hib : Whole w3 w2.heap.size 3 #[.int .i64 ((n : Int) - 2)] := by rw [← hw3]; exact Whole.new _ _ _
  have h2s := hm2.bel.size
  have hgl2 : g < w2.heap.size := by have := hb2.size; omega
  have hat : OpnAt Wo w opb g n cg C w2.heap.size ((n : Int) - 2) w3 := ⟨(hm2.excl (X' := fun b => b = w2.heap.size) (fun b hb e => by omega)).below hb3, hib, h2s, by omega, hop.below hb3 hop.lt⟩
  have HAT := Lib.hid hat
  have HLN := Lib.hid (HLEN.out _ hm2.bel)
  have HW2 := Lib.hid hw2; have HW3 := Lib.hid hw3; have HOPB := Lib.hid hopb; have HOG := Lib.hid hog
  clear hm c0 CL hb2 hop hm2 hgl hog hb3 hib h2s hgl2 hat hw2 hw3 hopb
  go_upto_region 2 with fail
  rw [HW2.out, HOPB.out]
  go_wp2_with fail
  refine HLN.out.mono ?_; rintro e w9 ⟨rfl, hw9⟩; obtain rfl := hw9.symm
  go_wp2_with fail
  rw [HW3.out]
  go_loopg [4] (n - 1) (fun gh x wr => ∃ r ib z, r + 1 ≤ n ∧ r = gh ∧ x = .pointer (some ⟨ib, 0, none⟩) ∧ z = (r : Int) - 1 ∧ OpnAt Wo w opb g n cg C ib z wr)
  case atStart => exact ⟨n - 1, _, _, by omega, rfl, rfl, by omega, HAT.out⟩
  case round =>
    obtain ⟨r, ib, z, hr, rfl, rfl, hz, hat⟩ := hrel
    have cop : wr.cell? ⟨opb, 0, none⟩ = some (.slice (some ⟨g, 0, none⟩) n cg) := hat.2.2.2.2.cell 0
    have cib : wr.cell? ⟨ib, 0, none⟩ = some (.int .i64 z) := hat.2.1.cell 0
    rcases Nat.eq_zero_or_pos r with h0 | h0
    · have t1 : decide (0 ≤ z) = false := decide_eq_false (by omega)
      have HF := Lib.hid (hat.1.lists hn cg); have HB := Lib.hid hat.1.bel
      clear hat hz
      go_wp2_with fail
      go_ret
      exact ⟨_, rfl, HB.out, HF.out⟩
    · obtain ⟨i, rfl⟩ : ∃ i, r = i + 1 := ⟨r - 1, by omega⟩
      obtain rfl : z = (i : Nat) := by omega
      have t1 : decide ((0 : Int) ≤ (i : Nat)) = true := decide_eq_true (by omega)
      obtain ⟨cs, hcs, hrow⟩ := hat.1.blk
      obtain ⟨ui, hui, _⟩ := hrow i (by omega)
      have cgi : wr.cell? ⟨g, i, none⟩ = some ui := by rw [hcs.cell i]; exact hui
      have fgi := hcs.free i
      have hrw := hat.start (by omega) HOG.out
      have i3 : (i : Int) < n := by omega
      have i4 : (0 : Int) ≤ i := by omega
      obtain ⟨wA, hwA⟩ : ∃ X, wr.setCell ⟨g, i, none⟩ (.slice none 0 0) = X := ⟨_, rfl⟩
      rw [hwA] at hrw
      have HRW := Lib.hid hrw; have HWA := Lib.hid hwA; have HI := Lib.hid hr
      obtain ⟨x0, m0, _, _, _, b0, _, _, o0⟩ := id hrw
      have hk := m0.bel
      obtain ⟨rb, roff, uu, e1, cru, hru⟩ := HR.out.pos (i := i) (by rw [rowsP_len]; omega)
      rw [show (rowsP n C)[i]'(by rw [rowsP_len]; omega) = rowP C i by simp [rowsP]] at hru
      subst e1
      obtain ⟨_, Au, cu, rfl, _⟩ := id hru
      obtain ⟨lr, hlr⟩ : ∃ x, (rowP C i).length = x := ⟨_, rfl⟩
      have hll := row_len C i
      rw [hlr] at cru hll
      have a0 : wA.cell? ⟨ob, 0, none⟩ = some _ := CV.out wA hk.size hk.block _ _ C0.out
      have a1 : wA.cell? ⟨rb, roff + i, none⟩ = some _ := CV.out wA hk.size hk.block _ _ cru
      have a2 : wA.cell? ⟨ib, 0, none⟩ = some (.int .i64 (i : Nat)) := b0.cell 0
      have HRU := Lib.hid hru; have HLR := Lib.hid hlr; have HLL := Lib.hid hll
      clear hat hz hcs hrow hui hrw hwA m0 b0 o0 hk hru hlr hll cru h0
      go_upto_region 6 with fail
      rw [HWA.out]
      clear cop cib cgi fgi
      go_wp2_with fail
      go_quiet (fail)
      have HRWN := Lib.hid (HRW.out.below (below_drewN' (Below.refl _ _) nq))
      clear a0 a1 a2
      go_wp2_with fail
      go_loopg [30] lr (fun gh y wr => ∃ k, k ≤ lr ∧ gh = lr - k ∧ y = .int .i64 (k : Nat) ∧ OpnRow Wo w opb g n cg C i ib k wr)
      case atStart => exact ⟨0, Nat.zero_le _, rfl, rfl, HRWN.out⟩
      case round =>
        obtain ⟨k, hk, rfl, rfl, hrw⟩ := hrel
        by_cases hlt : k < lr
        · obtain ⟨x, m0, cgx, ox, hxb, b0, hibs, hibg, o0⟩ := hrw
          have hkR : k < (rowP C i).length := by rw [HLR.out]; exact hlt
          obtain ⟨ub, uoff, e2, cua⟩ := HRU.out.1.pos hkR
          subst e2
          obtain ⟨a, ha⟩ : ∃ a, (rowP C i).getD k 0 = a := ⟨_, rfl⟩
          rw [ha] at cua
          have haR : a ∈ rowP C i := by rw [← ha]; simp [List.getD, hkR]
          have htk : (rowP C i).take (k + 1) = (rowP C i).take k ++ [a] := by
            rw [List.take_succ_eq_append_getElem hkR, ← ha]
            simp [List.getD, hkR]
          -- what it is linked to
          obtain ⟨kb, koff, ku, e3, cku, hku⟩ := HK.out.pos (i := i) (by simp [allLinksP]; have := HI.out; omega)
          rw [show (allLinksP n C)[i]'(by simp [allLinksP]; have := HI.out; omega) = linksP C i by simp [allLinksP]] at hku
          subst e3
          obtain ⟨Al, cl, rfl⟩ := hku.form
          have hlen : (linksP C i).length = lr := by unfold linksP; rw [List.length_map, HLR.out]
          have hll2 : (linksP C i)[k]? = some (linkP C i a) := by
            unfold linksP
            rw [List.getElem?_map, List.getElem?_eq_getElem hkR]
            have : (rowP C i)[k] = a := by rw [← ha]; simp [List.getD, hkR]
            rw [this]; rfl
          obtain ⟨hkl, hkg⟩ := List.getElem?_eq_some_iff.1 hll2
          obtain ⟨lb, loff, lu, e4, clu, hlu⟩ := hku.pos hkl
          rw [hkg] at hlu
          rw [hlen] at cku
          subst e4
          obtain ⟨_, A5, c5, rfl, _⟩ := id hlu
          -- the next open row
          obtain ⟨cs, hcs, hrow⟩ := m0.blk
          obtain ⟨un, hun, hfun⟩ := hrow (i + 1) (by have := HI.out; omega)
          have hsn := hfun (by omega)
          have cun : wr.cell? ⟨g, i + 1, none⟩ = some un := by rw [hcs.cell (i + 1)]; exact hun
          have hbl := m0.bel
          have cop : wr.cell? ⟨opb, 0, none⟩ = some (.slice (some ⟨g, 0, none⟩) n cg) := o0.cell 0
          have cib : wr.cell? ⟨ib, 0, none⟩ = some (.int .i64 (i : Nat)) := b0.cell 0
          have hT : ∃ b t, linkP C i a = b :: t ∧ b ∈ rowP C (i + 1) := by
            obtain ⟨b, hb⟩ := link_some haR
            cases hT : linkP C i a with
            | nil => rw [hT] at hb; simp at hb
            | cons b' t => exact ⟨b', t, rfl, link_row (by rw [hT]; exact List.mem_cons_self ..)⟩
          have hll3 := link_len C i a
          have hll4 := row_len C (i + 1)
          have KC : Hid (∀ X : World, Below wr.heap.size wr X → Calls Tryz.prog 69 #[.slice A5 (linkP C i a).length c5, .func (.func 70) #[] #[.pointer (some ⟨opb, 0, none⟩), .pointer (some ⟨ib, 0, none⟩)]] X fun e w' => e = .returned (.bool true) ∧ ∃ q, w' = X.drewN q) := Lib.hid (fun X hX => by
            have hX2 := hbl.trans (hX.mono hbl.size)
            have hluX : SeqC X (.slice A5 (linkP C i a).length c5) (linkP C i a) := hlu.firm X (fun b hb _ => by rw [hX2.block b (Nat.lt_of_lt_of_le hb HSZ.out)]; exact HCE.out b hb) (Nat.le_trans HSZ.out hX2.size)
            exact contains_open hluX.1 hT (by omega) (row_rising C (i + 1)) (by omega) (cell_belowW cop hX) (cell_belowW cib hX) (by have := HI.out; omega) hn8 (cell_belowW cun hX) (hsn.below hX).here)
          obtain ⟨lt, hltn⟩ : ∃ y, (linkP C i a).length = y := ⟨_, rfl⟩
          rw [hltn] at KC clu
          have CWX : Hid (∀ X : World, Below wr.heap.size wr X → ∀ (p : Addr) (y : Value), Wo.cell? p = some y → X.cell? p = some y) := Lib.hid (fun X hX p y hp => by
            have hX2 := hbl.trans (hX.mono hbl.size)
            exact CV.out X hX2.size hX2.block p y hp)
          have KS := Lib.hid (fun X (hX : Below wr.heap.size wr X) => And.intro hX (And.intro (CWX.out X hX _ _ C1.out) (And.intro (CWX.out X hX _ _ cku) (And.intro (CWX.out X hX _ _ clu) (And.intro (cell_belowW cop hX) (cell_belowW cib hX))))))
          have cua' : wr.cell? ⟨ub, uoff + k, none⟩ = some (.int .i64 a) := CWX.out wr (Below.refl _ _) _ _ cua
          have HROW := Lib.hid (show OpnRow Wo w opb g n cg C i ib k wr from ⟨x, m0, cgx, ox, hxb, b0, hibs, hibg, o0⟩)
          have HTK := Lib.hid htk; have HLT := Lib.hid hlt
          have t2 : decide (k < lr) = true := decide_eq_true hlt
          have j1 : (k : Int) < lr := by omega
          have j2 : (0 : Int) ≤ k := by omega
          have j3 : (i : Int) < (n - 1 : Nat) := by have := HI.out; omega
          obtain ⟨n1, hn1⟩ : ∃ y, n - 1 = y := ⟨_, rfl⟩
          rw [hn1] at j3 KS
          clear m0 cgx ox hxb b0 o0 hkR ha haR htk hku hlen hll2 hkl hkg hlu clu cku cua hcs hrow hun hfun hsn cun hbl hT hll3 hll4 hltn hlt hn1
          go_upto_region 9 with fail
          clear cua'
          go_region_held3 (fun X => Below wr.heap.size wr X ∧ X.cell? ⟨ob, 1, none⟩ = some (.slice (some ⟨kb, koff, none⟩) n1 ck) ∧ X.cell? ⟨kb, koff + i, none⟩ = some (.slice (some ⟨lb, loff, none⟩) lr cl) ∧ X.cell? ⟨lb, loff + k, none⟩ = some (.slice A5 lt c5) ∧ X.cell? ⟨opb, 0, none⟩ = some (.slice (some ⟨g, 0, none⟩) n cg) ∧ X.cell? ⟨ib, 0, none⟩ = some (.int .i64 (i : Nat)))
            (exact KS.out _ (by first | assumption | exact below_drewN' (Below.refl _ _) _))
            ((go_at_call 69; refine (KC.out _ (by first | assumption | exact below_drewN' (Below.refl _ _) 1)).mono ?_; rintro e' wR ⟨rfl, qR, hwR⟩; have hbR : Below wr.heap.size wr wR := by rw [hwR]; exact below_drewN' (below_drewN' (Below.refl _ _) 1) qR))
          obtain ⟨V, hV⟩ : ∃ V, wr.drewN (1 + qR) = V := ⟨_, rfl⟩
          have hrV : OpnRow Wo w opb g n cg C i ib k V := by rw [← hV]; exact HROW.out.below (below_drewN' (Below.refl _ _) _)
          rw [hV]
          clear hwR hbR hV
          obtain ⟨x, m0, cgx, ox, hxb, b0, hibs, hibg, o0⟩ := hrV
          obtain ⟨Ax, cx, rfl⟩ := own_form ox
          obtain ⟨cs, hcs, _⟩ := m0.blk
          have fgx := hcs.free i
          have cop : V.cell? ⟨opb, 0, none⟩ = some (.slice (some ⟨g, 0, none⟩) n cg) := o0.cell 0
          have cib : V.cell? ⟨ib, 0, none⟩ = some (.int .i64 (i : Nat)) := b0.cell 0
          have hk6 : k ≤ 1000000 := by have := HLL.out; have := HLT.out; omega
          obtain ⟨B2, e2, w6, ha2, hown2, hgrow2⟩ := app_num m0.bel.size ox hk6 a
          have hown3 : w6.ownsRow w.heap.size 3 1 (.slice B2 (k + 1) e2) (k + 1) (intCells ((rowP C i).take (k + 1))) := by rw [HTK.out, intCells_app]; exact hown2
          -- the new world
          have m1 := m0.below (show Below V.heap.size V V.drew from below_drewN' (Below.refl _ _) 1)
          have hgx : ∀ b, (Value.slice Ax k cx).ownBlock = some b → b ≠ g ∧ w.heap.size ≤ b := fun b hb => ⟨fun e => own_ne ox hcs (by decide) (by rw [hb, e]), (ox.lt b hb).1⟩
          have m2 := m1.grown hgrow2.1 (fun b hb => ⟨Or.inr hb, (hgx b hb).1, (hgx b hb).2⟩)
          have hb2 : ∀ b, (Value.slice B2 (k + 1) e2).ownBlock = some b → (Value.slice Ax k cx).ownBlock = some b ∨ V.heap.size ≤ b := fun b hb => by
            rcases hgrow2.2 with h | ⟨g', h, h'⟩
            · exact Or.inl (by rw [← h]; exact hb)
            · rw [h] at hb
              obtain rfl := Option.some.inj hb
              exact Or.inr h'
          have hibl := b0.lt
          have hxb2 : (Value.slice B2 (k + 1) e2).ownBlock ≠ some ib := fun e => by
            rcases hb2 ib e with h | h
            · exact hxb h
            · omega
          have hsz6 : V.heap.size ≤ w6.heap.size := hgrow2.1.size
          have hn6 : ∀ q, q < V.heap.size → (Value.slice Ax k cx).ownBlock ≠ some q → w6.heap[q]? = V.heap[q]? := fun q hq hne => hgrow2.1.block q hq (fun e => hne e.symm)
          have hg6 := hcs.lt
          have hgx' : (Value.slice Ax k cx).ownBlock ≠ some g := fun e => (hgx g e).1 rfl
          have hox' : (Value.slice Ax k cx).ownBlock ≠ some opb := own_ne ox o0 (by decide)
          have cgx6 : w6.cell? ⟨g, i, none⟩ = some (.slice Ax k cx) := (World.cell?_of_block (a := ⟨g, i, none⟩) (hn6 g hg6 hgx')).trans cgx
          have fgx6 : w6.frozen? ⟨g, i, none⟩ = false := (World.frozen?_of_block (a := ⟨g, i, none⟩) (hn6 g hg6 hgx')).trans fgx
          have cop6 : w6.cell? ⟨opb, 0, none⟩ = some (.slice (some ⟨g, 0, none⟩) n cg) := (World.cell?_of_block (a := ⟨opb, 0, none⟩) (hn6 opb o0.lt hox')).trans cop
          have cib6 : w6.cell? ⟨ib, 0, none⟩ = some (.int .i64 (i : Nat)) := (World.cell?_of_block (a := ⟨ib, 0, none⟩) (hn6 ib hibl hxb)).trans cib
          have hcs6 : Whole w6 g 44 cs := (hn6 g hg6 hgx').trans hcs
          have hcsi : i < cs.size := by
            rw [hcs.cell i] at cgx
            exact (Array.getElem?_eq_some_iff.1 cgx).1
          have hnew : OpnRow Wo w opb g n cg C i ib (k + 1) (w6.setCell ⟨g, i, none⟩ (.slice B2 (k + 1) e2)) := by
            have m3 := m2.put (D' := fun j => j ≠ i) (i := i) (x := .slice B2 (k + 1) e2) (fun h => absurd rfl h) (fun j _ h => h)
            refine ⟨.slice B2 (k + 1) e2, ?_, by rw [(hcs6.put i (.slice B2 (k + 1) e2)).cell i]; simp [hcsi], own_put hown3 (own_ne hown3 hcs6 (by decide)) _, hxb2, ?_, hibs, hibg, ?_⟩
            · have m4 : OpnM Wo w g n C (fun j => j ≠ i) (fun b => b = ib ∨ (Value.slice Ax k cx).ownBlock = some b ∨ V.heap.size ≤ b) w6 := by
                have m1' := m1.excl (X' := fun b => b = ib ∨ (Value.slice Ax k cx).ownBlock = some b ∨ V.heap.size ≤ b) (fun b hb h => by
                  rcases h with h | h | h
                  · exact Or.inl h
                  · exact Or.inr h
                  · have : V.drew.heap.size = V.heap.size := rfl
                    omega)
                exact m1'.grown hgrow2.1 (fun b hb => ⟨Or.inr (Or.inl hb), (hgx b hb).1, (hgx b hb).2⟩)
              have m5 := m4.put (D' := fun j => j ≠ i) (i := i) (x := .slice B2 (k + 1) e2) (fun h => absurd rfl h) (fun j _ h => h)
              exact m5.excl (fun b _ hb => by
                rcases hb with hb | hb
                · exact Or.inl hb
                · exact Or.inr (hb2 b hb))
            · exact (show Whole w6 ib 3 _ from (hn6 ib hibl hxb).trans b0).other hibg _
            · exact (show Whole w6 opb 22 _ from (hn6 opb o0.lt hox').trans o0).other HOG.out _
          have HNEW := Lib.hid hnew
          have hA0 : Below V.heap.size V (V.alloc (.cells #[.int .i64 a] 3)).drew := ((Below.refl _ _).alloc (Nat.le_refl _) _).drew
          have Y1 := Lib.hid (show (V.alloc (.cells #[.int .i64 a] 3)).drew.cell? ⟨g, i, none⟩ = some (.slice Ax k cx) from cell_belowW cgx hA0)
          have Y2 := Lib.hid (show (V.alloc (.cells #[.int .i64 a] 3)).drew.cell? ⟨opb, 0, none⟩ = some (.slice (some ⟨g, 0, none⟩) n cg) from cell_belowW cop hA0)
          have Y3 := Lib.hid (show (V.alloc (.cells #[.int .i64 a] 3)).drew.cell? ⟨ib, 0, none⟩ = some (.int .i64 (i : Nat)) from cell_belowW cib hA0)
          have Z1 := Lib.hid cgx6; have Z2 := Lib.hid cop6; have Z3 := Lib.hid cib6; have Z4 := Lib.hid fgx6
          clear m0 m1 m2 ox hcs hown2 hown3 hgrow2 hb2 hgx hxb hxb2 hn6 hnew hA0 cgx6 cop6 cib6 fgx6 hcs6 hcsi hsz6 hgx' hox' b0 o0 fgx
          go_wp2_with fail
          refine region_reads [0,1,2,3,4,5,6] 7 8 9 10 (by kernel_rfl) (by kernel_rfl) (fun w' => w'.cell? ⟨g, i, none⟩ = some (.slice Ax k cx) ∧ w'.cell? ⟨opb, 0, none⟩ = some (.slice (some ⟨g, 0, none⟩) n cg) ∧ w'.cell? ⟨ib, 0, none⟩ = some (.int .i64 (i : Nat))) ⟨cgx, cop, cib⟩ (by kernel_rfl) (by kernel_rfl) (by kernel_rfl) (by kernel_rfl) (by kernel_rfl) (by kernel_rfl) (by kernel_rfl) rfl rfl rfl rfl rfl rfl rfl rfl (by kernel_rfl) ?_
          refine ⟨_, ?v1_0, rfl, Or.inl ⟨by rfl, ?hy1_0⟩, fun _ _ _ h => h, ?rest1_0⟩
          case hy1_0 => (intro w' hSw; obtain ⟨s1, s2, s3⟩ := hSw; go_simp; try with_reducible rfl)
          try dsimp only [Act.put]
          refine ⟨_, ?v1_1, rfl, Or.inl ⟨by rfl, ?hy1_1⟩, fun _ _ _ h => h, ?rest1_1⟩
          case hy1_1 => (intro w' hSw; obtain ⟨s1, s2, s3⟩ := hSw; go_simp; try with_reducible rfl)
          try dsimp only [Act.put]
          refine ⟨_, ?v1_2, rfl, Or.inl ⟨by rfl, ?hy1_2⟩, fun _ _ _ h => h, ?rest1_2⟩
          case hy1_2 => (intro w' hSw; obtain ⟨s1, s2, s3⟩ := hSw; go_simp; try with_reducible rfl)
          try dsimp only [Act.put]
          refine ⟨_, ?v1_3, rfl, Or.inl ⟨by rfl, ?hy1_3⟩, fun _ _ _ h => h, ?rest1_3⟩
          case hy1_3 => (intro w' hSw; obtain ⟨s1, s2, s3⟩ := hSw; go_simp; try with_reducible rfl)
          try dsimp only [Act.put]
          refine ⟨_, ?v1_4, rfl, Or.inl ⟨by rfl, ?hy1_4⟩, fun _ _ _ h => h, ?rest1_4⟩
          case hy1_4 => (intro w' hSw; obtain ⟨s1, s2, s3⟩ := hSw; go_simp; try with_reducible rfl)
          try dsimp only [Act.put]
          refine ⟨_, ?v1_5, rfl, Or.inl ⟨by rfl, ?hy1_5⟩, fun _ _ _ h => h, ?rest1_5⟩
          case hy1_5 => (intro w' hSw; obtain ⟨s1, s2, s3⟩ := hSw; go_simp; try with_reducible rfl)
          try dsimp only [Act.put]
          refine ⟨_, ?v1_6, rfl, Or.inl ⟨by rfl, ?hy1_6⟩, fun _ _ _ h => h, ?rest1_6⟩
          case hy1_6 => (intro w' hSw; obtain ⟨s1, s2, s3⟩ := hSw; go_simp; try with_reducible rfl)
          try dsimp only [Act.put]
          refine reads_nil ?_
          refine wp_bare (fun K1 hK1 => ?_)
          go_simp
          refine hK1.out _ _ ⟨⟨Y1.out, Y2.out, Y3.out⟩, ?_⟩
          refine wp_bare (fun K2 hK2 => ?_)
          go_simp
          refine hK2.out _ _ ⟨⟨Z1.out, Z2.out, Z3.out⟩, ?_⟩
          refine wp_bare (fun K3 hK3 => ?_)
          go_simp
          refine hK3.out _ _ ?_
          have cgx6 := Z1.out
          have fgx6 := Z4.out
          refine wp_bare (fun K4 hK4 => ?_)
          go_simp
          refine hK4.out _ _ ?_
          clear cgx cop cib ha2 cgx6 fgx6
          go_wp2_with fail
          go_roundg (lr - (k + 1))
          case rel => exact ⟨k + 1, HLT.out, rfl, by go_num, HNEW.out⟩
          case measure => have := HLT.out; omega
        · obtain rfl : k = lr := by omega
          have t2 : decide (k < k) = false := by simp
          obtain ⟨x, m0, cgx, ox, hxb, b0, hibs, hibg, o0⟩ := hrw
          rw [List.take_of_length_le (by rw [HLR.out]; exact Nat.le_refl _)] at ox
          have hd := m0.done cgx ox hxb
          have cib : wr.cell? ⟨ib, 0, none⟩ = some (.int .i64 (i : Nat)) := b0.cell 0
          obtain ⟨cs, hcs, _⟩ := hd.blk
          obtain ⟨V, hV⟩ : ∃ V, wr.alloc (.cells #[.int .i64 (i : Nat)] 3) = V := ⟨_, rfl⟩
          have hbV : Below wr.heap.size wr V := by rw [← hV]; exact (Below.refl _ _).alloc (Nat.le_refl _) _
          have hwV : Whole V wr.heap.size 3 #[.int .i64 (i : Nat)] := by rw [← hV]; exact Whole.new _ _ _
          obtain ⟨ib2, hib2⟩ : ∃ y, wr.heap.size = y := ⟨_, rfl⟩
          have hwss := hd.bel.size
          have hgl := hcs.lt
          have hol := o0.lt
          have m7 := (hd.excl (X' := fun b => b = ib2) (fun b hb e => by omega)).below hbV
          rw [hib2] at hwV
          have hne2 : ib2 ≠ g := by omega
          have m8 := m7.box (b := ib2) rfl hne2 (by omega) (.int .i64 ((i : Int) - 1))
          have hw8 : Whole (V.setCell ⟨ib2, 0, none⟩ (.int .i64 ((i : Int) - 1))) ib2 3 #[.int .i64 ((i : Int) - 1)] := hwV.put 0 (.int .i64 ((i : Int) - 1))
          have ho8 : Whole (V.setCell ⟨ib2, 0, none⟩ (.int .i64 ((i : Int) - 1))) opb 22 #[.slice (some ⟨g, 0, none⟩) n cg] := (o0.below hbV hol).other (show opb ≠ ib2 by omega) _
          have HAT2 := Lib.hid (show OpnAt Wo w opb g n cg C ib2 ((i : Int) - 1) (V.setCell ⟨ib2, 0, none⟩ (.int .i64 ((i : Int) - 1))) from ⟨m8, hw8, by omega, hne2, ho8⟩)
          have HV := Lib.hid hV; have HIB2 := Lib.hid hib2
          have cv2 := hwV.cell 0
          have fv2 := hwV.free 0
          clear m0 cgx ox hxb b0 o0 hd hcs hV hbV hwV hwss hgl hol m7 m8 hw8 ho8 hlt hib2
          go_upto_region 4 with fail
          rw [HV.out, HIB2.out]
          clear cib
          go_wp2_with fail
          go_roundg i
          case rel => exact ⟨i, ib2, _, by have := HI.out; omega, rfl, rfl, rfl, HAT2.out⟩
          case measure => omega
end Go.Proofs.YtcmocigckcjdjaaGreatDoor
