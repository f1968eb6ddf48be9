/- slices.Clone of bytes, wire.Pack: contracts. -/
import Derived.Test.YtkpoeahnlldpgaaDoorPut
import Derived.Lib.SliceRun
import Derived.Lib.SlBytesConst
import Derived.ArgAppend
namespace Go.Proofs.YtkpoeahnlldpgaaDoor
open Go.RowKit

theorem cells_at {w : World} {A : Option Addr} {c : Nat} {l : List UInt8} {ad : Addr} (h : BytesV w (.slice A l.length c) l) (hA : A = some ad) : ∀ j u, (Lib.byteCells l)[j]? = some u → w.cell? (ad.add j) = some u := by
  intro j u hu
  have hj : j < l.length := by
    have := (List.getElem?_eq_some_iff.1 hu).1
    simpa [Lib.byteCells] using this
  obtain ⟨b, off, e, hc⟩ := h.at_ hj
  rw [hA] at e
  injection e with e
  subst e
  have e2 : (⟨b, off, none⟩ : Addr).add j = ⟨b, off + j, none⟩ := by unfold Addr.add; split <;> simp_all
  rw [e2, hc]
  rw [← hu]
  simp [Lib.byteCells, hj]
theorem own_mono {w : World} {base base' e size n : Nat} {v : Value} {xs : List Value} (h : w.ownsRow base e size v n xs) (hb : base' ≤ base) : w.ownsRow base' e size v n xs := by
  refine ⟨h.1, ?_⟩
  rcases h.2 with h1 | ⟨g, cap, cur, rfl, hg, r⟩
  · exact Or.inl h1
  · exact Or.inr ⟨g, cap, cur, rfl, Nat.le_trans hb hg, r⟩
theorem byteCells_one (l : List UInt8) : ∀ u ∈ Lib.byteCells l, u.oneCell' = true := by
  intro u hu
  simp [Lib.byteCells] at hu
  obtain ⟨a, _, rfl⟩ := hu
  rfl

set_option maxRecDepth 100000 in
theorem clone_any (l : List UInt8) (v : Value) (w : World) (h : BytesV w v l) (hl : l.length ≤ 1000000000) :
    Calls Tryd.prog 37 #[v] w fun e w' => ∃ v', e = .returned v' ∧ w'.ownsRow w.heap.size 5 1 v' l.length (Lib.byteCells l) ∧ Below w.heap.size w w' := by
  obtain ⟨i0, hi, hz0, hz1, hz2⟩ := info_parts Tryd.infoU8
  obtain ⟨A, c, rfl, _⟩ := h.form
  have H := Lib.hid h
  have hq := fun W : World => Lib.run_eql_slice_nil (P := Tryd.prog) W 27 5 A l.length c 0 0 Tryd.underlying27
  clear h
  rcases A with _ | ad
  · have hl0 : l = [] := by
      rcases Nat.eq_zero_or_pos l.length with h0 | h0
      · exact List.eq_nil_of_length_eq_zero h0
      · obtain ⟨b, off, e, _⟩ := H.out.at_ h0
        cases e
    subst hl0
    have hq0 := fun W : World => Lib.run_eql_slice_nil (P := Tryd.prog) W 27 5 none 0 c 0 0 Tryd.underlying27
    clear hq
    go_enter Tryd.func37, Tryd.ntmps37
    go_wp2
    go_ret
    exact ⟨_, rfl, World.ownsRow_nil _ _ _ _, Below.refl _ _⟩
  · go_enter Tryd.func37, Tryd.ntmps37
    have ho : (w.alloc (.cells #[] 5)).ownsRow w.heap.size 5 1 (.slice (some ⟨w.heap.size, 0, none⟩) 0 0) 0 [] := World.ownsRow_lit w #[] 0 (Nat.le_refl _) (by unfold maxLen; omega) rfl
    have hc : ∀ j u, (Lib.byteCells l)[j]? = some u → (w.alloc (.cells #[] 5)).cell? (ad.add j) = some u := fun j u hu =>
      cells_at (H.out.below ((Below.refl _ _).alloc (Nat.le_refl _) _) (Nat.le_refl _)) rfl j u hu
    have HC := Lib.hid hc
    clear hc
    go_wp2_with (at_builtin; refine wpList_append_own_at _ rfl _ _ 27 rfl w.heap.size 5 i0 (.int .u8 0) 1 1 Tryd.underlying27 hi hz0 hz1 hz2 rfl (by decide) _ 0 [] rfl ho ad l.length c (Lib.byteCells l) rfl (by rw [Lib.byteCells_length, Nat.mul_one]) HC.out (byteCells_one l) (by unfold maxLen; omega) (by omega) (by simp) ?_)
    intro v' w1 hown hgrow _ _
    have hb : Below w.heap.size w w1 := ((Below.refl _ _).alloc (Nat.le_refl _) _).grown hgrow (by simp) (fun k hk => by simp [Value.ownBlock] at hk; omega)
    have HO := Lib.hid hown; have HB := Lib.hid hb
    clear hown hgrow hb
    go_wp2
    go_ret
    exact ⟨_, rfl, HO.out, HB.out⟩

theorem put4 (base k n : Nat) (N : Int) (hN : N = n) (v : Value) (xs : List Value) (w : World) (hown : w.ownsRow base 5 1 v k xs) (hk : k ≤ 100000000) (hbase : base ≤ w.heap.size) (hn : n < 18446744073709551616) :
    Calls Tryd.prog 42 #[v, .int .u64 N, .int .i64 4] w fun e w' => ∃ v', e = .returned v' ∧ w'.ownsRow base 5 1 v' (k + 4) (xs ++ Lib.byteCells (be 4 n)) ∧ Grew w v w' v' := by
  subst hN
  exact put_any base 4 k n v xs w hown hk hbase (by omega) hn
theorem put8 (base k n : Nat) (N : Int) (hN : N = n) (v : Value) (xs : List Value) (w : World) (hown : w.ownsRow base 5 1 v k xs) (hk : k ≤ 100000000) (hbase : base ≤ w.heap.size) (hn : n < 18446744073709551616) :
    Calls Tryd.prog 42 #[v, .int .u64 N, .int .i64 8] w fun e w' => ∃ v', e = .returned v' ∧ w'.ownsRow base 5 1 v' (k + 8) (xs ++ Lib.byteCells (be 8 n)) ∧ Grew w v w' v' := by
  subst hN
  exact put_any base 8 k n v xs w hown hk hbase (by omega) hn

/-- A list of bytes behind a row of the call's own. -/
theorem wpList_appBytes {P : Program} (w : World) {ops : Array Oper} {rest : List Oper} {o : Oper} {a : Act} {Q : Exit → Act → World → Prop} (hgd : o.guard = none) (s x : Operand) (t : TypeId)
    (ho : o.op = .call { callee := .builtin .append, args := #[s, x], argTypes := #[t, t] })
    (base : Nat) (i : TypeInfo) (ht : P.underlying t = some (.slice 5)) (hi : P.info? 5 = some i) (hz : i.zero = some (.int .u8 0))
    (hsize : i.size = 1) (hby : i.bytes = 1) (v : Value) (n : Nat) (xs : List Value) (hs : a.eval s = v) (hown : w.ownsRow base 5 1 v n xs)
    (u : Value) (l : List UInt8) (hx : a.eval x = u) (hu : BytesV w u l) (hn : n + l.length ≤ 1000000000) (hbase : base ≤ w.heap.size)
    (h : ∀ (A' : Option Addr) (c' : Nat) w', w'.ownsRow base 5 1 (.slice A' (n + l.length) c') (n + l.length) (xs ++ Lib.byteCells l) → Grew w v w' (.slice A' (n + l.length) c') → wpList P ops Q rest (a.put o.dst (.slice A' (n + l.length) c')) w') :
    wpList P ops Q (o :: rest) a w := by
  obtain ⟨A, c, rfl, _⟩ := hu.form
  rcases A with _ | ad
  · have hl0 : l = [] := by
      rcases Nat.eq_zero_or_pos l.length with h0 | h0
      · exact List.eq_nil_of_length_eq_zero h0
      · obtain ⟨b, off, e, _⟩ := hu.at_ h0
        cases e
    subst hl0
    obtain ⟨A', c', rfl⟩ := own_form hown
    refine wpList_plain hgd fun K hK => ?_
    have hr : (Builtin.append_ #[t, t] o.type #[.slice A' n c', .slice none 0 c]).run P w = .ok (.slice A' n c') w := by
      rcases hown.2 with ⟨h1, h2⟩ | ⟨g, cap, cur, h1, _, _, hnc, _⟩
      · injection h1 with e1 e2 e3
        subst e1 e2 e3
        simp [Builtin.append_, run_underlying ht, sizeOf, typeInfo, hi, Builtin.lenOf, Builtin.firstCells]
      · injection h1 with e1 e2 e3
        subst e1 e3
        simp [Builtin.append_, run_underlying ht, sizeOf, typeInfo, hi, Builtin.lenOf, Builtin.firstCells, hnc, storeCells]
    unfold Oper.wp execOp
    simp only [ho, resolve, invoke, builtin, Sem.run_bind, Sem.run_pure, Result.andThen_ok, List.map_toArray, List.map_cons, List.map_nil, hs, hx, List.length_nil, hr]
    exact hK _ _ (h A' c' w (by simpa [Lib.byteCells] using hown) (Grew.refl _ _))
  · refine wpList_append_own_at _ hgd s x t ho base 5 i (.int .u8 0) 1 1 ht hi hz hsize hby rfl (by decide) v n xs hs hown ad l.length c (Lib.byteCells l) hx (by rw [Lib.byteCells_length, Nat.mul_one]) (cells_at hu rfl) (byteCells_one l) (by unfold maxLen; omega) (by omega) hbase ?_
    intro v' w' hown' hgrow _ hloc
    obtain ⟨A', c', rfl⟩ := own_form hown'
    refine h A' c' w' hown' ⟨hgrow, ?_⟩
    rcases hloc with hl | hl
    · exact Or.inl hl
    · exact Or.inr ⟨_, hl, Nat.le_refl _⟩

/-- The parcel of a body. -/
def phead (k : UInt8) (l : List UInt8) : List UInt8 := [70, 87, 82, 75] ++ [k] ++ be 4 l.length ++ l
def parcel (k : UInt8) (l : List UInt8) : List UInt8 := phead k l ++ be 4 (asum (phead k l))
theorem phead_len (k : UInt8) (l : List UInt8) : (phead k l).length = l.length + 9 := by simp [phead, be_len]; omega
theorem parcel_len (k : UInt8) (l : List UInt8) : (parcel k l).length = l.length + 13 := by simp [parcel, phead_len, be_len]
theorem byteCells_app (a b : List UInt8) : Lib.byteCells (a ++ b) = Lib.byteCells a ++ Lib.byteCells b := by simp [Lib.byteCells]

set_option maxRecDepth 100000 in
set_option maxHeartbeats 1000000 in
theorem pack_any (k : UInt8) (l : List UInt8) (v : Value) (w : World) (h : BytesV w v l) (hl : l.length ≤ 90000000) :
    Calls Tryd.prog 30 #[.int .u8 (k.toNat : Int), v] w fun e w' => ∃ v', e = .returned v' ∧ w'.ownsRow w.heap.size 5 1 v' (l.length + 13) (Lib.byteCells (parcel k l)) ∧ Below w.heap.size w w' := by
  obtain ⟨i0, hi, hz0, hz1, hz2⟩ := info_parts Tryd.infoU8
  obtain ⟨A, c, rfl, _⟩ := h.form
  have H := Lib.hid h
  clear h
  have kc := fun (w : World) (C : Array Value) (n c : Nat) => Lib.run_convert_bytes_const (P := Tryd.prog) w 27 5 C n c Tryd.underlying27 Tryd.underlying5
  go_enter Tryd.func30, Tryd.ntmps30
  go_wp2_with (at_builtin; refine wpList_append_arg _ rfl _ _ 27 rfl 5 i0 (.int .u8 0) 1 1 Tryd.underlying27 hi hz0 hz1 hz2 rfl (by decide) w.heap.size 0 4 4 (Lib.byteCells [70, 87, 82, 75]) rfl rfl ?h1 ⟨w.heap.size + 1, 0, none⟩ 1 1 [.int .u8 (k.toNat : Int)] rfl rfl ?h2 ?h3 (fun h => absurd h (by decide)) (by unfold maxLen; omega) (by decide) (fun h => absurd h (by decide)) ?_)
  case h1 =>
    intro j u hj
    have hh : ((w.alloc (.cells #[.int .u8 70, .int .u8 87, .int .u8 82, .int .u8 75] 5 (4, 5))).alloc (.cells #[.int .u8 (k.toNat : Int)] 5)).heap[w.heap.size]? = some (.cells #[.int .u8 70, .int .u8 87, .int .u8 82, .int .u8 75] 5 (4, 5)) := heap_alloc2_old w _ _
    rw [Nat.zero_add, cell_of_row _ _ j _ _ _ hh, ← hj]
    match j with
    | 0 => rfl
    | 1 => rfl
    | 2 => rfl
    | 3 => rfl
    | n + 4 => rfl
  case h2 =>
    intro j u hj
    match j, hj with
    | 0, hj => simp at hj; subst hj; simp [Addr.add]
  case h3 => intro u hu; simp at hu; subst hu; rfl
  intro v1 w1 hown1 hgrow1
  obtain ⟨A1, c1, rfl⟩ := own_form hown1
  have ho1 : w1.ownsRow w.heap.size 5 1 (.slice A1 5 c1) 5 (Lib.byteCells ([70, 87, 82, 75] ++ [k])) := by
    rw [byteCells_app]
    exact own_mono hown1 (by first | omega | (simp; omega) | simp)
  have hb1 : Below w.heap.size w w1 := (((Below.refl _ _).alloc (Nat.le_refl _) _).alloc (by simp) _).grown hgrow1 (by simp; omega) (fun k hk => by cases hk)
  have P1 := Lib.hid (put4 w.heap.size 5 l.length l.length rfl _ _ w1 ho1 (by omega) hb1.size (by omega))
  have HO1 := Lib.hid ho1; have HB1 := Lib.hid hb1
  clear hown1 hgrow1 ho1 hb1 kc
  go_wp2_with fail
  refine P1.out.mono ?_; rintro e w2 ⟨v2, rfl, hown2, hgrow2⟩
  obtain ⟨A2, c2, rfl⟩ := own_form hown2
  have hb2 : Below w.heap.size w w2 := hgrow2.below HO1.out HB1.out (Nat.le_refl _) HB1.out.size
  have HO2 := Lib.hid hown2; have HB2 := Lib.hid hb2
  have hs2 := hb2.size
  clear hown2 hgrow2 hb2
  go_wp2_with (at_builtin; refine wpList_appBytes _ rfl _ _ 27 rfl w.heap.size i0 Tryd.underlying27 hi hz0 hz1 hz2 _ 9 _ rfl HO2.out _ l rfl (H.out.below HB2.out (Nat.le_refl _)) (by omega) hs2 ?_)
  intro A3 c3 w3 hown3 hgrow3
  have ho3 : w3.ownsRow w.heap.size 5 1 (.slice A3 (9 + l.length) c3) (9 + l.length) (Lib.byteCells (phead k l)) := by
    unfold phead
    rw [byteCells_app, byteCells_app]
    exact hown3
  have hb3 : Below w.heap.size w w3 := hgrow3.below HO2.out HB2.out (Nat.le_refl _) hs2
  have SU := Lib.hid (sum_any (phead k l) _ w3 (own_bytesV ho3) (by rw [phead_len]; omega))
  have ha := asum_lt (phead k l)
  obtain ⟨s, hs⟩ : ∃ s, asum (phead k l) = s := ⟨_, rfl⟩
  rw [hs] at ha SU
  have P3 := Lib.hid (put4 w.heap.size (9 + l.length) s s rfl _ _ w3 ho3 (by omega) hb3.size (by omega))
  have HO3 := Lib.hid ho3; have HB3 := Lib.hid hb3; have HS := Lib.hid hs
  clear hown3 hgrow3 ho3 hb3 hs
  go_wp2_with fail
  refine SU.out.mono ?_; rintro e w4 ⟨rfl, rfl⟩
  go_wp2_with fail
  refine P3.out.mono ?_; rintro e w5 ⟨v5, rfl, hown5, hgrow5⟩
  have hb5 : Below w.heap.size w w5 := hgrow5.below HO3.out HB3.out (Nat.le_refl _) HB3.out.size
  have ho5 : w5.ownsRow w.heap.size 5 1 v5 (l.length + 13) (Lib.byteCells (parcel k l)) := by
    unfold parcel
    rw [byteCells_app, HS.out, show l.length + 13 = 9 + l.length + 4 by omega]
    exact hown5
  have HB5 := Lib.hid hb5; have HO5 := Lib.hid ho5
  clear hown5 hgrow5 hb5 ho5
  go_wp2
  go_ret
  exact ⟨_, rfl, HO5.out, HB5.out⟩
end Go.Proofs.YtkpoeahnlldpgaaDoor
