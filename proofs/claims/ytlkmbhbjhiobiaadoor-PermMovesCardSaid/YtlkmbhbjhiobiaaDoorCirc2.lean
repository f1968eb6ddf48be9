/- perm.Circles of an order: contract. -/
import Derived.Test.YtlkmbhbjhiobiaaDoorCirc
namespace Go.Proofs.YtlkmbhbjhiobiaaDoor
open Go.RowKit

theorem run_neq_row_nil {P : Program} (w : World) (t e : TypeId) (a : Option Addr) (l c : Nat) (h : P.underlying t = some (.slice e)) :
    (binOp .neq t (.slice a l c) (.slice none 0 0)).run P w = .ok (.bool (!a.isNone)) w := by
  simp only [binOp]
  simp [Op.equal, Op.maxDepth, Lib.run_equalIn_slice_nil w 9999 t e a l c 0 0 h]

theorem grown_set {w0 w : World} {b i : Nat} (v : Value) (h : w0.grownBy w (some b)) : w0.grownBy (w.setCell ⟨b, i, none⟩ v) (some b) :=
  ⟨h.os, h.tape, h.output, by simpa [World.setCell] using h.size, fun j hj hne => (Below.heap_setCell w ⟨b, i, none⟩ v j (fun e => hne (by simpa using e))).trans (h.block j hj hne)⟩
/-- What the circle under way is. -/
def InC (G : Nat → Bool) (k m : Nat) (x : Value) : Prop := (m = 0 ∧ x = .slice none 0 0) ∨ (0 < m ∧ G k = false)

set_option maxRecDepth 100000 in
set_option maxHeartbeats 4000000 in
theorem circles_ok (n : Nat) (P : Nat → Int) (v : Value) (w : World) (hp : IntsV w v n P) (hO : Order n P) :
    Calls Tryd.prog 14 #[v] w fun e w' => ∃ (u : Value) (C : List (List Nat)) (G : Nat → Bool), e = .returned (.tuple #[u, .nilIface]) ∧ Rings n P n C G ∧ ListsV w' u (C.map zs) ∧ Below w.heap.size w w' := by
  obtain ⟨i0, hi, hz0, hz1, hz2⟩ := info_parts Tryd.infoInt6
  obtain ⟨i1, hi1, hy0, hy1, hy2⟩ := info_parts Tryd.infoRow
  obtain ⟨A, c, rfl⟩ := hp.form
  have C1 := Lib.hid (check_ok n P _ w hp (rightB_iff.2 hO))
  have HP := Lib.hid hp; have HO := Lib.hid hO
  have hn8 := hO.le8
  clear hp hO
  go_enter Tryd.func14, Tryd.ntmps14
  go_wp2_with fail
  refine C1.out.mono ?_; rintro e w1 ⟨rfl, hb1⟩
  have HW1 := Lib.hid (Whole.new w1 57 #[.bool false, .bool false, .bool false, .bool false, .bool false, .bool false, .bool false, .bool false])
  have HB1 := Lib.hid (hb1.alloc hb1.size (.cells #[.bool false, .bool false, .bool false, .bool false, .bool false, .bool false, .bool false, .bool false] 57))
  have hsz1 := hb1.size
  clear hb1
  obtain ⟨gb, hgb⟩ : ∃ g, w1.heap.size = g := ⟨_, rfl⟩
  rw [hgb] at HW1 hsz1
  go_wp2_with fail
  clear hgb
  go_loopg [5, 17] n (fun g x y wr => ∃ (k : Nat) (C : List (List Nat)) (G : Nat → Bool), k ≤ n ∧ g = n - k ∧ y = .int .i64 (k : Nat) ∧ Rings n P k C G ∧ RowsOwn wr w.heap.size x (C.map zs) ∧ Whole wr gb 57 (goneA G) ∧ Below w.heap.size w wr)
  case atStart => exact ⟨0, [], _, by omega, rfl, rfl, Rings.nil n P, RowsOwn.nil _ _, HW1.out, HB1.out⟩
  case round =>
    obtain ⟨k, C, G, hk, rfl, rfl, hR, hrows, hW, hB⟩ := hrel
    obtain ⟨wo, rfl⟩ : ∃ x, x = wr := ⟨_, rfl⟩
    have HR := Lib.hid hR; have HROWS := Lib.hid hrows; have HW := Lib.hid hW; have HB := Lib.hid hB
    have hszr := hB.size
    have hB0 : w.heap.size ≤ wo.heap.size := hszr
    have hgl := hW.lt
    obtain ⟨Ao, co, rfl⟩ := hrows.form
    by_cases hlt : k < n
    · have HLT := Lib.hid hlt
      have t7 : decide (k < n) = true := decide_eq_true hlt
      obtain ⟨s0, hs0⟩ : ∃ s, wo.heap.size = s := ⟨_, rfl⟩
      rw [hs0] at hszr hgl
      have HS0 := Lib.hid hs0
      obtain ⟨q, hq⟩ : ∃ q, (C.map zs).length = q := ⟨_, rfl⟩
      have hqn : q ≤ 8 := by have := hR.few; simp at hq; omega
      have HQ := Lib.hid hq
      rw [hq]
      clear hR hrows hW hB hlt hs0 hq
      go_wp2_with fail
      go_loopg [8, 9] n (fun g x y wr => ∃ m, m ≤ n ∧ g = n - m ∧ y = .int .i64 (it P k m : Nat) ∧ InC G k m x ∧ Going P k m ∧ wr.ownsRow s0 3 1 x m (intCells (zs (ring P k m))) ∧ Whole wr gb 57 (goneA (gst P k G m)) ∧ wo.grownBy wr (some gb))
      case atStart => exact ⟨0, by omega, rfl, rfl, Or.inl ⟨rfl, rfl⟩, fun j hj => by omega, World.ownsRow_nil _ _ _ 1, HW.out, World.grownBy.refl _ _⟩
      case round =>
        obtain ⟨m, hm, rfl, rfl, hin, hgo, hown, hWi, hgr⟩ := hrel
        have hyl := it_lt HO.out HLT.out m
        obtain ⟨y, hy⟩ : ∃ y, it P k m = y := ⟨_, rfl⟩
        rw [hy] at hyl
        rw [hy]
        have ca := hWi.cell y
        rw [goneA_at _ y (by omega)] at ca
        have cf := hWi.free y
        have i3 : (y : Int) < 8 := by omega
        have i4 : (0 : Int) ≤ y := by omega
        have i5 : (y : Int) < n := by omega
        have hgb0 : w.heap.size ≤ gb := hsz1
        have hbi : Below w.heap.size w wr := HB.out.grown hgr hB0 (fun j hj => by injection hj with hj; omega)
        have hsi := hgr.size
        have hs0 := HS0.out
        obtain ⟨Ax, cx, rfl⟩ := own_form hown
        cases hs : gst P k G m y with
        | false =>
          rw [hs] at ca
          have hgk : G k = false := by
            cases hg : G k with
            | false => rfl
            | true =>
              rw [← closed_it HO.out HR.out.clo HLT.out m, hy] at hg
              rw [gst_iff.2 (Or.inl hg)] at hs; cases hs
          have hgo' := going_next hgo (by rw [hy]; exact hs)
          have hm' := going_le HO.out HLT.out hgo'
          have hw2 := hWi.put y (.bool true)
          rw [goneA_set _ y (by omega)] at hw2
          have hw2' : Whole (wr.setCell ⟨gb, y, none⟩ (.bool true)) gb 57 (goneA (gst P k G (m + 1))) := by
            have : (fun z => gst P k G m z || (y == z)) = gst P k G (m + 1) := by rw [← hy]; rfl
            rw [← this]; exact hw2
          have ho2 := own_put hown (p := ⟨gb, y, none⟩) (own_ne hown hWi (by decide)) (.bool true)
          have hb2 := hbi.setCell (p := ⟨gb, y, none⟩) hgb0 (.bool true)
          have HG2 := Lib.hid (grown_set (i := y) (.bool true) hgr)
          have hs2 : s0 ≤ (wr.setCell ⟨gb, y, none⟩ (.bool true)).heap.size := by simpa [World.setCell] using (by omega : s0 ≤ wr.heap.size)
          have HSE : Hid (wr.heap.size = (wr.setCell ⟨gb, y, none⟩ (.bool true)).heap.size) := Lib.hid (by simp [World.setCell])
          have HW2 := Lib.hid hw2'; have HO2 := Lib.hid ho2; have HB2 := Lib.hid hb2
          have HGK := Lib.hid hgk; have HGO := Lib.hid hgo'; have HM := Lib.hid hm'
          have HIT : Hid (it P k (m + 1) = nx P y) := Lib.hid (by rw [← hy]; rfl)
          have HRS : Hid (intCells (zs (ring P k (m + 1))) = intCells (zs (ring P k m)) ++ [.int .i64 (y : Nat)]) := Lib.hid (by rw [ring_succ, zs_snoc, intCells_app, hy]; rfl)
          have hsz2 : w.heap.size ≤ s0 := hszr
          have hm8 : m ≤ 8 := by omega
          clear hin hgo hown hWi hgr hbi hy hs hgk hgo' hm' hw2 hw2' ho2 hb2 hs0 hsi
          go_wp2_with (at_builtin; refine wpList_app1g _ rfl _ _ 22 rfl s0 3 i0 (.int .i64 0) 8 Tryd.underlying22 hi hz0 hz1 hz2 rfl _ m _ rfl HO2.out _ rfl (by rw [← HSE.out]; rfl) (by omega) (by omega) hs2 ?_)
          intro A4 c4 w4 hown4 hgrow4
          have hb4 : Below w.heap.size w w4 := hgrow4.below HO2.out HB2.out hsz2 hs2
          have HW4 := Lib.hid (hgrow4.whole HW2.out HO2.out (by decide))
          have HG4 := Lib.hid (HG2.out.andThen hgrow4.1 (fun j hj => Or.inl (by have := (HO2.out.lt j hj).1; have := HS0.out; omega)))
          have HO4 : Hid (w4.ownsRow s0 3 1 (.slice A4 (m + 1) c4) (m + 1) (intCells (zs (ring P k (m + 1))))) := Lib.hid (by rw [HRS.out]; exact hown4)
          obtain ⟨b, off, rfl, hcell⟩ := (HP.out.below hb4 (Nat.le_refl _)).pos hyl
          have hc := hcell y hyl
          rw [nx_cast HO.out hyl] at hc
          obtain ⟨z, hz⟩ : ∃ z, nx P y = z := ⟨_, rfl⟩
          rw [hz] at hc
          have HZ := Lib.hid hz
          clear hown4 hgrow4 hb4 hcell hz
          go_wp2_with fail
          go_roundg (n - (m + 1))
          case rel => exact ⟨m + 1, HM.out, rfl, by rw [HIT.out, HZ.out], Or.inr ⟨by omega, HGK.out⟩, HGO.out, HO4.out, HW4.out, HG4.out⟩
          case measure => have := HM.out; omega
        | true =>
          rw [hs] at ca
          have hrows2 := HROWS.out.kept hgr HW.out (by decide) (by decide)
          rw [HQ.out] at hrows2
          rcases hin with ⟨rfl, hx⟩ | ⟨hm0, hgk⟩
          · injection hx with hx1 hx2 hx3
            subst hx1 hx3
            have hgk : G k = true := by rw [← hs, ← hy]; rfl
            have hyk : y = k := hy.symm
            subst hyk
            have hq := run_neq_row_nil (P := Tryd.prog) wr 22 3 none 0 0 Tryd.underlying22
            have HR2 := Lib.hid (HR.out.skip hgk); have HRO := Lib.hid hrows2; have HWI := Lib.hid hWi; have HBI := Lib.hid hbi
            clear hgo hown hWi hgr hbi hs hgk hrows2 hs0 hsi hx2
            go_wp2_with fail
            go_roundg (n - (y + 1))
            case rel => exact ⟨y + 1, C, G, HLT.out, rfl, by go_num, HR2.out, HRO.out, HWI.out, HBI.out⟩
            case measure => have := HLT.out; omega
          · have hR2 := HR.out.more HO.out HLT.out hgk hgo (by rw [hy]; exact hs)
            obtain ⟨us, hus, hur⟩ := hrows2
            rw [HQ.out] at hus
            rcases hown.2 with ⟨_, h0⟩ | ⟨g, cap, cur, e, _⟩
            · omega
            injection e with e1 e2 e3
            subst e1 e3
            have hq := run_neq_row_nil (P := Tryd.prog) wr 22 3 (some ⟨g, 0, none⟩) m cx Tryd.underlying22
            have hso : s0 ≤ wr.heap.size := by omega
            have hsw : w.heap.size ≤ wr.heap.size := by omega
            have HR2 := Lib.hid hR2; have HWI := Lib.hid hWi; have HBI := Lib.hid hbi; have HUS := Lib.hid hus; have HUR := Lib.hid hur
            have HOWN : Hid (wr.ownsRow w.heap.size 3 1 (.slice (some ⟨g, 0, none⟩) m cx) (zs (ring P k m)).length (intCells (zs (ring P k m)))) := Lib.hid (by rw [zs_len, ring_len]; exact own_mono' hown hszr)
            clear hgo hown hWi hgr hbi hs hgk hus hur hs0 hsi e2 hR2 hy
            go_wp2_with (at_builtin; refine wpList_app1g _ rfl _ _ 32 rfl w.heap.size 22 i1 (.slice none 0 0) 24 Tryd.underlying32 hi1 hy0 hy1 hy2 rfl _ q _ rfl HUS.out _ rfl rfl (by omega) (by omega) hsw ?_)
            intro A5 c5 w5 hown5 hgrow5
            have hus5 := HUS.out
            have hur5 := HUR.out
            have hro : RowsOwn w5 w.heap.size (.slice A5 (q + 1) c5) ((C ++ [ring P k m]).map zs) := by
              rw [List.map_append]
              exact RowsOwn.more (by rw [HQ.out]; exact hus5) hur5 HOWN.out (by rw [HQ.out]; exact hown5) hgrow5
            have HRO := Lib.hid hro
            have HB5 := Lib.hid (hgrow5.below HUS.out HBI.out (Nat.le_refl _) hsw)
            have HW5 := Lib.hid (hgrow5.whole HWI.out HUS.out (by decide))
            clear hown5 hgrow5 hus5 hur5 hro
            go_wp2_with fail
            go_roundg (n - (k + 1))
            case rel => exact ⟨k + 1, _, _, HLT.out, rfl, by go_num, HR2.out, HRO.out, HW5.out, HB5.out⟩
            case measure => have := HLT.out; omega
    · obtain rfl : k = n := by omega
      have t7 : decide (k < k) = false := by simp
      obtain ⟨q, hq⟩ : ∃ q, (C.map zs).length = q := ⟨_, rfl⟩
      have HL := Lib.hid hrows.lists
      rw [hq] at HL ⊢
      clear hR hrows hW hB hlt hq
      go_wp2_with fail
      go_ret2
      exact ⟨_, C, G, rfl, HR.out, HL.out, HB.out⟩
end Go.Proofs.YtlkmbhbjhiobiaaDoor
