/- FaultFirst: the walk. -/
import Derived.Test.YtoekepfppagbdaaDoorIsAt
namespace Go.Proofs.YtoekepfppagbdaaDoor
open Go.RowKit Go.Extern.Stop Go.Stop Go.Extern

theorem Tryd.infoError : (Tryd.prog.info? 25).map (fun i => (i.zero, i.size, i.bytes)) = some (some .nilIface, 1, 16) := by kernel_rfl

/-- What stands in the list so far: nothing; or first nothings, then a fault whose code is wanted. -/
def FirstIs (nm : ByteArray) (xs : List Value) (want : Int) (w : World) : Prop :=
  (want = 0 ∧ ∀ j, j < xs.length → xs.getD j .nilIface = .nilIface) ∨
  (want ≠ 0 ∧ ∃ k bk : Nat, ∃ a : Int, k < xs.length ∧ (∀ j, j < k → xs.getD j .nilIface = .nilIface) ∧ xs.getD k .nilIface = .iface 32 (.pointer (some ⟨bk, 0, none⟩)) ∧ w.heap[bk]? = some (.cells #[.int .i64 want, .int .i64 a, .string nm] 36))
theorem FirstIs.snoc_nil {nm : ByteArray} {xs : List Value} {want : Int} {w w' : World} (h : FirstIs nm xs want w) (hk : ∀ (k : Nat) (cs : Array Value), w.heap[k]? = some (.cells cs 36) → w'.heap[k]? = some (.cells cs 36)) (v : Value) (hv : want = 0 → v = .nilIface) : FirstIs nm (xs ++ [v]) want w' := by
  have get : ∀ j, j < xs.length → (xs ++ [v]).getD j .nilIface = xs.getD j .nilIface := fun j hj => by simp [List.getD, List.getElem?_append_left hj]
  rcases h with ⟨h0, hn⟩ | ⟨h0, k, bk, a, hk1, hn, hx, hc⟩
  · refine Or.inl ⟨h0, fun j hj => ?_⟩
    rcases Nat.lt_or_ge j xs.length with h1 | h1
    · rw [get j h1]; exact hn j h1
    · have : j = xs.length := by simp at hj; omega
      subst this
      simp [List.getD, hv h0]
  · refine Or.inr ⟨h0, k, bk, a, by simp; omega, fun j hj => ?_, ?_, hk _ _ hc⟩
    · rw [get j (by omega)]; exact hn j hj
    · rw [get k hk1]; exact hx
theorem FirstIs.snoc_new {nm : ByteArray} {xs : List Value} {w : World} (h : FirstIs nm xs 0 w) {w' : World} {bk : Nat} {c a : Int} (hc : c ≠ 0) (hb : w'.heap[bk]? = some (.cells #[.int .i64 c, .int .i64 a, .string nm] 36)) : FirstIs nm (xs ++ [.iface 32 (.pointer (some ⟨bk, 0, none⟩))]) c w' := by
  rcases h with ⟨_, hn⟩ | ⟨h0, _⟩
  · refine Or.inr ⟨hc, xs.length, bk, a, by simp, fun j hj => ?_, by simp [List.getD], hb⟩
    have e : (xs ++ [Value.iface 32 (.pointer (some ⟨bk, 0, none⟩))]).getD j .nilIface = xs.getD j .nilIface := by simp [List.getD, List.getElem?_append_left hj]
    rw [e]; exact hn j hj
  · exact absurd rfl h0

/-- The loop's state behind i rounds. -/
def FirstLoop (w : World) (nm : ByteArray) (i : Nat) (l : Value) (want : Int) (wr : World) : Prop :=
  ∃ xs : List Value, wr.ownsRow w.heap.size 25 1 l i xs ∧ FirstIs nm xs want wr ∧ Below w.heap.size w wr

/-- A list of n numbers in a world. -/
def IntsL (w : World) (v : Value) (n : Nat) (Z : Nat → Int) : Prop :=
  (n = 0 ∧ ∃ (ao : Option Addr) (cap : Nat), v = .slice ao 0 cap) ∨ (0 < n ∧ ∃ b off cap : Nat, v = .slice (some ⟨b, off, none⟩) n cap ∧ ∀ i, i < n → w.cell? ⟨b, off + i, none⟩ = some (.int .i64 (Z i)))
theorem IntsL.form {w : World} {v : Value} {n : Nat} {Z : Nat → Int} (h : IntsL w v n Z) : ∃ ao cap, v = .slice ao n cap := by
  rcases h with ⟨rfl, ao, cap, rfl⟩ | ⟨_, b, off, cap, rfl, _⟩
  · exact ⟨_, _, rfl⟩
  · exact ⟨_, _, rfl⟩
theorem keep_grown {w w1 w5 : World} {base n : Nat} {l : Value} {xs : List Value} (ho : w.ownsRow base 25 1 l n xs) (hb : ∀ k, k < w.heap.size → w1.heap[k]? = w.heap[k]?) (hg : ∀ k, k < w.heap.size → l.ownBlock ≠ some k → w5.heap[k]? = w1.heap[k]?) (k : Nat) (cs : Array Value) (h : w.heap[k]? = some (.cells cs 36)) : w5.heap[k]? = some (.cells cs 36) := by
  have hk : k < w.heap.size := (Array.getElem?_eq_some_iff.1 h).1
  rw [hg k hk (Lib.ownBlock_ne ho h (by decide)), hb k hk, h]

theorem ErrAt.last1 {w : World} {V : Nat → Value} {B : Nat → Nat} {s : ByteArray} {b : Nat} {c a : Int} {nm : ByteArray} (h : ErrAt w 1 V B (fun _ => s) b c a nm) : ∃ (V' : Nat → Value) (B' : Nat → Nat), V' 0 = V 1 ∧ True ∧ ErrAt w 0 V' B' (fun _ => s) b c a nm :=
  ⟨fun j => V (1 + j), fun j => B (1 + j), rfl, trivial, ⟨⟨fun i hi => by omega, fun i hi => by omega, fun i hi => by omega⟩, h.last, h.cells⟩⟩
theorem own_cells {w : World} {base e : Nat} {v : Value} {n : Nat} {xs : List Value} (h : w.ownsRow base e 1 v n xs) : xs.length = n ∧ ((n = 0 ∧ ∃ (ao : Option Addr) (cap : Nat), v = .slice ao 0 cap) ∨ ∃ b off cap : Nat, v = .slice (some ⟨b, off, none⟩) n cap ∧ ∀ i, i < n → w.cell? ⟨b, off + i, none⟩ = some (xs.getD i .nilIface)) := by
  have h0 := h
  obtain ⟨hl, hc⟩ := h
  have hl' : xs.length = n := by omega
  refine ⟨hl', ?_⟩
  rcases Nat.eq_zero_or_pos n with rfl | hp
  · rcases hc with ⟨rfl, _⟩ | ⟨g, cap, cur, rfl, _⟩
    · exact Or.inl ⟨rfl, _, _, rfl⟩
    · exact Or.inl ⟨rfl, _, _, rfl⟩
  · rcases hc with ⟨_, hn⟩ | ⟨g, cap, cur, rfl, _⟩
    · omega
    · refine Or.inr ⟨g, 0, cap, rfl, fun i hi => ?_⟩
      rw [Nat.zero_add, h0.cellAt i (by omega)]
      simp [List.getD, List.getElem?_eq_getElem (show i < xs.length by omega)]

set_option maxRecDepth 100000 in
set_option maxHeartbeats 4000000 in
theorem first_law (n : Nat) (Z : Nat → Int) (v : Value) (a : Int) (nm : ByteArray) (w : World) (hg : ErrT w) (hs : IntsL w v n Z) :
    Calls Tryd.prog 5 #[v, .int .i64 a, .string nm] w fun e w' => e = .returned (.bool true) ∧ Below w.heap.size w w' := by
  have HAL := Lib.hid (alive_ok w hg)
  have HS := Lib.hid hs
  obtain ⟨ao, cap, rfl⟩ := hs.form
  clear hs
  by_cases hn : n ≤ 30
  · have d1 : decide (30 < (n : Int)) = false := decide_eq_false (by omega)
    obtain ⟨i0, hi, hz0, hz1, hz2⟩ := info_parts Tryd.infoError
    have HNEW := Lib.hid (fun c a W => new_any c a nm W)
    go_enter Tryd.func5, Tryd.ntmps5
    go_wp2_with fail
    refine HAL.out.mono ?_; rintro e w1 ⟨rfl, hb1⟩
    go_wp2_with fail
    go_loopg [7, 8, 9] n (fun g l want x wr => ∃ i, i ≤ n ∧ g = n - i ∧ x = .int .i64 (i : Int) ∧ ∃ wt, want = .int .i64 wt ∧ FirstLoop w nm i l wt wr)
    case atStart => exact ⟨0, Nat.zero_le _, rfl, rfl, 0, rfl, [], World.ownsRow_nil _ _ _ _, Or.inl ⟨rfl, fun j hj => by simp at hj⟩, hb1⟩
    case round =>
      obtain ⟨i, hile, rfl, rfl, wt, rfl, xs, ho, hF, hbw⟩ := hrel
      have hsw := hbw.size
      by_cases hlt : i < n
      · rcases HS.out with ⟨h0, _⟩ | ⟨_, b0, off, cap', e, hc⟩
        · omega
        injection e with e1 e2 e3
        subst e1
        have d2 : decide ((i : Int) < n) = true := decide_eq_true (by omega)
        have hci := hc i hlt
        have hl0 := World.block_lt_of_cell? _ _ hci
        have hcr := (hbw.cell (p := ⟨b0, off + i, none⟩) hl0).trans hci
        obtain ⟨z, hz⟩ : ∃ z, Z i = z := ⟨_, rfl⟩
        rw [hz] at hcr hci
        have HCI := Lib.hid hci
        clear hc hci e3 hz
        have HO := Lib.hid ho
        have HF := Lib.hid hF
        have HBW := Lib.hid hbw
        have hol := Lib.hid (fun k hk => (ho.lt k hk).2)
        by_cases hz : z = 0
        · subst hz
          clear hF hbw
          go_wp2_with (at_builtin; refine wpList_append_own _ rfl _ _ 43 rfl w.heap.size 25 i0 .nilIface 1 16 Tryd.underlying43 hi hz0 hz1 hz2 rfl (by decide) _ _ _ rfl (ho.alloc _) ⟨wr.heap.size, 0, none⟩ 1 1 [.nilIface] rfl rfl ?_ ?_ ?_ ?_ ?_ ?_)
          rotate_right
          · intro v' w5 hown' hgrow _
            have hbw5 := (HBW.out.alloc (by omega) (.cells #[.nilIface] 25)).grown hgrow (by simp; omega) (fun k hk => (HO.out.lt k hk).1)
            have hF5 : FirstIs nm (xs ++ [.nilIface]) wt w5 := HF.out.snoc_nil (keep_grown HO.out (fun k hk => Below.heap_alloc _ _ _ hk) (fun k hk hne => hgrow.block k (by simp; omega) (fun e => hne e.symm))) _ (fun _ => rfl)
            have HR := Lib.hid (show FirstLoop w nm (i + 1) v' wt w5 from ⟨_, hown', hF5, hbw5⟩)
            clear hown' hgrow hbw5 hF5 ho
            go_wp2_with fail
            go_roundg (n - (i + 1))
            case rel => exact ⟨i + 1, by omega, rfl, by go_num, wt, rfl, HR.out⟩
            case measure => omega
          all_goals first
            | rfl
            | omega
            | (unfold maxLen; omega)
            | (simp; omega)
            | (intro u hu; simp at hu; subst hu; rfl)
            | (intro j u hj
               match j, hj with
               | 0, hj => simp at hj; subst hj; simp [Addr.add])
        · have dz : (z == 0) = false := by simp [hz]
          clear hF hbw
          go_wp2_with (go_at_call 20; fail)
          refine (HNEW.out _ _ _).mono ?_; rintro e w3 ⟨rfl, hw3⟩
          have HS3 := Lib.hid (show w3.heap.size = wr.heap.size + 1 by rw [← hw3]; simp)
          have ho3 : w3.ownsRow w.heap.size 25 1 u7 i xs := by rw [← hw3]; exact ho.alloc _
          have HO3 := Lib.hid ho3
          have HBW3 := Lib.hid (show Below w.heap.size w w3 by rw [← hw3]; exact HBW.out.alloc (by omega) _)
          have HF3 := Lib.hid (show ∀ k, k < wr.heap.size → w3.heap[k]? = wr.heap[k]? by intro k hk; rw [← hw3]; exact Below.heap_alloc _ _ _ hk)
          have HC3 := Lib.hid (show w3.heap[wr.heap.size]? = some (.cells #[.int .i64 z, .int .i64 i, .string nm] 36) by rw [← hw3]; exact World.alloc_heap_new _ _)
          clear hw3 ho
          go_wp2_with (at_builtin; (refine wpList_append_own _ rfl _ _ 43 rfl w.heap.size 25 i0 .nilIface 1 16 Tryd.underlying43 hi hz0 hz1 hz2 rfl (by decide) _ _ _ rfl (ho3.alloc _) ⟨w3.heap.size, 0, none⟩ 1 1 [.iface 32 (.pointer (some ⟨wr.heap.size, 0, none⟩))] rfl rfl ?_ ?_ ?_ ?_ ?_ ?_))
          rotate_right
          · intro v' w5 hown' hgrow _
            have s3 := HS3.out
            have hbw5 := (HBW3.out.alloc (by omega) (.cells #[.iface 32 (.pointer (some ⟨wr.heap.size, 0, none⟩))] 25)).grown hgrow (by simp; omega) (fun k hk => (HO3.out.lt k hk).1)
            have kp := keep_grown (w5 := w5) HO3.out (fun k hk => Below.heap_alloc _ (.cells #[.iface 32 (.pointer (some ⟨wr.heap.size, 0, none⟩))] 25) _ hk) (fun k hk hne => hgrow.block k (by simp; omega) (fun e => hne e.symm))
            have hc5 := kp _ _ HC3.out
            clear s3
            have hcz := (hbw5.cell (p := ⟨b0, off + i, none⟩) hl0).trans HCI.out
            by_cases hwt : wt = 0
            · subst hwt
              have HR := Lib.hid (show FirstLoop w nm (i + 1) v' z w5 from ⟨_, hown', HF.out.snoc_new hz hc5, hbw5⟩)
              clear hown' hgrow hbw5 kp hc5 ho3 hcr
              go_wp2_with fail
              go_roundg (n - (i + 1))
              case rel => exact ⟨i + 1, by omega, rfl, by go_num, z, rfl, HR.out⟩
              case measure => omega
            · have dw : (wt == 0) = false := by simp [hwt]
              have HR := Lib.hid (show FirstLoop w nm (i + 1) v' wt w5 from ⟨_, hown', HF.out.snoc_nil (fun k cs h => kp k cs (by rw [HF3.out k (Array.getElem?_eq_some_iff.1 h).1]; exact h)) _ (fun h => absurd h hwt), hbw5⟩)
              clear hown' hgrow hbw5 kp hc5 ho3 hcr hcz
              go_wp2_with fail
              go_roundg (n - (i + 1))
              case rel => exact ⟨i + 1, by omega, rfl, by go_num, wt, rfl, HR.out⟩
              case measure => omega
          all_goals first
            | rfl
            | omega
            | (have s3 := HS3.out; omega)
            | (have s3 := HS3.out; simp; omega)
            | (unfold maxLen; omega)
            | (simp; omega)
            | (intro u hu; simp at hu; subst hu; rfl)
            | (intro j u hj
               match j, hj with
               | 0, hj => simp at hj; subst hj; simp [Addr.add])
      · obtain rfl : i = n := by omega
        have d2 : decide ((i : Int) < i) = false := decide_eq_false (by omega)
        have hgr := hg.below hbw (Nat.le_refl _)
        obtain ⟨hlx, hform⟩ := own_cells ho
        have HBW := Lib.hid hbw
        have HN3 := Lib.hid (fun W => new_any 3 a nm W)
        have HIN := Lib.hid (fun T x W => in_any ⟨#[119]⟩ T x W)
        have d3 : ((3 : Int) == 3) = true := rfl
        have da : (a == a) = true := by simp
        obtain ⟨e0, he0, hfst, hcode, hnil⟩ : ∃ e0, (∃ bb : Bool, (bb = true ↔ wt = 0) ∧ ((bb = true ∧ e0 = .nilIface) ∨ (bb = false ∧ ∃ T x, e0 = Value.iface T x))) ∧ Calls Tryd.prog 19 #[u7] wr (fun e w' => e = .returned e0 ∧ w' = wr) ∧ Calls Tryd.prog 11 #[e0] wr (fun e w' => e = .returned (.int .i64 wt) ∧ Below wr.heap.size wr w') ∧ True := by
          rcases hF with ⟨rfl, hn0⟩ | ⟨hw0, k, bk, ak, hk1, hn0, hx, hcb⟩
          · refine ⟨.nilIface, ⟨true, by simp, Or.inl ⟨rfl, rfl⟩⟩, ?_, ?_, trivial⟩
            · exact first_none i (fun j => xs.getD j .nilIface) u7 wr (by omega) hform (fun j hj => hn0 j (by omega))
            · exact (code_nil wr).mono (by rintro e w' ⟨rfl, rfl⟩; exact ⟨rfl, Below.refl _ _⟩)
          · refine ⟨.iface 32 (.pointer (some ⟨bk, 0, none⟩)), ⟨false, by simp [hw0], Or.inr ⟨rfl, _, _, rfl⟩⟩, ?_, ?_, trivial⟩
            · rcases hform with ⟨h0, _⟩ | ⟨b, off, cap', rfl, hc⟩
              · omega
              · exact first_found i k (fun j => xs.getD j .nilIface) _ _ b off cap' wr (by omega) (by omega) hc hn0 hx
            · exact code_hit bk wt wr hgr (by simp [World.cell?, hcb])
        have HFST := Lib.hid hfst
        have HCODE := Lib.hid hcode
        obtain ⟨bb, hbb, he0⟩ := he0
        have dwn : (wt != wt) = false := by simp
        have dw0 : (wt == 0) = bb := by
          cases bb with
          | true => simp [hbb.1 rfl]
          | false => simp; intro h; exact absurd (hbb.2 h) (by simp)
        clear hfst hcode hnil hform ho hF hbb hlx hbw
        rcases he0 with ⟨rfl, rfl⟩ | ⟨rfl, T0, x0, rfl⟩
        all_goals
          go_wp2_with fail
          refine HFST.out.mono ?_; rintro e w3 ⟨rfl, hw3⟩
          subst hw3
          go_wp2_with fail
          refine HCODE.out.mono ?_; rintro e w4 ⟨rfl, hb4⟩
          have D4 := HBW.out.trans (hb4.mono hsw)
          go_wp2_with fail
          refine (HN3.out w4).mono ?_; rintro e w5 ⟨rfl, hw5⟩
          have M5 : MadeTo w4 1 (fun _ => ⟨#[119]⟩) 3 a nm 1 w5 := by
            rw [← hw5]; exact ⟨by simp, (Below.refl _ _).alloc (Nat.le_refl _) _, World.alloc_heap_new _ _, fun i h1 h2 => by omega⟩
          have M6 := M5.next (by omega)
          rw [show mkV w4.heap.size 1 (0 + 1) = .iface 32 (.pointer (some ⟨w4.heap.size, 0, none⟩)) by simp [mkV]] at M6
          have s5 : w5.heap.size = w4.heap.size + 1 := by rw [← hw5]; simp
          have HS5 := Lib.hid s5
          have HM6 := Lib.hid M6
          clear M5 M6 hw5 s5 hb4
          go_wp2_with fail
          refine (HIN.out _ _ w5).mono ?_; rintro e w6 ⟨rfl, hw6⟩
          rw [hw6] at HM6
          clear hw6
          have E6 := HM6.out.err
          have hmB := HM6.out.below
          have B6 := D4.trans (hmB.mono D4.size)
          have hg6 := hg.below B6 (Nat.le_refl _)
          have ev0 : mkV w4.heap.size 1 0 = .iface 75 (.pointer (some ⟨w5.heap.size, 0, none⟩)) := by rw [HS5.out]; simp [mkV]
          have ev1 : mkV w4.heap.size 1 (0 + 1) = .iface 32 (.pointer (some ⟨w4.heap.size, 0, none⟩)) := by simp [mkV]
          have hnx : w6.cell? ⟨w5.heap.size, 1, none⟩ = some (.iface 32 (.pointer (some ⟨w4.heap.size, 0, none⟩))) := by
            have h1 := E6.chain.next 0 (by omega)
            rw [ev1] at h1
            rw [HS5.out]
            exact h1
          obtain ⟨V', B', f0, _, hD⟩ := E6.last1
          have ef : V' 0 = .iface 32 (.pointer (some ⟨w4.heap.size, 0, none⟩)) := hD.last
          have UW := Lib.hid (unwrap_step w5.heap.size _ w6 hnx)
          have CC := Lib.hid (fun W (h : Below w6.heap.size w6 W) => code_chain W (hg6.below h (Nat.le_refl _)) (hD.below h (Nat.le_refl _)))
          have AA := Lib.hid (fun W (h : Below w6.heap.size w6 W) => at_chain W (hg6.below h (Nat.le_refl _)) (hD.below h (Nat.le_refl _)))
          have WW := Lib.hid (fun W (h : Below w6.heap.size w6 W) => words_chain W (hg6.below h (Nat.le_refl _)) (show 0 ≤ 100000 by omega) (hD.below h (Nat.le_refl _)))
          have II := Lib.hid (fun W (h : Below w6.heap.size w6 W) => errorsIs_chain W.heap.size 3 _ (E6.below (h.alloc h.size (.cells #[.int .i64 3, .int .i64 0, .string ⟨#[]⟩] 36)) (Nat.le_refl _)) (World.alloc_heap_new _ _) (by have h1 := h.size; have h2 := World.block_lt_of_cell? _ _ E6.code; simp at h2; omega))
          have JJ := Lib.hid (fun W (h : Below w6.heap.size w6 W) => errorsIs_chainA W.heap.size 3 1 ⟨#[122]⟩ (by omega) _ (E6.below (h.alloc h.size (.cells #[.int .i64 3, .int .i64 1, .string ⟨#[122]⟩] 36)) (Nat.le_refl _)) (World.alloc_heap_new _ _) (by have h1 := h.size; have h2 := World.block_lt_of_cell? _ _ E6.code; simp at h2; omega))
          have d33 : decide ((3 : Int) = 3) = true := rfl
          rw [ef] at CC AA WW
          rw [ev0, d33] at II
          rw [ev0] at JJ
          clear E6 hmB ev0 ev1 hnx f0 hD ef d33 hg6
          go_wp2_with fail
          refine UW.out.mono ?_; rintro e w7 ⟨rfl, hw7⟩
          subst hw7
          go_wp2_with fail
          refine (CC.out w6 (Below.refl _ _)).mono ?_; rintro e w7 ⟨rfl, hb7⟩
          go_wp2_with fail
          refine (AA.out w7 hb7).mono ?_; rintro e w8 ⟨rfl, hb8⟩
          have D8 := hb7.trans (hb8.mono hb7.size)
          go_wp2_with fail
          refine (II.out w8 D8).mono ?_; rintro e w9 ⟨rfl, h9⟩
          have D9 : Below w6.heap.size w6 w9 := by obtain ⟨d, rfl⟩ := h9; exact below_drewN (D8.alloc D8.size _) d
          clear h9
          go_wp2_with fail
          refine (JJ.out w9 D9).mono ?_; rintro e w10 ⟨rfl, h10⟩
          have D10 : Below w6.heap.size w6 w10 := by obtain ⟨d, rfl⟩ := h10; exact below_drewN (D9.alloc D9.size _) d
          clear h10
          go_wp2_with fail
          refine (WW.out w10 D10).mono ?_; rintro e w11 ⟨v11, rfl, hv11, hb11⟩
          obtain ⟨ao11, cap11, rfl⟩ := hv11.form
          clear hv11
          go_wp2_with fail
          go_ret
          exact ⟨rfl, B6.trans ((D10.trans (hb11.mono D10.size)).mono B6.size)⟩
  · have d1 : decide (30 < (n : Int)) = true := decide_eq_true (by omega)
    go_enter Tryd.func5, Tryd.ntmps5
    go_wp2_with fail
    refine HAL.out.mono ?_; rintro e w1 ⟨rfl, hb1⟩
    go_wp2_with fail
    go_ret
    exact ⟨rfl, hb1⟩
end Go.Proofs.YtoekepfppagbdaaDoor
