/- Has and Connected. -/
import Derived.Test.YtgolcogigpnbeaaGreatDoorConP
import Derived.Test.YtgolcogigpnbeaaGreatDoorConI
import Derived.Test.YtgolcogigpnbeaaGreatDoorPat6
import Derived.Test.YtgolcogigpnbeaaGreatDoorPat8
import Derived.Test.YtgolcogigpnbeaaGreatDoorPatMake
import Derived.Deep.DeepCutAuto
import Derived.Deep.RegionHeld3
namespace Go.Proofs.YtgolcogigpnbeaaGreatDoor
open Go.RowKit

set_option maxRecDepth 100000 in
theorem has_any {w : World} {Al : Option Addr} {nl cl : Nat} {ve : Value} {E : List (Int × Int)} (he : EdgesV w ve E) (h2 : E.length ≤ 1000000) (a b : Int) :
    Calls Tryz.prog 34 #[.agg #[.slice Al nl cl, ve], .int .i64 a, .int .i64 b] w fun e w' => e = .returned (.bool (decide (ris (a, b) ∈ E))) ∧ Below w.heap.size w w' := by
  obtain ⟨Ae, ce, rfl⟩ := he.form
  obtain ⟨m, hm⟩ : ∃ m, E.length = m := ⟨_, rfl⟩
  rw [hm] at he ⊢
  have hb1 : Below w.heap.size w (w.alloc (.cells #[.slice Al nl cl, .slice Ae m ce] 31)) := (Below.refl _ _).alloc (Nat.le_refl _) _
  have hw1 := Whole.new w 31 #[.slice Al nl cl, .slice Ae m ce]
  obtain ⟨w1, hw⟩ : ∃ W, w.alloc (.cells #[.slice Al nl cl, .slice Ae m ce] 31) = W := ⟨_, rfl⟩
  rw [hw] at hb1 hw1
  have c0 : w1.cell? ⟨w.heap.size, 1, none⟩ = some (.slice Ae m ce) := hw1.cell 1
  have HB := Lib.hid hb1; have HW := Lib.hid hw
  have HE := Lib.hid (fun W (h : Below w1.heap.size w1 W) => he.below (hb1.trans (h.mono hb1.size)) (Nat.le_refl _))
  have RI := Lib.hid (fun W => rising_any a b W)
  have HM := Lib.hid hm
  have KS := Lib.hid (fun W (hW : Below w1.heap.size w1 W) => And.intro hW ((hW.cell (p := ⟨w.heap.size, 1, none⟩) hw1.lt).trans c0))
  have CN : Hid (∀ W, Below w1.heap.size w1 W → Calls Tryz.prog 65 #[.slice Ae m ce, .agg #[.int .i64 (min a b), .int .i64 (max a b)]] W fun e w' => e = .returned (.bool (decide (ris (a, b) ∈ E))) ∧ Below w1.heap.size w1 w') := Lib.hid (fun W hW => (contains_any E _ (min a b) (max a b) W (HE.out W hW) (by omega)).mono fun e w' h => ⟨h.1, hW.trans (h.2.mono hW.size)⟩)
  clear hb1 hw1 hw he hm
  go_enter Tryz.func34, Tryz.ntmps34
  go_upto_region 1 with fail
  rw [HW.out]
  go_region_held3 (fun W => Below w1.heap.size w1 W ∧ W.cell? ⟨w.heap.size, 1, none⟩ = some (.slice Ae m ce))
    (exact KS.out _ (by first | assumption | exact below_drewN' (Below.refl _ _) 1))
    (first
      | (go_at_call 63; refine (RI.out _).mono ?_; rintro e' wR ⟨rfl, hbR0⟩; have hbR := Below.trans (B := w1.heap.size) (by first | assumption | exact below_drewN' (Below.refl w1.heap.size _) 1) (hbR0.mono (by first | exact Below.size (by assumption) | exact Nat.le_refl _)))
      | (go_at_call 65; refine (CN.out _ (by assumption)).mono ?_; rintro e' wC ⟨rfl, hbC⟩))
  all_goals
    go_wp2_with fail
    go_ret
    exact ⟨rfl, HB.out.trans ((by assumption : Below w1.heap.size w1 _).mono HB.out.size)⟩
/-- What Connected tells. -/
def ConTo (L : List Int) (E : List (Int × Int)) (w : World) (e : Ending) (w' : World) : Prop := ∃ b : Bool, e = .returned (.bool b) ∧ (b = true ↔ RightP L E ∧ 0 < L.length ∧ Con L.length E) ∧ Below w.heap.size w w'
set_option maxRecDepth 100000 in
set_option maxHeartbeats 4000000 in
theorem connected_any {w : World} {vl ve : Value} {L : List Int} {E : List (Int × Int)} (hl : SeqV w vl L) (he : EdgesV w ve E) (h1 : L.length ≤ 1000000) (h2 : E.length ≤ 1000000) :
    Calls Tryz.prog 9 #[.agg #[vl, ve]] w (ConTo L E w) := by
  obtain ⟨i0, hi0, hz0, hz1, hz2⟩ := info_parts Tryz.infoInt6
  obtain ⟨Al, cl, rfl⟩ := IntsV.form hl
  obtain ⟨Ae, ce, rfl⟩ := he.form
  obtain ⟨n, hn⟩ : ∃ n, L.length = n := ⟨_, rfl⟩
  obtain ⟨m, hm⟩ : ∃ m, E.length = m := ⟨_, rfl⟩
  rw [hn] at hl ⊢
  rw [hm] at he ⊢
  have hb1 : Below w.heap.size w (w.alloc (.cells #[.slice Al n cl, .slice Ae m ce] 31)) := (Below.refl _ _).alloc (Nat.le_refl _) _
  have hw1 := Whole.new w 31 #[.slice Al n cl, .slice Ae m ce]
  obtain ⟨w1, hw⟩ : ∃ W, w.alloc (.cells #[.slice Al n cl, .slice Ae m ce] 31) = W := ⟨_, rfl⟩
  rw [hw] at hb1 hw1
  have HB := Lib.hid hb1; have HW := Lib.hid hw; have HN := Lib.hid hn; have HM := Lib.hid hm
  have HCC : Hid (∀ W, Below w1.heap.size w1 W → W.cell? ⟨w.heap.size, 0, none⟩ = some (.slice Al n cl) ∧ W.cell? ⟨w.heap.size, 1, none⟩ = some (.slice Ae m ce)) := Lib.hid (fun W h => ⟨(hw1.below h hw1.lt).cell 0, (hw1.below h hw1.lt).cell 1⟩)
  have RT : Hid (Calls Tryz.prog 21 #[.agg #[.slice Al n cl, .slice Ae m ce]] w1 (ErrTo (rightF L E) w1)) := Lib.hid (right_any (hl.below hb1 (Nat.le_refl _)) (he.below hb1 (Nat.le_refl _)) h1 h2)
  have HE := Lib.hid (fun W (h : Below w1.heap.size w1 W) => he.below (hb1.trans (h.mono hb1.size)) (Nat.le_refl _))
  obtain ⟨c0, c1⟩ := HCC.out w1 (Below.refl _ _)
  have H2 : Hid (E.length ≤ 1000000) := Lib.hid h2
  clear hb1 hw1 hw hl he hn hm h1 h2
  cases hr : rightF L E with
  | some x =>
    obtain ⟨cc, pp⟩ := x
    have R2 : Hid (Calls Tryz.prog 21 #[.agg #[.slice Al n cl, .slice Ae m ce]] w1 fun e w' => ∃ b, e = .returned (.iface 95 (.pointer (some ⟨b, 0, none⟩))) ∧ Below w1.heap.size w1 w') := Lib.hid (RT.out.mono fun e w' h => by
      obtain ⟨b, h1, _, h3⟩ := h.err hr
      exact ⟨b, h1, h3⟩)
    have HNR : Hid (¬ RightP L E) := Lib.hid (fun h => by rw [rightF_none.2 h] at hr; cases hr)
    clear hr
    go_enter Tryz.func9, Tryz.ntmps9
    go_upto_region 1 with fail
    rw [HW.out]
    go_wp2_with fail
    refine R2.out.mono ?_; rintro e w2 ⟨b, rfl, hb⟩
    have HBB := Lib.hid hb
    clear hb
    go_wp2_with fail
    go_ret
    exact ⟨false, rfl, ⟨fun h => Bool.noConfusion h, fun h => absurd h.1 HNR.out⟩, HB.out.trans (HBB.out.mono HB.out.size)⟩
  | none =>
    have R2 : Hid (Calls Tryz.prog 21 #[.agg #[.slice Al n cl, .slice Ae m ce]] w1 fun e w' => e = .returned .nilIface ∧ Below w1.heap.size w1 w') := Lib.hid (RT.out.mono fun e w' h => h.nil hr)
    have hrp := rightF_none.1 hr
    have HRP := Lib.hid hrp
    have hn8 : n ≤ 8 := by rw [← HN.out]; exact hrp.len
    clear hr hrp
    by_cases hz : n = 0
    · subst hz
      go_enter Tryz.func9, Tryz.ntmps9
      go_upto_region 1 with fail
      rw [HW.out]
      go_wp2_with fail
      refine R2.out.mono ?_; rintro e w2 ⟨rfl, hb⟩
      have HBB := Lib.hid hb
      obtain ⟨d0, d1⟩ := HCC.out w2 hb
      clear hb
      go_wp2_with fail
      go_ret
      exact ⟨false, rfl, ⟨fun h => Bool.noConfusion h, fun h => by have := h.2.1; have := HN.out; omega⟩, HB.out.trans (HBB.out.mono HB.out.size)⟩
    · have t1 : ((n : Int) == 0) = false := by simp; exact hz
      have t1' : (n == 0) = false := by simp; exact hz
      have HZ : Hid (0 < n) := Lib.hid (by omega)
      clear hz
      have HIN : Hid (InE n E) := Lib.hid (by have h9 := HRP.out.ends; rw [HN.out] at h9; exact h9)
      go_enter Tryz.func9, Tryz.ntmps9
      go_upto_region 1 with fail
      rw [HW.out]
      go_wp2_with fail
      refine R2.out.mono ?_; rintro e w2 ⟨rfl, hb⟩
      have HB2 := Lib.hid hb
      obtain ⟨d0, d1⟩ := HCC.out w2 hb
      have HO0 : Hid ((w2.alloc (.cells #[.int .i64 0] 3)).ownsRow w2.heap.size 3 1 (.slice (some ⟨w2.heap.size, 0, none⟩) 1 1) 1 (intCells [0])) := Lib.hid ⟨rfl, Or.inr ⟨_, 1, _, rfl, Nat.le_refl _, Whole.new w2 _ _, by decide, by decide, rfl, rfl⟩⟩
      have HBA : Hid (Below w2.heap.size w2 (w2.alloc (.cells #[.int .i64 0] 3))) := Lib.hid ((Below.refl _ _).alloc (Nat.le_refl _) _)
      clear hb c0 c1
      go_wp2_with fail
      clear d0 d1 t1 t1'
      go_loopg [3, 4] n (fun g rv y wr => ∃ i R, i ≤ n ∧ i ≤ R.length ∧ g = n - i ∧ y = .int .i64 (i : Nat) ∧ Bfs n E i 0 R ∧ wr.ownsRow w2.heap.size 3 1 rv R.length (intCells R) ∧ Below w2.heap.size w2 wr)
      case atStart => exact ⟨0, [0], Nat.zero_le _, Nat.zero_le _, rfl, rfl, Bfs.start HZ.out, HO0.out, HBA.out⟩
      case round =>
        obtain ⟨i, R, hi, hiR, rfl, rfl, hbf, hown, hbr⟩ := hrel
        obtain ⟨r, hr⟩ : ∃ r, R.length = r := ⟨_, rfl⟩
        have hrn : r ≤ n := by rw [← hr]; exact hbf.len
        rw [hr] at hown hiR
        obtain ⟨Ar, cr, rfl⟩ := own_form hown
        have HBF := Lib.hid hbf; have HOW := Lib.hid hown; have HBR := Lib.hid hbr; have HR := Lib.hid hr
        obtain ⟨d0, d1⟩ := HCC.out wr (HB2.out.trans (hbr.mono HB2.out.size))
        by_cases hlt : i < r
        · have t2 : decide (i < r) = true := decide_eq_true hlt
          have t2' : decide ((i : Int) < r) = true := decide_eq_true (by omega)
          have HLT := Lib.hid hlt
          obtain ⟨w5, hw5⟩ : ∃ W, W = wr := ⟨_, rfl⟩
          subst hw5
          clear hi hiR hrn hbf hown hbr hr hlt
          go_wp2_with fail
          clear d0 d1 t2 t2'
          go_loopg [3, 25] n (fun g rv y wr => ∃ v R, v ≤ n ∧ i < R.length ∧ g = n - v ∧ y = .int .i64 (v : Nat) ∧ Bfs n E i v R ∧ wr.ownsRow w2.heap.size 3 1 rv R.length (intCells R) ∧ Below w2.heap.size w2 wr)
          case atStart => exact ⟨0, R, Nat.zero_le _, by rw [HR.out]; exact HLT.out, rfl, rfl, HBF.out, by rw [HR.out]; exact HOW.out, HBR.out⟩
          case round =>
            obtain ⟨v, R, hv, hiR, rfl, rfl, hbf, hown, hbr⟩ := hrel
            obtain ⟨r, hr⟩ : ∃ r, R.length = r := ⟨_, rfl⟩
            have hrn : r ≤ n := by rw [← hr]; exact hbf.len
            rw [hr] at hown hiR
            obtain ⟨Ar, cr, rfl⟩ := own_form hown
            have HBF := Lib.hid hbf; have HOW := Lib.hid hown; have HBR := Lib.hid hbr; have HR := Lib.hid hr
            obtain ⟨d0, d1⟩ := HCC.out wr (HB2.out.trans (hbr.mono HB2.out.size))
            by_cases hlv : v < n
            · have t3 : decide (v < n) = true := decide_eq_true hlv
              have t3' : decide ((v : Int) < n) = true := decide_eq_true (by omega)
              have hsq := own_seq hown
              obtain ⟨br, orr, e1, c2⟩ := hsq.pos (i := i) (by rw [hr]; exact hiR)
              subst e1
              obtain ⟨x, hx⟩ : ∃ x, R.getD i 0 = x := ⟨_, rfl⟩
              rw [hx] at c2
              have HX := Lib.hid hx
              have i1 : (i : Int) < r := by omega
              have v8 : v ≤ 7 := by omega
              have r8 : r ≤ 8 := by omega
              have HLV := Lib.hid hlv; have HIR := Lib.hid hiR
              have hbw : Below w1.heap.size w1 wr := HB2.out.trans (hbr.mono HB2.out.size)
              obtain ⟨q, hq⟩ : ∃ q, decide (ris (x, (v : Int)) ∈ E) = q := ⟨_, rfl⟩
              obtain ⟨z, hz⟩ : ∃ z, R.contains (v : Int) = z := ⟨_, rfl⟩
              have HQ := Lib.hid hq; have HZC := Lib.hid hz
              have HH : Hid (∀ W, Below wr.heap.size wr W → Calls Tryz.prog 34 #[.agg #[.slice Al n cl, .slice Ae m ce], .int .i64 x, .int .i64 (v : Int)] W fun e w' => e = .returned (.bool q) ∧ Below wr.heap.size wr w') := Lib.hid (fun W hW => (has_any (HE.out W (hbw.trans (hW.mono hbw.size))) H2.out x v).mono fun e w' h => ⟨by rw [h.1, hq], hW.trans (h.2.mono hW.size)⟩)
              have CI : Hid (∀ W, Below wr.heap.size wr W → Calls Tryz.prog 35 #[.slice (some ⟨br, orr, none⟩) r cr, .int .i64 (v : Int)] W fun e w' => e = .returned (.bool z) ∧ w' = W) := Lib.hid (fun W hW => (conI_any R v _ W (hsq.below hW (Nat.le_refl _)) (by rw [hr]; omega)).mono fun e w' h => ⟨by rw [h.1, hz], h.2⟩)
              have KS : Hid (∀ W, Below wr.heap.size wr W → Below wr.heap.size wr W ∧ W.cell? ⟨w.heap.size, 0, none⟩ = some (.slice Al n cl) ∧ W.cell? ⟨w.heap.size, 1, none⟩ = some (.slice Ae m ce) ∧ W.cell? ⟨br, orr + i, none⟩ = some (.int .i64 x)) := Lib.hid (fun W hW => ⟨hW, (HCC.out W (hbw.trans (hW.mono hbw.size))).1, (HCC.out W (hbw.trans (hW.mono hbw.size))).2, (hW.cell (p := ⟨br, orr + i, none⟩) (World.block_lt_of_cell? _ _ c2)).trans c2⟩)
              clear hv hiR hrn hbf hown hbr hr hlv hx hbw hq hz hsq
              cases q with
              | false =>
                go_upto_region 10 with fail
                go_cut [40] (fun x wx => x = .bool false ∧ Below wr.heap.size wr wx)
                case first =>
                  refine wp_region_held_drew (S := fun W => Below wr.heap.size wr W ∧ W.cell? ⟨w.heap.size, 0, none⟩ = some (.slice Al n cl) ∧ W.cell? ⟨w.heap.size, 1, none⟩ = some (.slice Ae m ce) ∧ W.cell? ⟨br, orr + i, none⟩ = some (.int .i64 x)) (by kernel_rfl) ?_ (fun hHeld => ?_)
                  · (try dsimp only); exact KS.out _ (below_drewN' (Below.refl _ _) 1)
                  refine wpAnyH_take (i := 0) (oi := ({ dst := some 28, op := Op.load 31 (Operand.tmp 1), type := 31, pos := "pat.go:141", after := #[], guard := none } : Oper)) (v := ?vg1) rfl (by kernel_rfl) (by kernel_rfl) (by kernel_rfl) (fun _ _ _ h => h) (Or.inl ⟨by rfl, ?hyg1⟩) (by assumption) ?restg1
                  case hyg1 => intro w hSw; (try dsimp only at hSw); go_simp; all_goals (with_reducible rfl)
                  try simp only [Act.put, List.setIfInBounds_toArray, List.set_cons_zero, List.set_cons_succ]
                  refine wpAnyH_take (i := 1) (oi := ({ dst := some 29, op := Op.move (Operand.tmp 3), type := 22, pos := "pat.go:141", after := #[], guard := none } : Oper)) (v := ?vg2) rfl (by kernel_rfl) (by kernel_rfl) (by kernel_rfl) (fun _ _ _ h => h) (Or.inl ⟨by rfl, ?hyg2⟩) (by assumption) ?restg2
                  case hyg2 => intro w hSw; (try dsimp only at hSw); go_simp; all_goals (with_reducible rfl)
                  try simp only [Act.put, List.setIfInBounds_toArray, List.set_cons_zero, List.set_cons_succ]
                  refine wpAnyH_take (i := 2) (oi := ({ dst := some 30, op := Op.move (Operand.tmp 4), type := 3, pos := "pat.go:141", after := #[], guard := none } : Oper)) (v := ?vg3) rfl (by kernel_rfl) (by kernel_rfl) (by kernel_rfl) (fun _ _ _ h => h) (Or.inl ⟨by rfl, ?hyg3⟩) (by assumption) ?restg3
                  case hyg3 => intro w hSw; (try dsimp only at hSw); go_simp; all_goals (with_reducible rfl)
                  try simp only [Act.put, List.setIfInBounds_toArray, List.set_cons_zero, List.set_cons_succ]
                  refine wpAnyH_take (i := 3) (oi := ({ dst := some 31, op := Op.indexAddr 22 (Operand.tmp 29) (Operand.tmp 30), type := 0, pos := "pat.go:141", after := #[{ on := 1, ground := Ground.data }, { on := 2, ground := Ground.data }], guard := none } : Oper)) (v := ?vg4) rfl (by kernel_rfl) (by kernel_rfl) (by kernel_rfl) (fun _ _ _ h => h) (Or.inl ⟨by rfl, ?hyg4⟩) (by assumption) ?restg4
                  case hyg4 => intro w hSw; (try dsimp only at hSw); go_simp; all_goals (with_reducible rfl)
                  try simp only [Act.put, List.setIfInBounds_toArray, List.set_cons_zero, List.set_cons_succ]
                  refine wpAnyH_take (i := 4) (oi := ({ dst := some 32, op := Op.load 3 (Operand.tmp 31), type := 3, pos := "pat.go:141", after := #[{ on := 3, ground := Ground.data }], guard := none } : Oper)) (v := ?vg5) rfl (by kernel_rfl) (by kernel_rfl) (by kernel_rfl) (fun _ _ _ h => h) (Or.inl ⟨by rfl, ?hyg5⟩) (by assumption) ?restg5
                  case hyg5 => intro w hSw; (try dsimp only at hSw); go_simp; all_goals (with_reducible rfl)
                  try simp only [Act.put, List.setIfInBounds_toArray, List.set_cons_zero, List.set_cons_succ]
                  refine wpAnyH_take (i := 5) (oi := ({ dst := some 33, op := Op.move (Operand.tmp 5), type := 3, pos := "pat.go:141", after := #[], guard := none } : Oper)) (v := ?vg6) rfl (by kernel_rfl) (by kernel_rfl) (by kernel_rfl) (fun _ _ _ h => h) (Or.inl ⟨by rfl, ?hyg6⟩) (by assumption) ?restg6
                  case hyg6 => intro w hSw; (try dsimp only at hSw); go_simp; all_goals (with_reducible rfl)
                  try simp only [Act.put, List.setIfInBounds_toArray, List.set_cons_zero, List.set_cons_succ]
                  refine wpAnyH_ready (rs := [6]) (by kernel_rfl) (by simp) ?_
                  refine (AllReadyH.cons (o := ({ dst := some 34, op := Op.call { callee := Callee.value (Operand.func 34), args := #[Operand.tmp 28, Operand.tmp 32, Operand.tmp 33], argTypes := #[31, 3, 3] }, type := 4, pos := "pat.go:141", after := #[{ on := 0, ground := Ground.data }, { on := 4, ground := Ground.data }, { on := 5, ground := Ground.data }], guard := none } : Oper)) rfl (fun K hK => ?_) AllReadyH.nil)
                  go_simp
                  refine (HH.out _ (below_drewN' (Below.refl _ _) 1)).mono ?_; rintro e' wH ⟨rfl, hbH⟩
                  refine hK.out _ _ ?_ (fun hHeld => ?_)
                  · (try dsimp only); exact KS.out _ hbH
                  clear hK K
                  try simp only [Act.put, List.setIfInBounds_toArray, List.set_cons_zero, List.set_cons_succ]
                  refine wpAnyH_take (i := 7) (oi := ({ dst := some 35, op := Op.move (Operand.tmp 34), type := 4, pos := "pat.go:141", after := #[{ on := 6, ground := Ground.data }, { on := 6, ground := Ground.chain }], guard := none } : Oper)) (v := ?vg7) rfl (by kernel_rfl) (by kernel_rfl) (by kernel_rfl) (fun _ _ _ h => h) (Or.inl ⟨by rfl, ?hyg7⟩) (by assumption) ?restg7
                  case hyg7 => intro w hSw; (try dsimp only at hSw); go_simp; all_goals (with_reducible rfl)
                  try simp only [Act.put, List.setIfInBounds_toArray, List.set_cons_zero, List.set_cons_succ]
                  refine wpAnyH_take (i := 8) (oi := ({ dst := some 36, op := Op.move (Operand.tmp 3), type := 22, pos := "pat.go:141", after := #[{ on := 7, ground := Ground.guard }], guard := some (7, true) } : Oper)) (v := undef) rfl (by kernel_rfl) (by kernel_rfl) (by kernel_rfl) (fun _ _ _ h => h) (Or.inr ⟨by rfl, rfl⟩) (by assumption) ?_
                  try simp only [Act.put, List.setIfInBounds_toArray, List.set_cons_zero, List.set_cons_succ]
                  refine wpAnyH_take (i := 9) (oi := ({ dst := some 37, op := Op.move (Operand.tmp 5), type := 3, pos := "pat.go:141", after := #[{ on := 7, ground := Ground.guard }], guard := some (7, true) } : Oper)) (v := undef) rfl (by kernel_rfl) (by kernel_rfl) (by kernel_rfl) (fun _ _ _ h => h) (Or.inr ⟨by rfl, rfl⟩) (by assumption) ?_
                  try simp only [Act.put, List.setIfInBounds_toArray, List.set_cons_zero, List.set_cons_succ]
                  refine wpAnyH_take (i := 10) (oi := ({ dst := some 38, op := Op.call { callee := Callee.value (Operand.func 35), args := #[Operand.tmp 36, Operand.tmp 37], argTypes := #[22, 3] }, type := 4, pos := "pat.go:141", after := #[{ on := 8, ground := Ground.data }, { on := 9, ground := Ground.data }, { on := 7, ground := Ground.chain }, { on := 7, ground := Ground.guard }], guard := some (7, true) } : Oper)) (v := undef) rfl (by kernel_rfl) (by kernel_rfl) (by kernel_rfl) (fun _ _ _ h => h) (Or.inr ⟨by rfl, rfl⟩) (by assumption) ?_
                  try simp only [Act.put, List.setIfInBounds_toArray, List.set_cons_zero, List.set_cons_succ]
                  refine wpAnyH_take (i := 11) (oi := ({ dst := some 39, op := Op.unOp UnOp.not 4 (Operand.tmp 38), type := 4, pos := "pat.go:141", after := #[{ on := 10, ground := Ground.data }, { on := 7, ground := Ground.guard }], guard := some (7, true) } : Oper)) (v := undef) rfl (by kernel_rfl) (by kernel_rfl) (by kernel_rfl) (fun _ _ _ h => h) (Or.inr ⟨by rfl, rfl⟩) (by assumption) ?_
                  try simp only [Act.put, List.setIfInBounds_toArray, List.set_cons_zero, List.set_cons_succ]
                  refine wpAnyH_take (i := 12) (oi := ({ dst := some 40, op := Op.pick (Operand.tmp 35) (Operand.tmp 39) (Operand.const (Value.bool false)), type := 4, pos := "pat.go:141", after := #[{ on := 7, ground := Ground.data }, { on := 11, ground := Ground.data }], guard := none } : Oper)) (v := ?vg12) rfl (by kernel_rfl) (by kernel_rfl) (by kernel_rfl) (fun _ _ _ h => h) (Or.inl ⟨by rfl, ?hyg12⟩) (by assumption) ?restg12
                  case hyg12 => intro w hSw; (try dsimp only at hSw); go_simp; all_goals (with_reducible rfl)
                  try simp only [Act.put, List.setIfInBounds_toArray, List.set_cons_zero, List.set_cons_succ]
                  refine wpAnyH_done (by kernel_rfl) ?_ _
                  go_wp2_with fail
                  go_meet
                  exact ⟨rfl, hHeld.1⟩
                case rest =>
                  obtain ⟨rfl, hbx⟩ := hcut
                  have HBX := Lib.hid hbx
                  clear hbx d0 d1 c2
                  go_wp2_with fail
                  go_roundg (n - (v + 1))
                  case rel => exact ⟨v + 1, R, HLV.out, by rw [HR.out]; exact HIR.out, rfl, rfl, HBF.out.skip (Or.inl (by unfold AdjE; rw [HX.out]; exact of_decide_eq_false HQ.out)), by rw [HR.out]; exact own_below HOW.out HBX.out (Nat.le_refl _), HBR.out.trans (HBX.out.mono HBR.out.size)⟩
                  case measure => have := HLV.out; omega
              | true =>
                cases z with
                | true =>
                  go_upto_region 10 with fail
                  go_cut [40] (fun x wx => x = .bool false ∧ Below wr.heap.size wr wx)
                  case first =>
                    go_region_with (first | (go_at_call 34; refine (HH.out _ (by first | assumption | exact Below.refl _ _ | exact below_drewN' (Below.refl _ _) _)).mono ?_; rintro e' wH ⟨rfl, hbH⟩) | (go_at_call 35; refine (CI.out _ (by assumption)).mono ?_; rintro e' wC ⟨rfl, hwC⟩; obtain rfl := hwC.symm))
                    all_goals
                      go_wp2_with fail
                      go_meet
                      exact ⟨rfl, by assumption⟩
                  case rest =>
                    obtain ⟨rfl, hbx⟩ := hcut
                    have HBX := Lib.hid hbx
                    clear hbx d0 d1 c2
                    go_wp2_with fail
                    go_roundg (n - (v + 1))
                    case rel => exact ⟨v + 1, R, HLV.out, by rw [HR.out]; exact HIR.out, rfl, rfl, HBF.out.skip (Or.inr (List.contains_iff_mem.1 HZC.out)), by rw [HR.out]; exact own_below HOW.out HBX.out (Nat.le_refl _), HBR.out.trans (HBX.out.mono HBR.out.size)⟩
                    case measure => have := HLV.out; omega
                | false =>
                  go_upto_region 10 with fail
                  go_cut [40] (fun x wx => x = .bool true ∧ Below wr.heap.size wr wx)
                  case first =>
                    go_region_with (first | (go_at_call 34; refine (HH.out _ (by first | assumption | exact Below.refl _ _ | exact below_drewN' (Below.refl _ _) _)).mono ?_; rintro e' wH ⟨rfl, hbH⟩) | (go_at_call 35; refine (CI.out _ (by assumption)).mono ?_; rintro e' wC ⟨rfl, hwC⟩; obtain rfl := hwC.symm))
                    all_goals
                      go_wp2_with fail
                      go_meet
                      exact ⟨rfl, by assumption⟩
                  case rest =>
                    obtain ⟨rfl, hbx⟩ := hcut
                    have HBX := Lib.hid hbx
                    clear hbx d0 d1 c2
                    obtain ⟨wx, hwx⟩ : ∃ W, W = wc := ⟨_, rfl⟩
                    subst hwx
                    have HOX := Lib.hid (own_below HOW.out HBX.out (Nat.le_refl _))
                    have hsx : w2.heap.size ≤ wx.heap.size := Nat.le_trans HBR.out.size HBX.out.size
                    go_wp2_with (at_builtin; refine wpList_app1g _ rfl _ _ 22 rfl w2.heap.size 3 i0 (.int .i64 0) 8 Tryz.underlying22 hi0 hz0 hz1 hz2 rfl _ r _ rfl HOX.out _ rfl rfl (by omega) (by omega) hsx ?_)
                    intro A4 c4 w4 hown4 hgrow4
                    have HO4 : Hid (w4.ownsRow w2.heap.size 3 1 (.slice A4 (r + 1) c4) (r + 1) (intCells (R ++ [(v : Int)]))) := Lib.hid (by rw [intCells_app]; exact hown4)
                    have HB4 := Lib.hid (hgrow4.below HOX.out (HBR.out.trans (HBX.out.mono HBR.out.size)) (Nat.le_refl _) hsx)
                    clear hown4 hgrow4
                    go_wp2_with fail
                    go_roundg (n - (v + 1))
                    case rel => exact ⟨v + 1, R ++ [(v : Int)], HLV.out, by rw [List.length_append, HR.out]; have := HIR.out; omega, rfl, rfl, HBF.out.take (by rw [HR.out]; exact HIR.out) HLV.out (by unfold AdjE; rw [HX.out]; exact of_decide_eq_true HQ.out) (fun hm => by have h9 := HZC.out; rw [List.contains_iff_mem.2 hm] at h9; cases h9), by rw [List.length_append, HR.out]; exact HO4.out, HB4.out⟩
                    case measure => have := HLV.out; omega
            · have t3 : decide (v < n) = false := decide_eq_false hlv
              have t3' : decide ((v : Int) < n) = false := decide_eq_false (by omega)
              obtain rfl : n = v := by omega
              have hle : i + 1 ≤ n := by omega
              have i8 : i ≤ 8 := by omega
              have HLE := Lib.hid hle; have HIR := Lib.hid hiR
              clear hv hiR hrn hbf hown hbr hr hlv hle
              go_wp2_with fail
              go_roundg (n - (i + 1))
              case rel => exact ⟨i + 1, R, HLE.out, by rw [HR.out]; exact HIR.out, rfl, rfl, HBF.out.next, by rw [HR.out]; exact HOW.out, HBR.out⟩
              case measure => have := HLE.out; omega
        · have t2 : decide (i < r) = false := decide_eq_false hlt
          have t2' : decide ((i : Int) < r) = false := decide_eq_false (by omega)
          obtain rfl : i = r := by omega
          have HD : Hid (i = n ↔ Con n E) := Lib.hid (by
            have h9 := HBF.out
            rw [← HR.out] at h9 ⊢
            exact h9.done HIN.out)
          have HBW := Lib.hid (HB.out.trans ((HB2.out.trans (hbr.mono HB2.out.size)).mono HB.out.size))
          have en : ((i : Int) == (n : Int)) = (i == n) := by
            by_cases h : i = n
            · subst h; simp
            · rw [show (i == n) = false by simp; exact h]; simp; omega
          clear hi hiR hrn hbf hown hbr hr hlt
          go_wp2_with fail
          go_ret
          refine ⟨i == n, rfl, ?_, HBW.out⟩
          rw [beq_iff_eq, HD.out, HN.out]
          exact ⟨fun h => ⟨HRP.out, HZ.out, h⟩, fun h => h.2.2⟩
end Go.Proofs.YtgolcogigpnbeaaGreatDoor
