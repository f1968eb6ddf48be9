/- rank.Of: its contract. -/
import Derived.Test.YtgphdngfbcjmcaaGreatDoorRank4
import Derived.Deep.DeepCutAuto
import Derived.Deep.RegionHeld3
namespace Go.Proofs.YtgphdngfbcjmcaaGreatDoor
open Go.RowKit

/-- Ranks of an odag's paths. -/
def RanksV (w : World) (v : Value) (n : Nat) (C : List (List Int)) : Prop :=
  ∃ rb tt ends, v = .pointer (some ⟨rb, 0, none⟩) ∧ (∀ j, j < n → RkLev w rb n C j) ∧ w.cell? ⟨rb, 1, none⟩ = some tt ∧ w.cell? ⟨rb, 2, none⟩ = some ends ∧ SeqV w tt (rowP C 0) ∧ SeqV w ends (endsL (cntP C (n - 1) 0) (rowP C 0))
theorem RanksV.below {w w' : World} {v : Value} {n : Nat} {C : List (List Int)} (h : RanksV w v n C) {B : Nat} (hb : Below B w w') (hB : w.heap.size ≤ B) : RanksV w' v n C := by
  obtain ⟨rb, tt, ends, e, h1, h2, h3, h4, h5⟩ := h
  exact ⟨rb, tt, ends, e, fun j hj => (h1 j hj).below hb hB, cell_below h2 hb hB, cell_below h3 hb hB, h4.below hb hB, h5.below hb hB⟩
def RkCut2 (w : World) (n : Nat) (C : List (List Int)) (v : Value) (wx : World) : Prop := ∃ V, V = wx ∧ RkCut w n C v V
/-- Ranks that are laid, in the loop. -/
def RkLoop (w : World) (rb Bk Bb n q : Nat) (C : List (List Int)) (wr : World) : Prop := ∃ x us vs, x ≤ wr.heap.size ∧ RkM w rb Bk Bb n q q x C us vs wr

set_option maxRecDepth 100000 in
set_option maxHeartbeats 4000000 in
theorem rankOf_any {w : World} {v : Value} {n : Nat} {C : List (List Int)} (h : OdagC w v n C) (hn1 : 1 ≤ n) (hn8 : n ≤ 8) (hC : C.length ≤ 100000) (hbd : ∀ r i a, r + i + 1 = n → a ∈ rowP C i → cntP C r i a ≤ 9223372036854775807) (htot : ((rowP C 0).map (cntP C (n - 1) 0)).sum ≤ 9223372036854775807) :
    Calls Tryz.prog 10 #[v] w fun e w' => ∃ p, e = .returned (.tuple #[p, .nilIface]) ∧ RanksV w' p n C ∧ Below w.heap.size w w' := by
  have HO := Lib.hid h
  have HLEN := Lib.hid (fun W (hW : Below w.heap.size w W) => len_any (h.below hW (Nat.le_refl _)))
  obtain ⟨ob, hob⟩ : ∃ ob : Nat, v = .pointer (some ⟨ob, 0, none⟩) := by
    obtain ⟨b, _, _, e, _⟩ := h
    exact ⟨b, e⟩
  subst hob
  have HBD := Lib.hid hbd; have HTOT := Lib.hid htot; have HCL := Lib.hid hC
  have i8 : (n : Int) ≤ 8 := by omega
  have i0 : (0 : Int) ≤ n := by omega
  have hmkR := fun V => run_rows n (by omega) V
  have hmkB := fun V => run_brss n (by omega) V
  clear h hbd htot hC
  go_enter Tryz.func10, Tryz.ntmps10
  go_upto_region 3 with fail
  go_cut [4] (fun x wx => RkCut2 w n C x wx)
  case first =>
    refine wp_region_held_drew (S := fun W => Below w.heap.size w W) (by kernel_rfl) ?_ (fun hHeld => ?_)
    · (try dsimp only); exact below_drewN' (Below.refl w.heap.size w) 1
    refine wpAnyH_take (i := 0) (oi := ({ dst := some 15, op := Op.move (Operand.tmp 0), type := 25, pos := "rank.go:51", after := #[], guard := none } : Oper)) (v := ?vg1) rfl (by kernel_rfl) (by kernel_rfl) (by kernel_rfl) (fun _ _ _ h => h) (Or.inl ⟨by rfl, ?hyg1⟩) (by assumption) ?restg1
    case hyg1 => intro w hSw; (try dsimp only at hSw); go_simp; all_goals (with_reducible rfl)
    try simp only [Act.put, List.setIfInBounds_toArray, List.set_cons_zero, List.set_cons_succ]
    refine wpAnyH_take (i := 3) (oi := ({ dst := some 18, op := Op.move (Operand.tmp 0), type := 25, pos := "rank.go:51", after := #[], guard := none } : Oper)) (v := ?vg2) rfl (by kernel_rfl) (by kernel_rfl) (by kernel_rfl) (fun _ _ _ h => h) (Or.inl ⟨by rfl, ?hyg2⟩) (by assumption) ?restg2
    case hyg2 => intro w hSw; (try dsimp only at hSw); go_simp; all_goals (with_reducible rfl)
    try simp only [Act.put, List.setIfInBounds_toArray, List.set_cons_zero, List.set_cons_succ]
    refine wpAnyH_ready (rs := [1]) (by kernel_rfl) (by simp) ?_
    refine (AllReadyH.cons (o := ({ dst := some 16, op := Op.call { callee := Callee.value (Operand.func 24), args := #[Operand.tmp 15], argTypes := #[25] }, type := 3, pos := "rank.go:51", after := #[{ on := 0, ground := Ground.data }], guard := none } : Oper)) rfl (fun K hK => ?_) AllReadyH.nil)
    go_simp
    refine (HLEN.out _ (below_drewN' (Below.refl w.heap.size w) 1)).mono ?_; rintro e' wL ⟨rfl, rfl⟩
    refine hK.out _ _ ?_ (fun hHeld => ?_)
    · (try dsimp only); exact (below_drewN' (Below.refl w.heap.size w) 1)
    clear hK K
    try simp only [Act.put, List.setIfInBounds_toArray, List.set_cons_zero, List.set_cons_succ]
    refine wpAnyH_ready (rs := [2, 4]) (by kernel_rfl) (by simp) ?_
    refine (AllReadyH.cons (o := ({ dst := some 17, op := Op.makeSlice 22 (Operand.tmp 16) (Operand.tmp 16), type := 22, pos := "rank.go:51", after := #[{ on := 1, ground := Ground.data }, { on := 1, ground := Ground.data }], guard := none } : Oper)) rfl (fun K hK => ?_) (AllReadyH.cons (o := ({ dst := some 19, op := Op.call { callee := Callee.value (Operand.func 24), args := #[Operand.tmp 18], argTypes := #[25] }, type := 3, pos := "rank.go:51", after := #[{ on := 3, ground := Ground.data }, { on := 1, ground := Ground.chain }], guard := none } : Oper)) rfl (fun K hK => ?_) AllReadyH.nil))
    · go_simp
      refine hK.out _ _ ?_ (fun hHeld => ?_)
      · (try dsimp only); exact ((below_drewN' (Below.refl w.heap.size w) 1).alloc (below_drewN' (Below.refl w.heap.size w) 1).size (.cells (madeCells #[.slice none 0 0] n) 23))
      clear hK K
      try simp only [Act.put, List.setIfInBounds_toArray, List.set_cons_zero, List.set_cons_succ]
      refine wpAnyH_ready (rs := [4]) (by kernel_rfl) (by simp) ?_
      refine (AllReadyH.cons (o := ({ dst := some 19, op := Op.call { callee := Callee.value (Operand.func 24), args := #[Operand.tmp 18], argTypes := #[25] }, type := 3, pos := "rank.go:51", after := #[{ on := 3, ground := Ground.data }, { on := 1, ground := Ground.chain }], guard := none } : Oper)) rfl (fun K hK => ?_) AllReadyH.nil)
      go_simp
      refine (HLEN.out _ ((below_drewN' (Below.refl w.heap.size w) 1).alloc (below_drewN' (Below.refl w.heap.size w) 1).size (.cells (madeCells #[.slice none 0 0] n) 23))).mono ?_; rintro e' wL ⟨rfl, rfl⟩
      refine hK.out _ _ ?_ (fun hHeld => ?_)
      · (try dsimp only); exact ((below_drewN' (Below.refl w.heap.size w) 1).alloc (below_drewN' (Below.refl w.heap.size w) 1).size (.cells (madeCells #[.slice none 0 0] n) 23))
      clear hK K
      try simp only [Act.put, List.setIfInBounds_toArray, List.set_cons_zero, List.set_cons_succ]
      refine wpAnyH_ready (rs := [5]) (by kernel_rfl) (by simp) ?_
      refine (AllReadyH.cons (o := ({ dst := some 20, op := Op.makeSlice 62 (Operand.tmp 19) (Operand.tmp 19), type := 62, pos := "rank.go:51", after := #[{ on := 4, ground := Ground.data }, { on := 4, ground := Ground.data }], guard := none } : Oper)) rfl (fun K hK => ?_) AllReadyH.nil)
      go_simp
      refine hK.out _ _ ?_ (fun hHeld => ?_)
      · (try dsimp only); exact (((below_drewN' (Below.refl w.heap.size w) 1).alloc (below_drewN' (Below.refl w.heap.size w) 1).size (.cells (madeCells #[.slice none 0 0] n) 23)).alloc ((below_drewN' (Below.refl w.heap.size w) 1).alloc (below_drewN' (Below.refl w.heap.size w) 1).size (.cells (madeCells #[.slice none 0 0] n) 23)).size (.cells (madeCells #[.slice none 0 0] n) 69))
      clear hK K
      try simp only [Act.put, List.setIfInBounds_toArray, List.set_cons_zero, List.set_cons_succ]
      refine wpAnyH_take (i := 6) (oi := ({ dst := some 21, op := Op.build 67 #[(0, Operand.tmp 17), (2, Operand.tmp 20)], type := 67, pos := "rank.go:51", after := #[{ on := 2, ground := Ground.data }, { on := 5, ground := Ground.data }], guard := none } : Oper)) (v := ?vg3) rfl (by kernel_rfl) (by kernel_rfl) (by kernel_rfl) (fun _ _ _ h => h) (Or.inl ⟨by rfl, ?hyg3⟩) (by assumption) ?restg3
      case hyg3 => intro w hSw; (try dsimp only at hSw); go_simp; all_goals (with_reducible rfl)
      try simp only [Act.put, List.setIfInBounds_toArray, List.set_cons_zero, List.set_cons_succ]
      refine wpAnyH_ready (rs := [7]) (by kernel_rfl) (by simp) ?_
      refine (AllReadyH.cons (o := ({ dst := some 22, op := Op.box 67 (Operand.tmp 21), type := 28, pos := "rank.go:51", after := #[{ on := 6, ground := Ground.data }], guard := none } : Oper)) rfl (fun K hK => ?_) AllReadyH.nil)
      go_simp
      refine hK.out _ _ ?_ (fun hHeld => ?_)
      · (try dsimp only); exact ((((below_drewN' (Below.refl w.heap.size w) 1).alloc (below_drewN' (Below.refl w.heap.size w) 1).size (.cells (madeCells #[.slice none 0 0] n) 23)).alloc ((below_drewN' (Below.refl w.heap.size w) 1).alloc (below_drewN' (Below.refl w.heap.size w) 1).size (.cells (madeCells #[.slice none 0 0] n) 23)).size (.cells (madeCells #[.slice none 0 0] n) 69)).alloc (((below_drewN' (Below.refl w.heap.size w) 1).alloc (below_drewN' (Below.refl w.heap.size w) 1).size (.cells (madeCells #[.slice none 0 0] n) 23)).alloc ((below_drewN' (Below.refl w.heap.size w) 1).alloc (below_drewN' (Below.refl w.heap.size w) 1).size (.cells (madeCells #[.slice none 0 0] n) 23)).size (.cells (madeCells #[.slice none 0 0] n) 69)).size _)
      clear hK K
      try simp only [Act.put, List.setIfInBounds_toArray, List.set_cons_zero, List.set_cons_succ]
      refine wpAnyH_take (i := 8) (oi := ({ dst := some 4, op := Op.assign (Operand.tmp 22), type := 28, pos := "rank.go:51", after := #[{ on := 7, ground := Ground.data }, { on := 4, ground := Ground.chain }, { on := 0, ground := Ground.phase }, { on := 1, ground := Ground.phase }, { on := 2, ground := Ground.phase }, { on := 3, ground := Ground.phase }, { on := 4, ground := Ground.phase }, { on := 5, ground := Ground.phase }, { on := 6, ground := Ground.phase }, { on := 7, ground := Ground.phase }], guard := none } : Oper)) (v := ?vg4) rfl (by kernel_rfl) (by kernel_rfl) (by kernel_rfl) (fun _ _ _ h => h) (Or.inl ⟨by rfl, ?hyg4⟩) (by assumption) ?restg4
      case hyg4 => intro w hSw; (try dsimp only at hSw); go_simp; all_goals (with_reducible rfl)
      try simp only [Act.put, List.setIfInBounds_toArray, List.set_cons_zero, List.set_cons_succ]
      refine wpAnyH_done (by kernel_rfl) ?_ _
      go_wp2_with fail
      go_meet
      first
        | exact ⟨_, rfl, rk_laid (three_laid w.drew _ _ _ _ _ _).2.2.1 (three_laid w.drew _ _ _ _ _ _).1 (three_laid w.drew _ _ _ _ _ _).2.1 ((below_drewN' (Below.refl _ _) 1).trans (three_laid w.drew _ _ _ _ _ _).2.2.2) (by show w.heap.size ≤ w.heap.size + 1 + 1; omega) (by first | exact Nat.le_refl _ | exact Nat.le_succ _) (by first | exact Nat.le_refl _ | exact Nat.le_succ _)⟩
        | exact ⟨_, rfl, rk_laid (three_laid w.drew _ _ _ _ _ _).2.2.1 (three_laid w.drew _ _ _ _ _ _).2.1 (three_laid w.drew _ _ _ _ _ _).1 ((below_drewN' (Below.refl _ _) 1).trans (three_laid w.drew _ _ _ _ _ _).2.2.2) (by show w.heap.size ≤ w.heap.size + 1 + 1; omega) (by first | exact Nat.le_refl _ | exact Nat.le_succ _) (by first | exact Nat.le_refl _ | exact Nat.le_succ _)⟩
    · go_simp
      refine (HLEN.out _ (below_drewN' (Below.refl w.heap.size w) 1)).mono ?_; rintro e' wL ⟨rfl, rfl⟩
      refine hK.out _ _ ?_ (fun hHeld => ?_)
      · (try dsimp only); exact (below_drewN' (Below.refl w.heap.size w) 1)
      clear hK K
      try simp only [Act.put, List.setIfInBounds_toArray, List.set_cons_zero, List.set_cons_succ]
      refine wpAnyH_ready (rs := [2, 5]) (by kernel_rfl) (by simp) ?_
      refine (AllReadyH.cons (o := ({ dst := some 17, op := Op.makeSlice 22 (Operand.tmp 16) (Operand.tmp 16), type := 22, pos := "rank.go:51", after := #[{ on := 1, ground := Ground.data }, { on := 1, ground := Ground.data }], guard := none } : Oper)) rfl (fun K hK => ?_) (AllReadyH.cons (o := ({ dst := some 20, op := Op.makeSlice 62 (Operand.tmp 19) (Operand.tmp 19), type := 62, pos := "rank.go:51", after := #[{ on := 4, ground := Ground.data }, { on := 4, ground := Ground.data }], guard := none } : Oper)) rfl (fun K hK => ?_) AllReadyH.nil))
      · go_simp
        refine hK.out _ _ ?_ (fun hHeld => ?_)
        · (try dsimp only); exact ((below_drewN' (Below.refl w.heap.size w) 1).alloc (below_drewN' (Below.refl w.heap.size w) 1).size (.cells (madeCells #[.slice none 0 0] n) 23))
        clear hK K
        try simp only [Act.put, List.setIfInBounds_toArray, List.set_cons_zero, List.set_cons_succ]
        refine wpAnyH_ready (rs := [5]) (by kernel_rfl) (by simp) ?_
        refine (AllReadyH.cons (o := ({ dst := some 20, op := Op.makeSlice 62 (Operand.tmp 19) (Operand.tmp 19), type := 62, pos := "rank.go:51", after := #[{ on := 4, ground := Ground.data }, { on := 4, ground := Ground.data }], guard := none } : Oper)) rfl (fun K hK => ?_) AllReadyH.nil)
        go_simp
        refine hK.out _ _ ?_ (fun hHeld => ?_)
        · (try dsimp only); exact (((below_drewN' (Below.refl w.heap.size w) 1).alloc (below_drewN' (Below.refl w.heap.size w) 1).size (.cells (madeCells #[.slice none 0 0] n) 23)).alloc ((below_drewN' (Below.refl w.heap.size w) 1).alloc (below_drewN' (Below.refl w.heap.size w) 1).size (.cells (madeCells #[.slice none 0 0] n) 23)).size (.cells (madeCells #[.slice none 0 0] n) 69))
        clear hK K
        try simp only [Act.put, List.setIfInBounds_toArray, List.set_cons_zero, List.set_cons_succ]
        refine wpAnyH_take (i := 6) (oi := ({ dst := some 21, op := Op.build 67 #[(0, Operand.tmp 17), (2, Operand.tmp 20)], type := 67, pos := "rank.go:51", after := #[{ on := 2, ground := Ground.data }, { on := 5, ground := Ground.data }], guard := none } : Oper)) (v := ?vg5) rfl (by kernel_rfl) (by kernel_rfl) (by kernel_rfl) (fun _ _ _ h => h) (Or.inl ⟨by rfl, ?hyg5⟩) (by assumption) ?restg5
        case hyg5 => intro w hSw; (try dsimp only at hSw); go_simp; all_goals (with_reducible rfl)
        try simp only [Act.put, List.setIfInBounds_toArray, List.set_cons_zero, List.set_cons_succ]
        refine wpAnyH_ready (rs := [7]) (by kernel_rfl) (by simp) ?_
        refine (AllReadyH.cons (o := ({ dst := some 22, op := Op.box 67 (Operand.tmp 21), type := 28, pos := "rank.go:51", after := #[{ on := 6, ground := Ground.data }], guard := none } : Oper)) rfl (fun K hK => ?_) AllReadyH.nil)
        go_simp
        refine hK.out _ _ ?_ (fun hHeld => ?_)
        · (try dsimp only); exact ((((below_drewN' (Below.refl w.heap.size w) 1).alloc (below_drewN' (Below.refl w.heap.size w) 1).size (.cells (madeCells #[.slice none 0 0] n) 23)).alloc ((below_drewN' (Below.refl w.heap.size w) 1).alloc (below_drewN' (Below.refl w.heap.size w) 1).size (.cells (madeCells #[.slice none 0 0] n) 23)).size (.cells (madeCells #[.slice none 0 0] n) 69)).alloc (((below_drewN' (Below.refl w.heap.size w) 1).alloc (below_drewN' (Below.refl w.heap.size w) 1).size (.cells (madeCells #[.slice none 0 0] n) 23)).alloc ((below_drewN' (Below.refl w.heap.size w) 1).alloc (below_drewN' (Below.refl w.heap.size w) 1).size (.cells (madeCells #[.slice none 0 0] n) 23)).size (.cells (madeCells #[.slice none 0 0] n) 69)).size _)
        clear hK K
        try simp only [Act.put, List.setIfInBounds_toArray, List.set_cons_zero, List.set_cons_succ]
        refine wpAnyH_take (i := 8) (oi := ({ dst := some 4, op := Op.assign (Operand.tmp 22), type := 28, pos := "rank.go:51", after := #[{ on := 7, ground := Ground.data }, { on := 4, ground := Ground.chain }, { on := 0, ground := Ground.phase }, { on := 1, ground := Ground.phase }, { on := 2, ground := Ground.phase }, { on := 3, ground := Ground.phase }, { on := 4, ground := Ground.phase }, { on := 5, ground := Ground.phase }, { on := 6, ground := Ground.phase }, { on := 7, ground := Ground.phase }], guard := none } : Oper)) (v := ?vg6) rfl (by kernel_rfl) (by kernel_rfl) (by kernel_rfl) (fun _ _ _ h => h) (Or.inl ⟨by rfl, ?hyg6⟩) (by assumption) ?restg6
        case hyg6 => intro w hSw; (try dsimp only at hSw); go_simp; all_goals (with_reducible rfl)
        try simp only [Act.put, List.setIfInBounds_toArray, List.set_cons_zero, List.set_cons_succ]
        refine wpAnyH_done (by kernel_rfl) ?_ _
        go_wp2_with fail
        go_meet
        first
          | exact ⟨_, rfl, rk_laid (three_laid w.drew _ _ _ _ _ _).2.2.1 (three_laid w.drew _ _ _ _ _ _).1 (three_laid w.drew _ _ _ _ _ _).2.1 ((below_drewN' (Below.refl _ _) 1).trans (three_laid w.drew _ _ _ _ _ _).2.2.2) (by show w.heap.size ≤ w.heap.size + 1 + 1; omega) (by first | exact Nat.le_refl _ | exact Nat.le_succ _) (by first | exact Nat.le_refl _ | exact Nat.le_succ _)⟩
          | exact ⟨_, rfl, rk_laid (three_laid w.drew _ _ _ _ _ _).2.2.1 (three_laid w.drew _ _ _ _ _ _).2.1 (three_laid w.drew _ _ _ _ _ _).1 ((below_drewN' (Below.refl _ _) 1).trans (three_laid w.drew _ _ _ _ _ _).2.2.2) (by show w.heap.size ≤ w.heap.size + 1 + 1; omega) (by first | exact Nat.le_refl _ | exact Nat.le_succ _) (by first | exact Nat.le_refl _ | exact Nat.le_succ _)⟩
      · go_simp
        refine hK.out _ _ ?_ (fun hHeld => ?_)
        · (try dsimp only); exact ((below_drewN' (Below.refl w.heap.size w) 1).alloc (below_drewN' (Below.refl w.heap.size w) 1).size (.cells (madeCells #[.slice none 0 0] n) 69))
        clear hK K
        try simp only [Act.put, List.setIfInBounds_toArray, List.set_cons_zero, List.set_cons_succ]
        refine wpAnyH_ready (rs := [2]) (by kernel_rfl) (by simp) ?_
        refine (AllReadyH.cons (o := ({ dst := some 17, op := Op.makeSlice 22 (Operand.tmp 16) (Operand.tmp 16), type := 22, pos := "rank.go:51", after := #[{ on := 1, ground := Ground.data }, { on := 1, ground := Ground.data }], guard := none } : Oper)) rfl (fun K hK => ?_) AllReadyH.nil)
        go_simp
        refine hK.out _ _ ?_ (fun hHeld => ?_)
        · (try dsimp only); exact (((below_drewN' (Below.refl w.heap.size w) 1).alloc (below_drewN' (Below.refl w.heap.size w) 1).size (.cells (madeCells #[.slice none 0 0] n) 69)).alloc ((below_drewN' (Below.refl w.heap.size w) 1).alloc (below_drewN' (Below.refl w.heap.size w) 1).size (.cells (madeCells #[.slice none 0 0] n) 69)).size (.cells (madeCells #[.slice none 0 0] n) 23))
        clear hK K
        try simp only [Act.put, List.setIfInBounds_toArray, List.set_cons_zero, List.set_cons_succ]
        refine wpAnyH_take (i := 6) (oi := ({ dst := some 21, op := Op.build 67 #[(0, Operand.tmp 17), (2, Operand.tmp 20)], type := 67, pos := "rank.go:51", after := #[{ on := 2, ground := Ground.data }, { on := 5, ground := Ground.data }], guard := none } : Oper)) (v := ?vg7) rfl (by kernel_rfl) (by kernel_rfl) (by kernel_rfl) (fun _ _ _ h => h) (Or.inl ⟨by rfl, ?hyg7⟩) (by assumption) ?restg7
        case hyg7 => intro w hSw; (try dsimp only at hSw); go_simp; all_goals (with_reducible rfl)
        try simp only [Act.put, List.setIfInBounds_toArray, List.set_cons_zero, List.set_cons_succ]
        refine wpAnyH_ready (rs := [7]) (by kernel_rfl) (by simp) ?_
        refine (AllReadyH.cons (o := ({ dst := some 22, op := Op.box 67 (Operand.tmp 21), type := 28, pos := "rank.go:51", after := #[{ on := 6, ground := Ground.data }], guard := none } : Oper)) rfl (fun K hK => ?_) AllReadyH.nil)
        go_simp
        refine hK.out _ _ ?_ (fun hHeld => ?_)
        · (try dsimp only); exact ((((below_drewN' (Below.refl w.heap.size w) 1).alloc (below_drewN' (Below.refl w.heap.size w) 1).size (.cells (madeCells #[.slice none 0 0] n) 69)).alloc ((below_drewN' (Below.refl w.heap.size w) 1).alloc (below_drewN' (Below.refl w.heap.size w) 1).size (.cells (madeCells #[.slice none 0 0] n) 69)).size (.cells (madeCells #[.slice none 0 0] n) 23)).alloc (((below_drewN' (Below.refl w.heap.size w) 1).alloc (below_drewN' (Below.refl w.heap.size w) 1).size (.cells (madeCells #[.slice none 0 0] n) 69)).alloc ((below_drewN' (Below.refl w.heap.size w) 1).alloc (below_drewN' (Below.refl w.heap.size w) 1).size (.cells (madeCells #[.slice none 0 0] n) 69)).size (.cells (madeCells #[.slice none 0 0] n) 23)).size _)
        clear hK K
        try simp only [Act.put, List.setIfInBounds_toArray, List.set_cons_zero, List.set_cons_succ]
        refine wpAnyH_take (i := 8) (oi := ({ dst := some 4, op := Op.assign (Operand.tmp 22), type := 28, pos := "rank.go:51", after := #[{ on := 7, ground := Ground.data }, { on := 4, ground := Ground.chain }, { on := 0, ground := Ground.phase }, { on := 1, ground := Ground.phase }, { on := 2, ground := Ground.phase }, { on := 3, ground := Ground.phase }, { on := 4, ground := Ground.phase }, { on := 5, ground := Ground.phase }, { on := 6, ground := Ground.phase }, { on := 7, ground := Ground.phase }], guard := none } : Oper)) (v := ?vg8) rfl (by kernel_rfl) (by kernel_rfl) (by kernel_rfl) (fun _ _ _ h => h) (Or.inl ⟨by rfl, ?hyg8⟩) (by assumption) ?restg8
        case hyg8 => intro w hSw; (try dsimp only at hSw); go_simp; all_goals (with_reducible rfl)
        try simp only [Act.put, List.setIfInBounds_toArray, List.set_cons_zero, List.set_cons_succ]
        refine wpAnyH_done (by kernel_rfl) ?_ _
        go_wp2_with fail
        go_meet
        first
          | exact ⟨_, rfl, rk_laid (three_laid w.drew _ _ _ _ _ _).2.2.1 (three_laid w.drew _ _ _ _ _ _).1 (three_laid w.drew _ _ _ _ _ _).2.1 ((below_drewN' (Below.refl _ _) 1).trans (three_laid w.drew _ _ _ _ _ _).2.2.2) (by show w.heap.size ≤ w.heap.size + 1 + 1; omega) (by first | exact Nat.le_refl _ | exact Nat.le_succ _) (by first | exact Nat.le_refl _ | exact Nat.le_succ _)⟩
          | exact ⟨_, rfl, rk_laid (three_laid w.drew _ _ _ _ _ _).2.2.1 (three_laid w.drew _ _ _ _ _ _).2.1 (three_laid w.drew _ _ _ _ _ _).1 ((below_drewN' (Below.refl _ _) 1).trans (three_laid w.drew _ _ _ _ _ _).2.2.2) (by show w.heap.size ≤ w.heap.size + 1 + 1; omega) (by first | exact Nat.le_refl _ | exact Nat.le_succ _) (by first | exact Nat.le_refl _ | exact Nat.le_succ _)⟩
  case rest =>
  obtain ⟨w1, hV, rb, Bk, Bb, us0, vs0, rfl, hrb, hBk, hBb, hM0⟩ := hcut
  subst hV
  have HM0 := Lib.hid hM0
  have HRB := Lib.hid hrb; have HBK := Lib.hid hBk; have HBB := Lib.hid hBb
  have HL0 := Lib.hid (HLEN.out w1 hM0.2.2.2.2)
  clear hM0 hmkR hmkB hrb hBk hBb
  have i1 : (1 : Int) ≤ n := by omega
  go_wp2_with fail
  refine HL0.out.mono ?_; rintro e w2 ⟨rfl, hw2⟩; obtain rfl := hw2.symm
  go_wp2_with fail
  go_loopg [5] n (fun gh yv wr => ∃ q, q ≤ n ∧ q = gh ∧ yv = .int .i64 ((q : Int) - 1) ∧ RkLoop w rb Bk Bb n q C wr)
  case atStart => exact ⟨n, Nat.le_refl _, rfl, rfl, 0, us0, vs0, Nat.zero_le _, HM0.out⟩
  case round =>
    obtain ⟨q, hq, rfl, rfl, x, us, vs, hx, hM⟩ := hrel
    rcases Nat.eq_zero_or_pos q with rfl | hq0
    · rw [show (((0 : Nat) : Int) - 1) = -1 from rfl]
      have hRC := rowC_any (HO.out.below hM.2.2.2.2 (Nat.le_refl _)) HCL.out ((0 : Nat) : Int)
      rw [rowAt_in (show 0 < n by omega)] at hRC
      obtain ⟨L, hL⟩ : ∃ L, rowP C 0 = L := ⟨_, rfl⟩
      have hLl : L.length ≤ 100000 := by rw [← hL]; have := row_len C 0; have := HCL.out; omega
      have hsub : ∀ b ∈ L, b ∈ rowP C 0 := fun b hb => by rw [hL]; exact hb
      have hsum : (L.map (cntP C (n - 1 - 0) 0)).sum ≤ 9223372036854775807 := by rw [← hL]; exact HTOT.out
      obtain ⟨E, hE⟩ : ∃ E, endsL (cntP C (n - 1 - 0) 0) L = E := ⟨_, rfl⟩
      rw [hL] at hRC
      obtain ⟨ll, hll⟩ : ∃ ll, L.length = ll := ⟨_, rfl⟩
      rw [hll] at hRC
      have HRC := Lib.hid (show Calls Tryz.prog 25 #[.pointer (some ⟨ob, 0, none⟩), .int .i64 0] wr _ from hRC)
      have HM := Lib.hid hM; have HLl := Lib.hid hLl; have HSUB := Lib.hid hsub; have HSUM := Lib.hid hsum; have HE := Lib.hid hE; have HLL := Lib.hid hll; have HL := Lib.hid hL
      clear hRC hM hx hLl hsub hsum hE hll hL hq
      go_wp2_with fail
      refine HRC.out.mono ?_; rintro e w6 ⟨u6, rfl, hown6, hb6⟩
      have hM6 := HM.out.below hb6
      have hrd : RkRead w6 rb n C 0 := ⟨⟨Bk, hM6.1.cell 0⟩, fun h => hM6.lev (by omega) (by omega) (by omega)⟩
      have BR := branch_any hrd hn8 (by omega) HCL.out (own_seq hown6) HLl.out HSUB.out HSUM.out
      rw [HE.out] at BR
      obtain ⟨A6, c6, rfl⟩ := own_form hown6
      have HBR := Lib.hid (show Calls Tryz.prog 26 #[.pointer (some ⟨rb, 0, none⟩), .int .i64 0, .slice A6 ll c6] w6 _ from BR)
      have HB6 := Lib.hid hb6; have HOWN6 := Lib.hid hown6
      clear hM6 hrd BR hown6 hb6
      go_wp2_with fail
      refine HBR.out.mono ?_; rintro e w7 ⟨ends, rfl, hown7, hb7⟩
      have hb67 : Below wr.heap.size wr w7 := HB6.out.trans (hb7.mono HB6.out.size)
      obtain ⟨A7, c7, rfl⟩ := own_form hown7
      obtain ⟨w8, hw8⟩ : ∃ W, w7.alloc (.cells #[.slice A6 ll c6, .slice A7 E.length c7] 65) = W := ⟨_, rfl⟩
      have hb78 : Below w7.heap.size w7 w8 := by rw [← hw8]; exact (Below.refl _ _).alloc (Nat.le_refl _) _
      have hbox : Whole w8 w7.heap.size 65 #[.slice A6 ll c6, .slice A7 E.length c7] := by rw [← hw8]; exact Whole.new _ _ _
      have hb8 : Below wr.heap.size wr w8 := hb67.trans (hb78.mono hb67.size)
      obtain ⟨m1, m2, m3, m4, m5⟩ := HM.out.below hb8
      have hbw : w.heap.size ≤ wr.heap.size := HM.out.2.2.2.2.size
      have o6 : w8.ownsRow w.heap.size 3 1 (.slice A6 ll c6) ll (intCells L) := own_below (own_below (own_base HOWN6.out hbw) hb7 (Nat.le_refl _)) hb78 (Nat.le_refl _)
      have o7 : w8.ownsRow w.heap.size 2 1 (.slice A7 E.length c7) E.length (intCells E) := own_below (own_base hown7 (Nat.le_trans hbw HB6.out.size)) hb78 (Nat.le_refl _)
      have k1 := KeepT.put (p := ⟨rb, 1, none⟩) m1 x (by decide) (by decide) (fun e => absurd e (by decide)) (.slice A6 ll c6)
      have p1 := m1.put 1 (.slice A6 ll c6)
      have k2 := KeepT.put (p := ⟨rb, 2, none⟩) p1 x (by decide) (by decide) (fun e => absurd e (by decide)) (.slice A7 E.length c7)
      have p2 := p1.put 2 (.slice A7 E.length c7)
      have kk := k1.trans k2
      have hfin : RanksV ((w8.setCell ⟨rb, 1, none⟩ (.slice A6 ll c6)).setCell ⟨rb, 2, none⟩ (.slice A7 E.length c7)) (.pointer (some ⟨rb, 0, none⟩)) n C := by
        refine ⟨rb, .slice A6 ll c6, .slice A7 E.length c7, rfl, fun j hj => lev_of (p2.cell 0) (p2.cell 3) ((m2.other (p := ⟨rb, 1, none⟩) (whole_ne m2 m1 (by decide)) _).other (p := ⟨rb, 2, none⟩) (whole_ne m2 m1 (by decide)) _) ((m3.other (p := ⟨rb, 1, none⟩) (whole_ne m3 m1 (by decide)) _).other (p := ⟨rb, 2, none⟩) (whole_ne m3 m1 (by decide)) _) (m4.keep kk (Nat.le_refl _)) (Nat.zero_le _) (Nat.zero_le _) hj, p2.cell 1, p2.cell 2, ?_, ?_⟩
        · rw [HL.out]
          exact own_seq (own_keepT o6 kk (Or.inl rfl))
        · rw [HL.out, show n - 1 = n - 1 - 0 from rfl, HE.out]
          exact own_seqL (own_keepT o7 kk (Or.inr rfl))
      have hbf : Below w.heap.size w ((w8.setCell ⟨rb, 1, none⟩ (.slice A6 ll c6)).setCell ⟨rb, 2, none⟩ (.slice A7 E.length c7)) := (m5.setCell HRB.out _).setCell HRB.out _
      have d1 : w8.cell? ⟨rb, 1, none⟩ = some (.slice none 0 0) := m1.cell 1
      have d2 : w8.cell? ⟨rb, 2, none⟩ = some (.slice none 0 0) := m1.cell 2
      have b0 : w8.cell? ⟨w7.heap.size, 0, none⟩ = some (.slice A6 ll c6) := hbox.cell 0
      have b1 : w8.cell? ⟨w7.heap.size, 1, none⟩ = some (.slice A7 E.length c7) := hbox.cell 1
      have f0 := m1.free 1
      have f1 := m1.free 2
      have HFIN := Lib.hid hfin; have HBF := Lib.hid hbf; have HW8 := Lib.hid hw8
      obtain ⟨xb, hxb⟩ : ∃ xb, w7.heap.size = xb := ⟨_, rfl⟩
      rw [hxb] at b0 b1
      have HXB := Lib.hid hxb
      have rl8 := m1.lt
      clear hb67 hb78 hbox hb8 hbw o6 o7 m1 m2 m3 m4 m5 k1 k2 p1 p2 kk hfin hbf hw8 hxb hown7 hb7
      go_upto_region 19 with fail
      rw [HW8.out, HXB.out]
      go_wp2_with fail
      go_ret2
      exact ⟨_, rfl, HFIN.out, HBF.out⟩
    · obtain ⟨i, rfl⟩ : ∃ i, q = i + 1 := ⟨q - 1, by omega⟩
      have e1 : (((i + 1 : Nat) : Int) - 1) = (i : Nat) := by omega
      rw [e1]
      clear e1 hq0
      have hin : i < n := by omega
      have hoC : OdagC wr (.pointer (some ⟨ob, 0, none⟩)) n C := HO.out.below hM.2.2.2.2 (Nat.le_refl _)
      have hRC := rowC_any (odag_drew hoC 1) HCL.out (i : Nat)
      rw [rowAt_in hin] at hRC
      obtain ⟨m, hm⟩ : ∃ m, (rowP C i).length = m := ⟨_, rfl⟩
      have hm1 : m ≤ 100000 := by have := row_len C i; have := HCL.out; omega
      rw [hm] at hRC
      have c0 : wr.cell? ⟨rb, 0, none⟩ = some (.slice (some ⟨Bk, 0, none⟩) n n) := hM.1.cell 0
      have t1 : decide ((0 : Int) ≤ (i : Nat)) = true := decide_eq_true (by omega)
      have j1 : (i : Int) < n := by omega
      have j2 : (0 : Int) ≤ i := by omega
      have HRC := Lib.hid hRC; have HM := Lib.hid hM; have HMM := Lib.hid hm; have HOC := Lib.hid hoC; have HX := Lib.hid hx; have HIN := Lib.hid hin
      have rl := hM.1.lt; have kl := hM.2.1.lt; have bl := hM.2.2.1.lt
      clear hRC hM hm hoC hx hq hin
      go_wp2_with fail
      refine region_reads3 [0,1,2,3,4,5,6] 7 8 9 (by kernel_rfl) (by kernel_rfl) (fun w' => w'.cell? ⟨rb, 0, none⟩ = some (.slice (some ⟨Bk, 0, none⟩) n n)) c0 (by kernel_rfl) (by kernel_rfl) (by kernel_rfl) (by kernel_rfl) (by kernel_rfl) (by kernel_rfl) rfl rfl rfl rfl rfl rfl (by kernel_rfl) ?_
      refine ⟨({ dst := some 30, op := Op.move (Operand.tmp 4), type := 28, pos := "rank.go:53", after := #[], guard := none } : Oper), ?va_0, rfl, Or.inl ⟨by rfl, ?hya_0⟩, fun _ _ _ h => h, ?resta_0⟩
      case hya_0 => (intro w' hSw; have s1 := hSw; go_simp; try with_reducible rfl)
      try simp only [Act.put, List.setIfInBounds_toArray, List.set_cons_zero, List.set_cons_succ]
      refine ⟨({ dst := some 31, op := Op.nilCheck (Operand.tmp 30), type := 0, pos := "rank.go:53", after := #[{ on := 0, ground := Ground.data }], guard := none } : Oper), ?va_1, rfl, Or.inl ⟨by rfl, ?hya_1⟩, fun _ _ _ h => h, ?resta_1⟩
      case hya_1 => (intro w' hSw; have s1 := hSw; go_simp; try with_reducible rfl)
      try simp only [Act.put, List.setIfInBounds_toArray, List.set_cons_zero, List.set_cons_succ]
      refine ⟨({ dst := some 32, op := Op.fieldAddr 67 (Operand.tmp 31) 0, type := 0, pos := "rank.go:53", after := #[{ on := 1, ground := Ground.data }], guard := none } : Oper), ?va_2, rfl, Or.inl ⟨by rfl, ?hya_2⟩, fun _ _ _ h => h, ?resta_2⟩
      case hya_2 => (intro w' hSw; have s1 := hSw; go_simp; try with_reducible rfl)
      try simp only [Act.put, List.setIfInBounds_toArray, List.set_cons_zero, List.set_cons_succ]
      refine ⟨({ dst := some 33, op := Op.load 22 (Operand.tmp 32), type := 22, pos := "rank.go:53", after := #[{ on := 2, ground := Ground.data }], guard := none } : Oper), ?va_3, rfl, Or.inl ⟨by rfl, ?hya_3⟩, fun _ _ _ h => h, ?resta_3⟩
      case hya_3 => (intro w' hSw; have s1 := hSw; go_simp; try with_reducible rfl)
      try simp only [Act.put, List.setIfInBounds_toArray, List.set_cons_zero, List.set_cons_succ]
      refine ⟨({ dst := some 34, op := Op.move (Operand.tmp 5), type := 3, pos := "rank.go:53", after := #[], guard := none } : Oper), ?va_4, rfl, Or.inl ⟨by rfl, ?hya_4⟩, fun _ _ _ h => h, ?resta_4⟩
      case hya_4 => (intro w' hSw; have s1 := hSw; go_simp; try with_reducible rfl)
      try simp only [Act.put, List.setIfInBounds_toArray, List.set_cons_zero, List.set_cons_succ]
      refine ⟨({ dst := some 35, op := Op.move (Operand.tmp 0), type := 25, pos := "rank.go:53", after := #[], guard := none } : Oper), ?va_5, rfl, Or.inl ⟨by rfl, ?hya_5⟩, fun _ _ _ h => h, ?resta_5⟩
      case hya_5 => (intro w' hSw; have s1 := hSw; go_simp; try with_reducible rfl)
      try simp only [Act.put, List.setIfInBounds_toArray, List.set_cons_zero, List.set_cons_succ]
      refine ⟨({ dst := some 36, op := Op.move (Operand.tmp 5), type := 3, pos := "rank.go:53", after := #[], guard := none } : Oper), ?va_6, rfl, Or.inl ⟨by rfl, ?hya_6⟩, fun _ _ _ h => h, ?resta_6⟩
      case hya_6 => (intro w' hSw; have s1 := hSw; go_simp; try with_reducible rfl)
      try simp only [Act.put, List.setIfInBounds_toArray, List.set_cons_zero, List.set_cons_succ]
      refine reads_nil ?_
      refine wp_bare (fun K1 hK1 => ?_)
      go_simp
      refine HRC.out.mono ?_; rintro e' w2 ⟨u, rfl, hown, hb2⟩
      have hb2' : Below wr.heap.size wr w2 := (below_drewN' (Below.refl _ _) 1).trans (hb2.mono (Nat.le_refl _))
      have hM2 := HM.out.below hb2'
      have c2 : w2.cell? ⟨rb, 0, none⟩ = some (.slice (some ⟨Bk, 0, none⟩) n n) := hM2.1.cell 0
      refine hK1.out _ _ ⟨c2, ?_⟩
      refine wp_bare (fun K2 hK2 => ?_)
      go_simp
      refine hK2.out _ _ ⟨c2, ?_⟩
      obtain ⟨zk, ck⟩ : ∃ zk, w2.cell? ⟨Bk, i, none⟩ = some zk := by
        have hul := hM2.2.2.2.1.1
        have := HIN.out
        exact ⟨us[i]'(by omega), by rw [hM2.2.1.cell i, List.getElem?_toArray, List.getElem?_eq_getElem (by omega)]⟩
      have fk := hM2.2.1.free i
      obtain ⟨Au, cu, rfl⟩ := own_form hown
      have hown2 : w2.ownsRow w.heap.size 3 1 (.slice Au m cu) (rowP C i).length (intCells (rowP C i)) := by rw [HMM.out]; exact own_base hown HM.out.2.2.2.2.size
      have hM3 := hM2.rowPut (u := .slice Au m cu) HIN.out hown2 HBK.out
      obtain ⟨w3, hw3⟩ : ∃ W, w2.setCell ⟨Bk, i, none⟩ (.slice Au m cu) = W := ⟨_, rfl⟩
      rw [hw3] at hM3
      have HM3 := Lib.hid hM3; have HW3 := Lib.hid hw3
      have HX3 : Hid (x ≤ w3.heap.size) := Lib.hid (by rw [← hw3]; have h1 := HX.out; have h2 := hb2'.size; have h3 := Below.size ((Below.refl w2.heap.size w2).setCell (p := ⟨w2.heap.size, 0, none⟩) (Nat.le_refl _) (.slice none 0 0)); show x ≤ (w2.heap.modify _ _).size; rw [Array.size_modify]; omega)
      clear hM3 hw3 hown hown2 hM2 hb2 hb2'
      refine wp_bare (fun K3 hK3 => ?_)
      go_simp
      rw [HW3.out]
      refine hK3.out _ _ ?_
      clear c0 c2 ck fk
      have hM3 := HM3.out
      have d0 : w3.cell? ⟨rb, 0, none⟩ = some (.slice (some ⟨Bk, 0, none⟩) n n) := hM3.1.cell 0
      have d3 : w3.cell? ⟨rb, 3, none⟩ = some (.slice (some ⟨Bb, 0, none⟩) n n) := hM3.1.cell 3
      have du : w3.cell? ⟨Bk, i, none⟩ = some (.slice Au m cu) := by
        have hul := HM.out.2.2.2.1.1
        rw [hM3.2.1.cell i, List.getElem?_toArray, List.getElem?_set_self (by have := HIN.out; omega)]
      have hmk := fun V => run_brs m (by omega) V
      have hbA : Below w3.heap.size w3 (w3.alloc (.cells (madeCells #[.slice none 0 0, .slice none 0 0] (m * 2)) 65)).drew := below_drewN' ((Below.refl _ _).alloc (Nat.le_refl _) _) 1
      have hM4 := hM3.below hbA
      have hG4 : Whole (w3.alloc (.cells (madeCells #[.slice none 0 0, .slice none 0 0] (m * 2)) 65)).drew w3.heap.size 65 (madeCells #[.slice none 0 0, .slice none 0 0] (m * 2)) := Whole.new w3 65 (madeCells #[.slice none 0 0, .slice none 0 0] (m * 2))
      obtain ⟨g, hg⟩ : ∃ g, w3.heap.size = g := ⟨_, rfl⟩
      have hg' := hg
      obtain ⟨w4, hw4⟩ : ∃ W, (w3.alloc (.cells (madeCells #[.slice none 0 0, .slice none 0 0] (m * 2)) 65)).drew = W := ⟨_, rfl⟩
      rw [hw4] at hM4 hG4
      rw [hg] at hG4
      have HG := Lib.hid hg'; have HW4 := Lib.hid hw4; have HM4 := Lib.hid hM4; have HG4 := Lib.hid hG4
      clear hM3 hbA hM4 hG4 hg hg' hw4
      go_wp2_with fail
      refine region_reads3 [0,1,2,3,4,5,6,7,8,9,10,11,12] 13 14 15 (by kernel_rfl) (by kernel_rfl) (fun w' => w'.cell? ⟨rb, 0, none⟩ = some (.slice (some ⟨Bk, 0, none⟩) n n) ∧ w'.cell? ⟨rb, 3, none⟩ = some (.slice (some ⟨Bb, 0, none⟩) n n) ∧ w'.cell? ⟨Bk, i, none⟩ = some (.slice Au m cu)) ⟨d0, d3, du⟩ (by kernel_rfl) (by kernel_rfl) (by kernel_rfl) (by kernel_rfl) (by kernel_rfl) (by kernel_rfl) rfl rfl rfl rfl rfl rfl (by kernel_rfl) ?_
      refine ⟨({ dst := some 39, op := Op.move (Operand.tmp 4), type := 28, pos := "rank.go:54", after := #[], guard := none } : Oper), ?vb_0, rfl, Or.inl ⟨by rfl, ?hyb_0⟩, fun _ _ _ h => h, ?restb_0⟩
      case hyb_0 => (intro w' hSw; obtain ⟨s1, s2, s3⟩ := hSw; go_simp; try with_reducible rfl)
      try simp only [Act.put, List.setIfInBounds_toArray, List.set_cons_zero, List.set_cons_succ]
      refine ⟨({ dst := some 40, op := Op.nilCheck (Operand.tmp 39), type := 0, pos := "rank.go:54", after := #[{ on := 0, ground := Ground.data }], guard := none } : Oper), ?vb_1, rfl, Or.inl ⟨by rfl, ?hyb_1⟩, fun _ _ _ h => h, ?restb_1⟩
      case hyb_1 => (intro w' hSw; obtain ⟨s1, s2, s3⟩ := hSw; go_simp; try with_reducible rfl)
      try simp only [Act.put, List.setIfInBounds_toArray, List.set_cons_zero, List.set_cons_succ]
      refine ⟨({ dst := some 41, op := Op.fieldAddr 67 (Operand.tmp 40) 2, type := 0, pos := "rank.go:54", after := #[{ on := 1, ground := Ground.data }], guard := none } : Oper), ?vb_2, rfl, Or.inl ⟨by rfl, ?hyb_2⟩, fun _ _ _ h => h, ?restb_2⟩
      case hyb_2 => (intro w' hSw; obtain ⟨s1, s2, s3⟩ := hSw; go_simp; try with_reducible rfl)
      try simp only [Act.put, List.setIfInBounds_toArray, List.set_cons_zero, List.set_cons_succ]
      refine ⟨({ dst := some 42, op := Op.load 62 (Operand.tmp 41), type := 62, pos := "rank.go:54", after := #[{ on := 2, ground := Ground.data }], guard := none } : Oper), ?vb_3, rfl, Or.inl ⟨by rfl, ?hyb_3⟩, fun _ _ _ h => h, ?restb_3⟩
      case hyb_3 => (intro w' hSw; obtain ⟨s1, s2, s3⟩ := hSw; go_simp; try with_reducible rfl)
      try simp only [Act.put, List.setIfInBounds_toArray, List.set_cons_zero, List.set_cons_succ]
      refine ⟨({ dst := some 43, op := Op.move (Operand.tmp 5), type := 3, pos := "rank.go:54", after := #[], guard := none } : Oper), ?vb_4, rfl, Or.inl ⟨by rfl, ?hyb_4⟩, fun _ _ _ h => h, ?restb_4⟩
      case hyb_4 => (intro w' hSw; obtain ⟨s1, s2, s3⟩ := hSw; go_simp; try with_reducible rfl)
      try simp only [Act.put, List.setIfInBounds_toArray, List.set_cons_zero, List.set_cons_succ]
      refine ⟨({ dst := some 44, op := Op.move (Operand.tmp 4), type := 28, pos := "rank.go:54", after := #[], guard := none } : Oper), ?vb_5, rfl, Or.inl ⟨by rfl, ?hyb_5⟩, fun _ _ _ h => h, ?restb_5⟩
      case hyb_5 => (intro w' hSw; obtain ⟨s1, s2, s3⟩ := hSw; go_simp; try with_reducible rfl)
      try simp only [Act.put, List.setIfInBounds_toArray, List.set_cons_zero, List.set_cons_succ]
      refine ⟨({ dst := some 45, op := Op.nilCheck (Operand.tmp 44), type := 0, pos := "rank.go:54", after := #[{ on := 5, ground := Ground.data }], guard := none } : Oper), ?vb_6, rfl, Or.inl ⟨by rfl, ?hyb_6⟩, fun _ _ _ h => h, ?restb_6⟩
      case hyb_6 => (intro w' hSw; obtain ⟨s1, s2, s3⟩ := hSw; go_simp; try with_reducible rfl)
      try simp only [Act.put, List.setIfInBounds_toArray, List.set_cons_zero, List.set_cons_succ]
      refine ⟨({ dst := some 46, op := Op.fieldAddr 67 (Operand.tmp 45) 0, type := 0, pos := "rank.go:54", after := #[{ on := 6, ground := Ground.data }], guard := none } : Oper), ?vb_7, rfl, Or.inl ⟨by rfl, ?hyb_7⟩, fun _ _ _ h => h, ?restb_7⟩
      case hyb_7 => (intro w' hSw; obtain ⟨s1, s2, s3⟩ := hSw; go_simp; try with_reducible rfl)
      try simp only [Act.put, List.setIfInBounds_toArray, List.set_cons_zero, List.set_cons_succ]
      refine ⟨({ dst := some 47, op := Op.load 22 (Operand.tmp 46), type := 22, pos := "rank.go:54", after := #[{ on := 7, ground := Ground.data }], guard := none } : Oper), ?vb_8, rfl, Or.inl ⟨by rfl, ?hyb_8⟩, fun _ _ _ h => h, ?restb_8⟩
      case hyb_8 => (intro w' hSw; obtain ⟨s1, s2, s3⟩ := hSw; go_simp; try with_reducible rfl)
      try simp only [Act.put, List.setIfInBounds_toArray, List.set_cons_zero, List.set_cons_succ]
      refine ⟨({ dst := some 48, op := Op.move (Operand.tmp 5), type := 3, pos := "rank.go:54", after := #[], guard := none } : Oper), ?vb_9, rfl, Or.inl ⟨by rfl, ?hyb_9⟩, fun _ _ _ h => h, ?restb_9⟩
      case hyb_9 => (intro w' hSw; obtain ⟨s1, s2, s3⟩ := hSw; go_simp; try with_reducible rfl)
      try simp only [Act.put, List.setIfInBounds_toArray, List.set_cons_zero, List.set_cons_succ]
      refine ⟨({ dst := some 49, op := Op.indexAddr 22 (Operand.tmp 47) (Operand.tmp 48), type := 0, pos := "rank.go:54", after := #[{ on := 8, ground := Ground.data }, { on := 9, ground := Ground.data }], guard := none } : Oper), ?vb_10, rfl, Or.inl ⟨by rfl, ?hyb_10⟩, fun _ _ _ h => h, ?restb_10⟩
      case hyb_10 => (intro w' hSw; obtain ⟨s1, s2, s3⟩ := hSw; go_simp; try with_reducible rfl)
      try simp only [Act.put, List.setIfInBounds_toArray, List.set_cons_zero, List.set_cons_succ]
      refine ⟨({ dst := some 50, op := Op.load 23 (Operand.tmp 49), type := 23, pos := "rank.go:54", after := #[{ on := 10, ground := Ground.data }], guard := none } : Oper), ?vb_11, rfl, Or.inl ⟨by rfl, ?hyb_11⟩, fun _ _ _ h => h, ?restb_11⟩
      case hyb_11 => (intro w' hSw; obtain ⟨s1, s2, s3⟩ := hSw; go_simp; try with_reducible rfl)
      try simp only [Act.put, List.setIfInBounds_toArray, List.set_cons_zero, List.set_cons_succ]
      refine ⟨({ dst := some 51, op := Op.call { callee := Callee.builtin Builtin.len, args := #[Operand.tmp 50], argTypes := #[23] }, type := 3, pos := "rank.go:54", after := #[{ on := 11, ground := Ground.data }], guard := none } : Oper), ?vb_12, rfl, Or.inl ⟨by rfl, ?hyb_12⟩, fun _ _ _ h => h, ?restb_12⟩
      case hyb_12 => (intro w' hSw; obtain ⟨s1, s2, s3⟩ := hSw; go_simp; try with_reducible rfl)
      try simp only [Act.put, List.setIfInBounds_toArray, List.set_cons_zero, List.set_cons_succ]
      refine reads_nil ?_
      refine wp_bare (fun K1 hK1 => ?_)
      go_simp
      rw [HW4.out, HG.out]
      have hM4 := HM4.out
      have c4 : w4.cell? ⟨rb, 0, none⟩ = some (.slice (some ⟨Bk, 0, none⟩) n n) := hM4.1.cell 0
      have e4 : w4.cell? ⟨rb, 3, none⟩ = some (.slice (some ⟨Bb, 0, none⟩) n n) := hM4.1.cell 3
      have u4 : w4.cell? ⟨Bk, i, none⟩ = some (.slice Au m cu) := by
        have hul := HM.out.2.2.2.1.1
        rw [hM4.2.1.cell i, List.getElem?_toArray, List.getElem?_set_self (by have := HIN.out; omega)]
      refine hK1.out _ _ ⟨⟨c4, e4, u4⟩, ?_⟩
      refine wp_bare (fun K2 hK2 => ?_)
      go_simp
      refine hK2.out _ _ ⟨⟨c4, e4, u4⟩, ?_⟩
      obtain ⟨zb, cb⟩ : ∃ zb, w4.cell? ⟨Bb, i, none⟩ = some zb := by
        have hvl := hM4.2.2.2.1.2.1
        have := HIN.out
        exact ⟨vs[i]'(by omega), by rw [hM4.2.2.1.cell i, List.getElem?_toArray, List.getElem?_eq_getElem (by omega)]⟩
      have fb := hM4.2.2.1.free i
      have hM5 := hM4.setB (v := .slice (some ⟨g, 0, none⟩) m m) HBB.out
      have hG5 := HG4.out.other (p := ⟨Bb, i, none⟩) (whole_ne HG4.out hM4.2.2.1 (by decide)) (.slice (some ⟨g, 0, none⟩) m m)
      obtain ⟨w5, hw5⟩ : ∃ W, w4.setCell ⟨Bb, i, none⟩ (.slice (some ⟨g, 0, none⟩) m m) = W := ⟨_, rfl⟩
      rw [hw5] at hM5 hG5
      have hvi : (vs.set i (Value.slice (some ⟨g, 0, none⟩) m m))[i]? = some (.slice (some ⟨g, 0, none⟩) m m) := List.getElem?_set_self (by have h1 := hM4.2.2.2.1.2.1; have := HIN.out; omega)
      have HM5 := Lib.hid hM5; have HG5 := Lib.hid hG5; have HW5 := Lib.hid hw5; have HVI := Lib.hid hvi
      have HL5 := Lib.hid (HLEN.out w5 hM5.2.2.2.2)
      have HXG : Hid (x ≤ g) := Lib.hid (by have := HX3.out; rw [HG.out] at this; exact this)
      have HGB : Hid (w.heap.size ≤ g) := Lib.hid (by have := HM3.out.2.2.2.2.size; rw [HG.out] at this; exact this)
      clear hM4 hM5 hG5 hw5 hvi d0 d3 du hmk
      refine wp_bare (fun K3 hK3 => ?_)
      go_simp
      rw [HW5.out]
      refine hK3.out _ _ ?_
      clear c4 e4 u4 cb fb
      by_cases hin : i + 1 < n
      · have t4 : ((i : Int) == (n : Int) - 1) = false := by simp; omega
        have d0 : w5.cell? ⟨rb, 0, none⟩ = some (.slice (some ⟨Bk, 0, none⟩) n n) := HM5.out.1.cell 0
        have du : w5.cell? ⟨Bk, i, none⟩ = some (.slice Au m cu) := by
          have hul := HM.out.2.2.2.1.1
          rw [HM5.out.2.1.cell i, List.getElem?_toArray, List.getElem?_set_self (by have := HIN.out; omega)]
        have HP0 := Lib.hid (part_made (base := w.heap.size) (R := rowP C i) (F := nxt n C i) (G := nxE n C i) HG5.out HMM.out)
        have HIN1 := Lib.hid hin
        clear hin
        go_wp2_with fail
        refine HL5.out.mono ?_; rintro e w6 ⟨rfl, hw6⟩; obtain rfl := hw6.symm
        go_wp2_with fail
        clear d0 du t4
        go_loopg [67] m (fun gh yv ws => ∃ k cs, k ≤ m ∧ gh = m - k ∧ yv = .int .i64 (k : Nat) ∧ RkM w rb Bk Bb n i (i + 1) x C (us.set i (.slice Au m cu)) (vs.set i (.slice (some ⟨g, 0, none⟩) m m)) ws ∧ PartO ws w.heap.size g cs (rowP C i) (nxt n C i) (nxE n C i) k)
        case atStart => exact ⟨0, _, Nat.zero_le _, rfl, rfl, HM5.out, HP0.out⟩
        case round =>
          obtain ⟨k, cs, hk, rfl, rfl, hMk, hPk⟩ := hrel
          by_cases hlt : k < m
          · have hkR : k < (rowP C i).length := by rw [HMM.out]; exact hlt
            obtain ⟨a, ha⟩ : ∃ a, (rowP C i).getD k 0 = a := ⟨_, rfl⟩
            have haR : a ∈ rowP C i := by rw [← ha]; simp [List.getD, hkR]
            obtain ⟨uu, hu1, hu2⟩ := hMk.2.2.2.1.2.2.1 i (Nat.le_refl _) HIN.out
            rw [List.getElem?_set_self (by have h1 := hMk.2.2.2.1.1; rw [List.length_set] at h1; have := HIN.out; omega)] at hu1
            obtain rfl : Value.slice Au m cu = uu := Option.some.inj hu1
            obtain ⟨ra, roff, e3, ca⟩ := (own_seq hu2).pos hkR
            subst e3
            rw [ha] at ca
            have hLK := linksC_any (HO.out.below hMk.2.2.2.2 (Nat.le_refl _)) HCL.out hn8 i HIN1.out a
            obtain ⟨L, hL⟩ : ∃ L, linkP C i a = L := ⟨_, rfl⟩
            have hLl : L.length ≤ 100000 := by rw [← hL]; have := link_len C i a; have := HCL.out; omega
            have hsub : ∀ b ∈ L, b ∈ rowP C (i + 1) := fun b hb => by rw [← hL] at hb; exact link_row hb
            have hsum : (L.map (cntP C (n - 1 - (i + 1)) (i + 1))).sum ≤ 9223372036854775807 := by
              have h1 := HBD.out (n - 1 - i) i a (by have := HIN.out; omega) haR
              rw [show n - 1 - i = (n - 1 - (i + 1)) + 1 by have := HIN1.out; omega] at h1
              rw [← hL]
              exact h1
            have hF : nxt n C i ((rowP C i).getD k 0) = L := by rw [ha]; unfold nxt; rw [if_pos HIN1.out, hL]
            have hG : nxE n C i ((rowP C i).getD k 0) = endsL (cntP C (n - 1 - (i + 1)) (i + 1)) L := by
              unfold nxE
              rw [hF, show n - 2 - i = n - 1 - (i + 1) by omega]
            obtain ⟨E, hE⟩ : ∃ E, endsL (cntP C (n - 1 - (i + 1)) (i + 1)) L = E := ⟨_, rfl⟩
            have hEl : E.length = L.length := by rw [← hE, endsL_len]
            obtain ⟨ll, hll⟩ : ∃ ll, L.length = ll := ⟨_, rfl⟩
            rw [hL, hll] at hLK
            have t5 : decide (k < m) = true := decide_eq_true hlt
            have j3 : (k : Int) < m := by omega
            have j4 : (0 : Int) ≤ k := by omega
            have HLK := Lib.hid hLK; have HMK := Lib.hid hMk; have HPK := Lib.hid hPk; have HLT := Lib.hid hlt; have HLL := Lib.hid hll; have HLl := Lib.hid hLl; have HSUB := Lib.hid hsub; have HSUM := Lib.hid hsum; have HF := Lib.hid hF; have HGG := Lib.hid hG; have HE := Lib.hid hE; have HEL := Lib.hid hEl; have HKR := Lib.hid hkR
            clear hLK hMk hPk hlt hll hLl hsub hsum hF hG hE hEl hkR hk ha haR hu1 hu2 hL
            go_wp2_with fail
            refine HLK.out.mono ?_; rintro e w6 ⟨u6, rfl, hown6, hb6⟩
            have hM6 := HMK.out.below hb6
            have hrd : RkRead w6 rb n C (i + 1) := ⟨⟨Bk, hM6.1.cell 0⟩, fun h => hM6.lev (by omega) (by omega) (by omega)⟩
            have BR := branch_any hrd hn8 HIN1.out HCL.out (own_seq hown6) HLl.out HSUB.out HSUM.out
            rw [show ((i + 1 : Nat) : Int) = (i : Int) + 1 from rfl, HE.out] at BR
            obtain ⟨A6, c6, rfl⟩ := own_form hown6
            have HBR := Lib.hid BR; have HB6 := Lib.hid hb6; have HOWN6 := Lib.hid hown6
            clear hM6 hrd BR hown6 hb6 ca
            go_wp2_with fail
            refine HBR.out.mono ?_; rintro e w7 ⟨ends, rfl, hown7, hb7⟩
            have hb67 : Below wr.heap.size wr w7 := HB6.out.trans (hb7.mono HB6.out.size)
            obtain ⟨A7, c7, rfl⟩ := own_form hown7
            obtain ⟨w8, hw8⟩ : ∃ W, w7.alloc (.cells #[.slice A6 ll c6, .slice A7 E.length c7] 65) = W := ⟨_, rfl⟩
            have hb78 : Below w7.heap.size w7 w8 := by rw [← hw8]; exact (Below.refl _ _).alloc (Nat.le_refl _) _
            have hbox : Whole w8 w7.heap.size 65 #[.slice A6 ll c6, .slice A7 E.length c7] := by rw [← hw8]; exact Whole.new _ _ _
            have hb8 : Below wr.heap.size wr w8 := hb67.trans (hb78.mono hb67.size)
            have hM8 := HMK.out.below hb8
            have hgw : Whole w8 g 65 cs := HPK.out.1.below hb8 HPK.out.1.lt
            have hP8 : PartO w8 w.heap.size g cs (rowP C i) (nxt n C i) (nxE n C i) k := HPK.out.keep (KeepT.below hb8 g) hgw
            have hbw : w.heap.size ≤ wr.heap.size := HMK.out.2.2.2.2.size
            have o6 : w8.ownsRow w.heap.size 3 1 (.slice A6 ll c6) (nxt n C i ((rowP C i).getD k 0)).length (intCells (nxt n C i ((rowP C i).getD k 0))) := by
              rw [HF.out, HLL.out]
              exact own_below (own_below (own_base HOWN6.out hbw) hb7 (Nat.le_refl _)) hb78 (Nat.le_refl _)
            have o7 : w8.ownsRow w.heap.size 2 1 (.slice A7 E.length c7) (nxE n C i ((rowP C i).getD k 0)).length (intCells (nxE n C i ((rowP C i).getD k 0))) := by
              rw [HGG.out, HE.out]
              exact own_below (own_base hown7 (Nat.le_trans hbw HB6.out.size)) hb78 (Nat.le_refl _)
            have hput := (hP8.keep (KeepT.below (below_drewN' (Below.refl _ _) 1) g) (hgw.drewN 1)).put HKR.out (own_drewN o6 1) (own_drewN o7 1)
            have hM9 := ((hM8.below (below_drewN' (Below.refl _ _) 1)).setG (k := k * 2) (u := .slice A6 ll c6) (hgw.drewN 1) HXG.out HGB.out).setG (k := k * 2 + 1) (u := .slice A7 E.length c7) ((hgw.drewN 1).put _ _) HXG.out HGB.out
            have d3 : w8.cell? ⟨rb, 3, none⟩ = some (.slice (some ⟨Bb, 0, none⟩) n n) := hM8.1.cell 3
            have dv : w8.cell? ⟨Bb, i, none⟩ = some (.slice (some ⟨g, 0, none⟩) m m) := by rw [hM8.2.2.1.cell i, List.getElem?_toArray]; exact HVI.out
            have b0 : w8.cell? ⟨w7.heap.size, 0, none⟩ = some (.slice A6 ll c6) := hbox.cell 0
            have b1 : w8.cell? ⟨w7.heap.size, 1, none⟩ = some (.slice A7 E.length c7) := hbox.cell 1
            have hcs := HPK.out.2.1
            have HLT2 := HLT.out
            obtain ⟨z0, g0⟩ : ∃ z0, w8.cell? ⟨g, k * 2, none⟩ = some z0 := ⟨cs[k * 2]'(by rw [hcs, HMM.out]; omega), by rw [hgw.cell]; exact Array.getElem?_eq_getElem _⟩
            obtain ⟨z1, g1⟩ : ∃ z1, w8.cell? ⟨g, k * 2 + 1, none⟩ = some z1 := ⟨cs[k * 2 + 1]'(by rw [hcs, HMM.out]; omega), by rw [hgw.cell]; exact Array.getElem?_eq_getElem _⟩
            have f0 := hgw.free (k * 2)
            have f1 := hgw.free (k * 2 + 1)
            have HPUT := Lib.hid hput; have HM9 := Lib.hid hM9; have HW8 := Lib.hid hw8
            obtain ⟨xb, hxb⟩ : ∃ xb, w7.heap.size = xb := ⟨_, rfl⟩
            rw [hxb] at b0 b1
            have HXB := Lib.hid hxb
            clear hb67 hb78 hbox hb8 hM8 hgw hP8 hbw o6 o7 hput hM9 hw8 hxb hcs HLT2 hown7 hb7
            go_wp2_with fail
            rw [HW8.out, HXB.out]
            refine wp_region_still_tail 10 (by kernel_rfl) (by kernel_rfl) ?_
            simp only [List.take_succ_cons, List.take_zero, List.drop_succ_cons, List.drop_zero]
            change wpStill _ _ (World.drew _) _ _ _
            repeat still_step
            refine wpStill_nil ?_
            change wpList _ _ _ _ _ (World.drew _)
            go_wp2_with fail
            clear d3 dv b0 b1 g0 g1 f0 f1
            go_roundg (m - (k + 1))
            case rel => exact ⟨k + 1, _, HLT.out, rfl, by go_num, HM9.out, HPUT.out⟩
            case measure => have := HLT.out; omega
          · obtain rfl : k = m := by omega
            have t5 : decide (k < k) = false := by simp
            have hgl : g < wr.heap.size := hPk.1.lt
            have hlev : LevO wr w.heap.size wr.heap.size (.slice (some ⟨g, 0, none⟩) k k) (rowP C i) (nxt n C i) (nxE n C i) := ⟨g, cs, by rw [HMM.out], hgl, by rw [HMM.out]; exact hPk⟩
            have hdone := hMk.done (by have := HXG.out; omega) HVI.out hlev
            have HDONE : Hid (RkLoop w rb Bk Bb n i C wr) := Lib.hid ⟨_, _, _, Nat.le_refl _, hdone⟩
            clear hMk hPk hgl hlev hdone hlt
            go_wp2_with fail
            go_roundg i
            case rel => exact ⟨i, by have := HIN.out; omega, rfl, rfl, HDONE.out⟩
            case measure => omega
      · have t4 : ((i : Int) == (n : Int) - 1) = true := by simp; have := HIN.out; omega
        have hgl := HG5.out.lt
        have hlev : LevO w5 w.heap.size w5.heap.size (.slice (some ⟨g, 0, none⟩) m m) (rowP C i) (nxt n C i) (nxE n C i) := ⟨g, _, by rw [HMM.out], hgl, part_last HG5.out HMM.out hin⟩
        have hdone := HM5.out.done (by have := HXG.out; omega) HVI.out hlev
        have HDONE : Hid (RkLoop w rb Bk Bb n i C w5) := Lib.hid ⟨_, _, _, Nat.le_refl _, hdone⟩
        clear hgl hlev hdone hin
        go_wp2_with fail
        refine HL5.out.mono ?_; rintro e w6 ⟨rfl, hw6⟩; obtain rfl := hw6.symm
        go_wp2_with fail
        go_roundg i
        case rel => exact ⟨i, by have := HIN.out; omega, rfl, rfl, HDONE.out⟩
        case measure => omega
end Go.Proofs.YtgphdngfbcjmcaaGreatDoor
