/- The document's List. -/
import Derived.Test.YtploaffmhemjkaaRefT2
import Derived.Test.YtploaffmhemjkaaList
import Derived.BigQuiet
import Derived.Deep.RegionHeld3
import Derived.Deep.DrawnRows
import Derived.Deep.CutBlock
namespace Go.Proofs.Ytploaffmhemjkaa
open Go.RowKit

theorem listGo_none {b : Int → Int → Bool} {T l : List Int} (hv : nextL b T l = none) (hl : l.length < T.length) : listGo b T (T.length - l.length) l = none := by
  obtain ⟨k, hk⟩ : ∃ k, T.length - l.length = k + 1 := ⟨T.length - l.length - 1, by omega⟩
  rw [hk, listGo, hv]
/-- The lists while the document finds one. -/
def RList (W : World) (S : List (Int × Int)) (n : Nat) (T : List Int) (gh : Nat) (lv : Value) (wr : World) : Prop :=
  ∃ l V, V = wr ∧ IsList (adj S) T l ∧ gh = T.length - l.length ∧ l.length ≤ T.length ∧ wr.ownsRow W.heap.size 3 1 lv l.length (intCells l) ∧ (l ≠ [] → T.all (hasV n) = true) ∧ listGo (adj S) T (T.length - l.length) l = listGo (adj S) T T.length [] ∧ Below W.heap.size W wr
/-- What is next, while the document looks for it. -/
def RNext (W : World) (S : List (Int × Int)) (n : Nat) (T l : List Int) (gh : Nat) (xv yv : Value) (wr : World) : Prop :=
  ∃ (k : Nat) (j r : Int) (V : World), V = wr ∧ k = gh ∧ k ≤ T.length ∧ j = k - 1 ∧ yv = .int .i64 j ∧ xv = .int .i64 r ∧ lastC (adj S) T l k = r ∧ okFrom n T k ∧ Below W.heap.size W wr

set_option maxRecDepth 100000 in
set_option maxHeartbeats 4000000 in
theorem refList_any (S : List (Int × Int)) (L s : List Int) (vl ve vs : Value) (n : Nat) (w : World) (hl : SeqV w vl L) (hn : L.length = n) (he : EdgesV w ve S) (hS : S.length ≤ 1000) (hs : SeqV w vs s) (hq : s.length ≤ 100000) :
    Calls Try.prog 11 #[.agg #[vl, ve], vs] w (ListTo w (listL n (adj S) s)) := by
  obtain ⟨i0, hi0, hz0, hz1, hz2⟩ := info_parts Try.infoInt6
  obtain ⟨Al, cl, rfl⟩ := IntsV.form hl
  rw [hn] at hl ⊢
  have hb0 : Below w.heap.size w (w.alloc (.cells #[.slice Al n cl, ve] 27)) := (Below.refl _ _).alloc (Nat.le_refl _) _
  have hG := Whole.new w 27 #[.slice Al n cl, ve]
  obtain ⟨w0, hw0⟩ : ∃ W, w.alloc (.cells #[.slice Al n cl, ve] 27) = W := ⟨_, rfl⟩
  obtain ⟨gb, hgb⟩ : ∃ b, w.heap.size = b := ⟨_, rfl⟩
  rw [hw0] at hb0 hG
  have OF := Lib.hid (refOf_any s vs w0 (hs.below hb0 (Nat.le_refl _)) (by omega))
  rw [hgb] at hG
  obtain ⟨p1, _, p3⟩ := ofR_parts _ s rfl
  have hxb : ∀ k, k < (ofR s).length → hasV n ((ofR s).getD k 0) = false → listL n (adj S) s = none := fun k hk h => listL_bad hk h
  have hxa : (ofR s).all (hasV n) = true → listGo (adj S) (ofR s) (ofR s).length [] = listL n (adj S) s := fun h => (listL_all h).symm
  obtain ⟨x, hx⟩ : ∃ x, listL n (adj S) s = x := ⟨_, rfl⟩
  rw [hx] at hxa hxb ⊢
  obtain ⟨T, hT⟩ : ∃ T, ofR s = T := ⟨_, rfl⟩
  rw [hT] at OF p1 p3 hxa hxb
  have HT := Lib.hid p1; have HXA := Lib.hid hxa; have HXB := Lib.hid hxb
  have HT5 := Lib.hid (show T.length ≤ 100000 by omega)
  have HE := Lib.hid (he.below hb0 (Nat.le_refl _)); have HL := Lib.hid (hl.below hb0 (Nat.le_refl _))
  have HB0 := Lib.hid hb0; have HG := Lib.hid hG; have HW0 := Lib.hid hw0; have HGB := Lib.hid hgb; have HN := Lib.hid hn
  clear hl he hb0 hG hw0 hgb hn hs hT hx hxa hxb p1 p3 hq
  go_enter Try.func11, Try.ntmps11
  go_upto_region 1 with fail
  rw [HW0.out, HGB.out]
  go_wp2_with fail
  refine OF.out.mono ?_; rintro e w1 ⟨v1, rfl, hs1, hb1⟩
  have HB1 := Lib.hid hb1
  have HE1 := Lib.hid (HE.out.below hb1 (Nat.le_refl _)); have HL1 := Lib.hid (HL.out.below hb1 (Nat.le_refl _)); have HG1 := Lib.hid (HG.out.below hb1 HG.out.lt)
  obtain ⟨hsv, A, c, rfl, hpc⟩ := hs1
  obtain ⟨p, hp⟩ : ∃ p, T.length = p := ⟨_, rfl⟩
  rw [hp] at hsv hpc ⊢
  have HS1 := Lib.hid hsv; have HP := Lib.hid hp
  have hp5 : p ≤ 100000 := by have := HT5.out; omega
  have HST : Hid (RList w1 S n T p (.slice none 0 0) w1) := Lib.hid ⟨[], _, rfl, IsList.nil _ _, by rw [hp]; rfl, Nat.zero_le _, World.ownsRow_nil _ _ _ _, fun h => absurd rfl h, rfl, Below.refl _ _⟩
  clear hb1 hsv hpc hp
  go_wp2_with fail
  go_loopg [6] p (fun gh lv wr => RList w1 S n T gh lv wr)
  case atStart => exact HST.out
  case round =>
    obtain ⟨l, wq, rfl, hil, hgh, hlp, hown, hnz, hgo, hB⟩ := hrel
    obtain ⟨Ao, co, rfl⟩ := own_form hown
    rw [HP.out] at hgh hlp
    obtain ⟨q, hq⟩ : ∃ q, l.length = q := ⟨_, rfl⟩
    have HQ := Lib.hid hq
    have HIL := Lib.hid hil; have HNZ := Lib.hid hnz; have HGO := Lib.hid hgo; have HBi := Lib.hid hB
    rw [hq] at hown hgh hlp ⊢
    have HO := Lib.hid hown
    by_cases hlt : q < p
    · have t1 : decide ((q : Int) < p) = true := decide_eq_true (by omega)
      have t1' : decide (q < p) = true := decide_eq_true hlt
      have HLT := Lib.hid hlt
      have HGH := Lib.hid hgh
      have j6 : IntKind.i64.wrap ((p : Int) - 1) = (p : Int) - 1 := by rw [IntKind.wrap_i64]; omega
      have HIN : Hid (RNext wq S n T l p (.int .i64 (-1)) (.int .i64 ((p : Int) - 1)) wq) := Lib.hid ⟨p, (p : Int) - 1, -1, _, rfl, rfl, by rw [HP.out]; exact Nat.le_refl _, rfl, rfl, rfl, by have h := lastC_end (adj S) T l; rw [HP.out] at h; exact h, fun j hj h => absurd hj (by rw [HP.out]; omega), Below.refl _ _⟩
      clear hown hgh hlp hq hil hnz hgo hB hlt
      go_wp2_with fail
      go_loopg [7, 8] p (fun gh xv yv wr => RNext wq S n T l gh xv yv wr)
      case atStart => exact HIN.out
      case round =>
        obtain ⟨k, j, r, ws, rfl, rfl, hkp, hj, rfl, rfl, hr, hok, hBs⟩ := hrel
        rw [HP.out] at hkp
        have HBs := Lib.hid hBs; have HR := Lib.hid hr; have HOK := Lib.hid hok
        rcases Nat.eq_zero_or_pos k with hk0 | hk0
        · subst hk0
          obtain rfl : j = -1 := by omega
          have hall := hok.all
          have hno : nextL (adj S) T l = none → x = none := fun h => by
            rw [← HXA.out hall, ← HGO.out]
            exact listGo_none h (by rw [HP.out, HQ.out]; exact HLT.out)
          have hv := nextL_val (n := n) (b := adj S) (T := T) (l := l) hall
          have HALL := Lib.hid hall
          have hBw := HBi.out.trans (hBs.mono HBi.out.size)
          have HO4 := Lib.hid (own_below HO.out hBs (Nat.le_refl _))
          have HBw := Lib.hid hBw
          have HBB := Lib.hid (HB0.out.trans ((HB1.out.trans (hBw.mono HB1.out.size)).mono HB0.out.size))
          have hs1 := hBw.size
          rcases hv with ⟨hv, hr2⟩ | ⟨v, hv, hr2, hv0⟩
          · obtain rfl : r = -1 := by rw [← hr, hr2]
            have hxn := hno hv
            subst hxn
            clear hr hok hBs hno hv hr2 hall hBw hkp hj
            go_wp2_with fail
            go_ret2
            exact ⟨_, rfl, ⟨seqV_nil _ _ _, _, _, rfl, Nat.zero_le _⟩, HBB.out⟩
          · obtain rfl : r = v := by rw [← hr, hr2]
            have t9 : decide (r < 0) = false := decide_eq_false (by omega)
            have hil2 := HIL.out.snoc hv
            have hgs := listGo_step hv (by rw [HP.out, HQ.out]; exact HLT.out)
            rw [HGO.out] at hgs
            have HIL2 := Lib.hid hil2; have HGS := Lib.hid hgs
            clear hr hok hBs hno hv hr2 hall hBw hkp hj hil2 hgs hv0
            have hq5 : q ≤ 100000 := by have := HLT.out; omega
            go_wp2_with (at_builtin; refine wpList_app1g _ rfl _ _ 22 rfl w1.heap.size 3 i0 (.int .i64 0) 8 Try.underlying22 hi0 hz0 hz1 hz2 rfl _ q _ rfl HO4.out _ rfl rfl (by omega) (by omega) hs1 ?_)
            intro A3 c3 w3 hown3 hgrow3
            have hb3 : Below w1.heap.size w1 w3 := hgrow3.below HO4.out HBw.out (Nat.le_refl _) hs1
            have hown3' : w3.ownsRow w1.heap.size 3 1 (.slice A3 (q + 1) c3) (l ++ [r]).length (intCells (l ++ [r])) := by rw [intCells_app, List.length_append, HQ.out]; exact hown3
            have HOW3 := Lib.hid hown3'; have HB3 := Lib.hid hb3
            clear hown3 hgrow3 hb3 hown3'
            go_wp2_with fail
            go_roundg (p - (q + 1))
            case rel => exact ⟨l ++ [r], _, rfl, HIL2.out, by rw [List.length_append, HQ.out, HP.out]; rfl, by rw [List.length_append, HQ.out, HP.out]; exact HLT.out, HOW3.out, fun _ => HALL.out, HGS.out.symm, HB3.out⟩
            case measure => have := HGH.out; have := HLT.out; omega
        · obtain ⟨i, rfl⟩ : ∃ i, k = i + 1 := ⟨k - 1, by omega⟩
          obtain rfl : j = (i : Int) := by omega
          have hiT : i < T.length := by rw [HP.out]; omega
          have hBw := HBi.out.trans (hBs.mono HBi.out.size)
          have hsq := HS1.out.below hBw (Nat.le_refl _)
          obtain ⟨b, off, hA, hx⟩ := seqPos hsq hiT
          obtain ⟨u, hu⟩ : ∃ u, T.getD i 0 = u := ⟨_, rfl⟩
          rw [hu] at hx
          have hst := lastC_step (b := adj S) (l := l) hiT
          rw [hu, hr] at hst
          have hcd : cand (adj S) l u = (!l.contains u && (l.isEmpty || bes (adj S) l u)) := rfl
          rw [hcd] at hst
          have hxb := HXB.out i hiT
          rw [hu] at hxb
          have hos : hasV n u = true → okFrom n T i := fun h => hok.step (by rw [hu]; exact h)
          have hG1 := HG1.out.below hBw HG1.out.lt
          have c0 : ws.cell? ⟨gb, 0, none⟩ = some (.slice Al n cl) := hG1.cell 0
          have c1 : ws.cell? ⟨gb, 1, none⟩ = some ve := hG1.cell 1
          have hlg := cellLt c0
          have hlx := cellLt hx
          have hb2 : ∀ W, Below ws.heap.size ws W → Below w1.heap.size w1 W := fun W hb => hBw.trans (hb.mono hBw.size)
          have hLS : ∀ W, Below ws.heap.size ws W → SeqV W (.slice Ao q co) l := fun W hb => by
            have h := own_below HO.out (hBs.trans (hb.mono hBs.size)) (Nat.le_refl _)
            rw [← HQ.out] at h ⊢
            exact (own_seqC h).1
          have hql : l.length ≤ 1000000 := by rw [HQ.out]; have := HLT.out; omega
          have hHV := fun (W : World) (hb : Below ws.heap.size ws W) => (refHasV_any L (.slice Al n cl) ve n u W (HL1.out.below (hb2 W hb) (Nat.le_refl _)) HN.out).mono (fun e w' hh => (show e = .returned (.bool (hasV n u)) ∧ Below ws.heap.size ws w' from ⟨hh.1, hb.trans (hh.2.mono hb.size)⟩))
          have hHC := fun (W : World) (hb : Below ws.heap.size ws W) => (refHas_any l u (.slice Ao q co) W (hLS W hb) (by omega)).mono (fun e w' hh => (show e = .returned (.bool (l.contains u)) ∧ Below ws.heap.size ws w' from ⟨hh.1, by rw [hh.2]; exact hb⟩))
          have hBS := fun (W : World) (hb : Below ws.heap.size ws W) => (refBeside_any S l (.slice Al n cl) ve (.slice Ao q co) u W (HE1.out.below (hb2 W hb) (Nat.le_refl _)) hS (hLS W hb) hql).mono (fun e w' hh => (show e = .returned (.bool (bes (adj S) l u)) ∧ Below ws.heap.size ws w' from ⟨hh.1, hb.trans (hh.2.mono hb.size)⟩))
          obtain ⟨y1, hy1⟩ : ∃ y, hasV n u = y := ⟨_, rfl⟩
          obtain ⟨y2, hy2⟩ : ∃ y, l.contains u = y := ⟨_, rfl⟩
          obtain ⟨y3, hy3⟩ : ∃ y, bes (adj S) l u = y := ⟨_, rfl⟩
          obtain ⟨y0, hy0⟩ : ∃ y, l.isEmpty = y := ⟨_, rfl⟩
          have t5 : ((q : Int) == 0) = y0 := by rw [← hy0, ← HQ.out]; cases l <;> simp <;> omega
          rw [hy1] at hHV hxb hos
          rw [hy2] at hHC hst
          rw [hy3] at hBS hst
          rw [hy0] at hst
          have HHV := Lib.hid hHV; have HHC := Lib.hid hHC; have HBS := Lib.hid hBS; have HXN := Lib.hid hxb; have HOS := Lib.hid hos; have HST3 := Lib.hid hst
          have HKS := Lib.hid (fun (W : World) (hb : Below ws.heap.size ws W) => (show Below ws.heap.size ws W ∧ W.cell? ⟨gb, 0, none⟩ = some (.slice Al n cl) ∧ W.cell? ⟨gb, 1, none⟩ = some ve ∧ W.cell? ⟨b, off + i, none⟩ = some (.int .i64 u) from ⟨hb, (hb.cell (p := ⟨gb, 0, none⟩) hlg).trans c0, (hb.cell (p := ⟨gb, 1, none⟩) hlg).trans c1, (hb.cell (p := ⟨b, off + i, none⟩) hlx).trans hx⟩))
          have HIT := Lib.hid hkp
          have t3 : decide ((0 : Int) ≤ i) = true := decide_eq_true (by omega)
          have i1 : (i : Int) < p := by omega
          have i2 : (0 : Int) ≤ i := by omega
          have j7 : IntKind.i64.wrap ((i : Int) - 1) = (i : Int) - 1 := by rw [IntKind.wrap_i64]; omega
          subst hA
          clear hr hok hkp hj hk0 hiT hBw hsq hu hst hcd hxb hos hG1 c0 c1 hlg hlx hb2 hLS hql hHV hHC hBS hy0 hy1 hy2 hy3 hx
          go_upto_region 8 with fail
          go_cut [29] (fun x wx => x = .bool (!y1) ∧ Below ws.heap.size ws wx)
          case first =>
            go_region_held3 (fun w' => Below ws.heap.size ws w' ∧ w'.cell? ⟨gb, 0, none⟩ = some (.slice Al n cl) ∧ w'.cell? ⟨gb, 1, none⟩ = some ve ∧ w'.cell? ⟨b, off + i, none⟩ = some (.int .i64 u))
              (exact HKS.out _ (by first | assumption | exact below_drewN' (Below.refl _ _) _))
              (first
                | (go_at_call 34; refine (HHV.out _ (by first | assumption | exact below_drewN' (Below.refl _ _) _)).mono ?_; rintro e' wT ⟨rfl, hBT⟩)
                | (go_at_call 24; refine (HHC.out _ (by first | assumption | exact below_drewN' (Below.refl _ _) _)).mono ?_; rintro e' wU ⟨rfl, hBU⟩)
                | (go_at_call 35; refine (HBS.out _ (by first | assumption | exact below_drewN' (Below.refl _ _) _)).mono ?_; rintro e' wV ⟨rfl, hBV⟩))
            all_goals
              go_wp2
              go_meet
              exact ⟨rfl, by assumption⟩
          case rest =>
            obtain ⟨rfl, hbx⟩ := hcut
            cases y1 with
            | false =>
              have hxn := HXN.out rfl
              subst hxn
              have HBB := Lib.hid (HB0.out.trans ((HB1.out.trans ((HBi.out.trans ((HBs.out.trans (hbx.mono HBs.out.size)).mono HBi.out.size)).mono HB1.out.size)).mono HB0.out.size))
              clear hbx
              go_wp2_with fail
              go_ret2
              exact ⟨_, rfl, ⟨seqV_nil _ _ _, _, _, rfl, Nat.zero_le _⟩, HBB.out⟩
            | true =>
              have HOK2 := Lib.hid (HOS.out rfl)
              clear HXN HOS
              obtain ⟨z, hz⟩ : ∃ z, (!y2 && (y0 || y3)) = z := ⟨_, rfl⟩
              have hst := HST3.out
              rw [hz] at hst
              have HST4 := Lib.hid hst; have HZ := Lib.hid hz
              clear hst hz HST3
              go_upto_region 10 with fail
              go_cut [50] (fun x wx => x = .bool z ∧ Below ws.heap.size ws wx)
              case first =>
                cases y2 with
                | true =>
                  obtain rfl : z = false := HZ.out.symm
                  refine wp_region_held_drew (S := fun w' => Below ws.heap.size ws w' ∧ w'.cell? ⟨gb, 0, none⟩ = some (.slice Al n cl) ∧ w'.cell? ⟨gb, 1, none⟩ = some ve ∧ w'.cell? ⟨b, off + i, none⟩ = some (.int .i64 u)) (by kernel_rfl) ?_ (fun hHeld => ?_)
                  · (try dsimp only); exact HKS.out _ (by first | assumption | exact below_drewN' hbx _)
                  refine wpAnyH_take (i := 0) (oi := ({ dst := some 30, op := Op.move (Operand.tmp 6), type := 22, pos := "ref.go:42", after := #[], guard := none } : Oper)) (v := ?va0) rfl (by kernel_rfl) (by kernel_rfl) (by kernel_rfl) (fun _ _ _ h => h) (Or.inl ⟨by rfl, ?hya0⟩) (by assumption) ?resta0
                  case hya0 => intro w hSw; (try dsimp only at hSw); go_simp; all_goals (with_reducible rfl)
                  try simp only [Act.put, List.setIfInBounds_toArray, List.set_cons_zero, List.set_cons_succ]
                  refine wpAnyH_take (i := 1) (oi := ({ dst := some 31, op := Op.move (Operand.tmp 1), type := 22, pos := "ref.go:42", after := #[], guard := none } : Oper)) (v := ?va1) rfl (by kernel_rfl) (by kernel_rfl) (by kernel_rfl) (fun _ _ _ h => h) (Or.inl ⟨by rfl, ?hya1⟩) (by assumption) ?resta1
                  case hya1 => intro w hSw; (try dsimp only at hSw); go_simp; all_goals (with_reducible rfl)
                  try simp only [Act.put, List.setIfInBounds_toArray, List.set_cons_zero, List.set_cons_succ]
                  refine wpAnyH_take (i := 2) (oi := ({ dst := some 32, op := Op.move (Operand.tmp 8), type := 3, pos := "ref.go:42", after := #[], guard := none } : Oper)) (v := ?va2) rfl (by kernel_rfl) (by kernel_rfl) (by kernel_rfl) (fun _ _ _ h => h) (Or.inl ⟨by rfl, ?hya2⟩) (by assumption) ?resta2
                  case hya2 => intro w hSw; (try dsimp only at hSw); go_simp; all_goals (with_reducible rfl)
                  try simp only [Act.put, List.setIfInBounds_toArray, List.set_cons_zero, List.set_cons_succ]
                  refine wpAnyH_take (i := 3) (oi := ({ dst := some 33, op := Op.indexAddr 22 (Operand.tmp 31) (Operand.tmp 32), type := 0, pos := "ref.go:42", after := #[{ on := 1, ground := Ground.data }, { on := 2, ground := Ground.data }], guard := none } : Oper)) (v := ?va3) rfl (by kernel_rfl) (by kernel_rfl) (by kernel_rfl) (fun _ _ _ h => h) (Or.inl ⟨by rfl, ?hya3⟩) (by assumption) ?resta3
                  case hya3 => intro w hSw; (try dsimp only at hSw); go_simp; all_goals (with_reducible rfl)
                  try simp only [Act.put, List.setIfInBounds_toArray, List.set_cons_zero, List.set_cons_succ]
                  refine wpAnyH_take (i := 4) (oi := ({ dst := some 34, op := Op.load 3 (Operand.tmp 33), type := 3, pos := "ref.go:42", after := #[{ on := 3, ground := Ground.data }], guard := none } : Oper)) (v := ?va4) rfl (by kernel_rfl) (by kernel_rfl) (by kernel_rfl) (fun _ _ _ h => h) (Or.inl ⟨by rfl, ?hya4⟩) (by assumption) ?resta4
                  case hya4 => intro w hSw; (try dsimp only at hSw); go_simp; all_goals (with_reducible rfl)
                  try simp only [Act.put, List.setIfInBounds_toArray, List.set_cons_zero, List.set_cons_succ]
                  refine wpAnyH_ready (rs := [5]) (by kernel_rfl) (by simp) ?_
                  refine AllReadyH.cons (o := ({ dst := some 35, op := Op.call { callee := Callee.value (Operand.func 24), args := #[Operand.tmp 30, Operand.tmp 34], argTypes := #[22, 3] }, type := 4, pos := "ref.go:42", after := #[{ on := 0, ground := Ground.data }, { on := 4, ground := Ground.data }], guard := none } : Oper)) rfl (fun K hK => ?_) AllReadyH.nil
                  go_simp
                  refine (HHC.out _ (by first | assumption | exact below_drewN' hbx _)).mono ?_; rintro e' wU ⟨rfl, hBU⟩
                  refine hK.out _ _ ?_ (fun hHeld => ?_)
                  · (try dsimp only); exact HKS.out _ (by first | assumption | exact below_drewN' hbx _)
                  clear hK K
                  try simp only [Act.put, List.setIfInBounds_toArray, List.set_cons_zero, List.set_cons_succ]
                  refine wpAnyH_take (i := 6) (oi := ({ dst := some 36, op := Op.unOp UnOp.not 4 (Operand.tmp 35), type := 4, pos := "ref.go:42", after := #[{ on := 5, ground := Ground.data }], guard := none } : Oper)) (v := ?va6) rfl (by kernel_rfl) (by kernel_rfl) (by kernel_rfl) (fun _ _ _ h => h) (Or.inl ⟨by rfl, ?hya6⟩) (by assumption) ?resta6
                  case hya6 => intro w hSw; (try dsimp only at hSw); go_simp; all_goals (with_reducible rfl)
                  try simp only [Act.put, List.setIfInBounds_toArray, List.set_cons_zero, List.set_cons_succ]
                  refine wpAnyH_take (i := 7) (oi := ({ dst := some 37, op := Op.move (Operand.tmp 36), type := 4, pos := "ref.go:42", after := #[{ on := 6, ground := Ground.data }, { on := 5, ground := Ground.chain }], guard := none } : Oper)) (v := ?va7) rfl (by kernel_rfl) (by kernel_rfl) (by kernel_rfl) (fun _ _ _ h => h) (Or.inl ⟨by rfl, ?hya7⟩) (by assumption) ?resta7
                  case hya7 => intro w hSw; (try dsimp only at hSw); go_simp; all_goals (with_reducible rfl)
                  try simp only [Act.put, List.setIfInBounds_toArray, List.set_cons_zero, List.set_cons_succ]
                  refine wpAnyH_take (i := 8) (oi := ({ dst := some 38, op := Op.move (Operand.tmp 6), type := 22, pos := "ref.go:42", after := #[{ on := 7, ground := Ground.guard }], guard := some (7, true) } : Oper)) (v := undef) rfl (by kernel_rfl) (by kernel_rfl) (by kernel_rfl) (fun _ _ _ h => h) (Or.inr ⟨by rfl, rfl⟩) (by assumption) ?_
                  try simp only [Act.put, List.setIfInBounds_toArray, List.set_cons_zero, List.set_cons_succ]
                  refine wpAnyH_take (i := 9) (oi := ({ dst := some 39, op := Op.call { callee := Callee.builtin Builtin.len, args := #[Operand.tmp 38], argTypes := #[22] }, type := 3, pos := "ref.go:42", after := #[{ on := 8, ground := Ground.data }, { on := 7, ground := Ground.guard }], guard := some (7, true) } : Oper)) (v := undef) rfl (by kernel_rfl) (by kernel_rfl) (by kernel_rfl) (fun _ _ _ h => h) (Or.inr ⟨by rfl, rfl⟩) (by assumption) ?_
                  try simp only [Act.put, List.setIfInBounds_toArray, List.set_cons_zero, List.set_cons_succ]
                  refine wpAnyH_take (i := 10) (oi := ({ dst := some 40, op := Op.binOp BinOp.eql 3 (Operand.tmp 39) (Operand.const (Value.int IntKind.i64 0)) 3, type := 4, pos := "ref.go:42", after := #[{ on := 9, ground := Ground.data }, { on := 7, ground := Ground.guard }], guard := some (7, true) } : Oper)) (v := undef) rfl (by kernel_rfl) (by kernel_rfl) (by kernel_rfl) (fun _ _ _ h => h) (Or.inr ⟨by rfl, rfl⟩) (by assumption) ?_
                  try simp only [Act.put, List.setIfInBounds_toArray, List.set_cons_zero, List.set_cons_succ]
                  refine wpAnyH_take (i := 11) (oi := ({ dst := some 41, op := Op.move (Operand.tmp 40), type := 4, pos := "ref.go:42", after := #[{ on := 10, ground := Ground.data }, { on := 7, ground := Ground.chain }, { on := 7, ground := Ground.guard }], guard := some (7, true) } : Oper)) (v := undef) rfl (by kernel_rfl) (by kernel_rfl) (by kernel_rfl) (fun _ _ _ h => h) (Or.inr ⟨by rfl, rfl⟩) (by assumption) ?_
                  try simp only [Act.put, List.setIfInBounds_toArray, List.set_cons_zero, List.set_cons_succ]
                  refine wpAnyH_take (i := 12) (oi := ({ dst := some 42, op := Op.load 27 (Operand.tmp 2), type := 27, pos := "ref.go:42", after := #[{ on := 11, ground := Ground.guard }], guard := some (11, false) } : Oper)) (v := undef) rfl (by kernel_rfl) (by kernel_rfl) (by kernel_rfl) (fun _ _ _ h => h) (Or.inr ⟨by rfl, rfl⟩) (by assumption) ?_
                  try simp only [Act.put, List.setIfInBounds_toArray, List.set_cons_zero, List.set_cons_succ]
                  refine wpAnyH_take (i := 13) (oi := ({ dst := some 43, op := Op.move (Operand.tmp 6), type := 22, pos := "ref.go:42", after := #[{ on := 11, ground := Ground.guard }], guard := some (11, false) } : Oper)) (v := undef) rfl (by kernel_rfl) (by kernel_rfl) (by kernel_rfl) (fun _ _ _ h => h) (Or.inr ⟨by rfl, rfl⟩) (by assumption) ?_
                  try simp only [Act.put, List.setIfInBounds_toArray, List.set_cons_zero, List.set_cons_succ]
                  refine wpAnyH_take (i := 14) (oi := ({ dst := some 44, op := Op.move (Operand.tmp 1), type := 22, pos := "ref.go:42", after := #[{ on := 11, ground := Ground.guard }], guard := some (11, false) } : Oper)) (v := undef) rfl (by kernel_rfl) (by kernel_rfl) (by kernel_rfl) (fun _ _ _ h => h) (Or.inr ⟨by rfl, rfl⟩) (by assumption) ?_
                  try simp only [Act.put, List.setIfInBounds_toArray, List.set_cons_zero, List.set_cons_succ]
                  refine wpAnyH_take (i := 15) (oi := ({ dst := some 45, op := Op.move (Operand.tmp 8), type := 3, pos := "ref.go:42", after := #[{ on := 11, ground := Ground.guard }], guard := some (11, false) } : Oper)) (v := undef) rfl (by kernel_rfl) (by kernel_rfl) (by kernel_rfl) (fun _ _ _ h => h) (Or.inr ⟨by rfl, rfl⟩) (by assumption) ?_
                  try simp only [Act.put, List.setIfInBounds_toArray, List.set_cons_zero, List.set_cons_succ]
                  refine wpAnyH_take (i := 16) (oi := ({ dst := some 46, op := Op.indexAddr 22 (Operand.tmp 44) (Operand.tmp 45), type := 0, pos := "ref.go:42", after := #[{ on := 14, ground := Ground.data }, { on := 15, ground := Ground.data }, { on := 11, ground := Ground.guard }], guard := some (11, false) } : Oper)) (v := undef) rfl (by kernel_rfl) (by kernel_rfl) (by kernel_rfl) (fun _ _ _ h => h) (Or.inr ⟨by rfl, rfl⟩) (by assumption) ?_
                  try simp only [Act.put, List.setIfInBounds_toArray, List.set_cons_zero, List.set_cons_succ]
                  refine wpAnyH_take (i := 17) (oi := ({ dst := some 47, op := Op.load 3 (Operand.tmp 46), type := 3, pos := "ref.go:42", after := #[{ on := 16, ground := Ground.data }, { on := 11, ground := Ground.guard }], guard := some (11, false) } : Oper)) (v := undef) rfl (by kernel_rfl) (by kernel_rfl) (by kernel_rfl) (fun _ _ _ h => h) (Or.inr ⟨by rfl, rfl⟩) (by assumption) ?_
                  try simp only [Act.put, List.setIfInBounds_toArray, List.set_cons_zero, List.set_cons_succ]
                  refine wpAnyH_take (i := 18) (oi := ({ dst := some 48, op := Op.call { callee := Callee.value (Operand.func 35), args := #[Operand.tmp 42, Operand.tmp 43, Operand.tmp 47], argTypes := #[27, 22, 3] }, type := 4, pos := "ref.go:42", after := #[{ on := 12, ground := Ground.data }, { on := 13, ground := Ground.data }, { on := 17, ground := Ground.data }, { on := 11, ground := Ground.chain }, { on := 11, ground := Ground.guard }], guard := some (11, false) } : Oper)) (v := undef) rfl (by kernel_rfl) (by kernel_rfl) (by kernel_rfl) (fun _ _ _ h => h) (Or.inr ⟨by rfl, rfl⟩) (by assumption) ?_
                  try simp only [Act.put, List.setIfInBounds_toArray, List.set_cons_zero, List.set_cons_succ]
                  refine wpAnyH_take (i := 19) (oi := ({ dst := some 49, op := Op.pick (Operand.tmp 41) (Operand.const (Value.bool true)) (Operand.tmp 48), type := 4, pos := "ref.go:42", after := #[{ on := 11, ground := Ground.data }, { on := 18, ground := Ground.data }, { on := 7, ground := Ground.guard }], guard := some (7, true) } : Oper)) (v := undef) rfl (by kernel_rfl) (by kernel_rfl) (by kernel_rfl) (fun _ _ _ h => h) (Or.inr ⟨by rfl, rfl⟩) (by assumption) ?_
                  try simp only [Act.put, List.setIfInBounds_toArray, List.set_cons_zero, List.set_cons_succ]
                  refine wpAnyH_take (i := 20) (oi := ({ dst := some 50, op := Op.pick (Operand.tmp 37) (Operand.tmp 49) (Operand.const (Value.bool false)), type := 4, pos := "ref.go:42", after := #[{ on := 7, ground := Ground.data }, { on := 19, ground := Ground.data }], guard := none } : Oper)) (v := ?va20) rfl (by kernel_rfl) (by kernel_rfl) (by kernel_rfl) (fun _ _ _ h => h) (Or.inl ⟨by rfl, ?hya20⟩) (by assumption) ?resta20
                  case hya20 => intro w hSw; (try dsimp only at hSw); go_simp; all_goals (with_reducible rfl)
                  try simp only [Act.put, List.setIfInBounds_toArray, List.set_cons_zero, List.set_cons_succ]
                  refine wpAnyH_done (by kernel_rfl) ?_ _
                  go_wp2_with fail
                  go_meet
                  exact ⟨rfl, by assumption⟩
                | false =>
                  cases y0 with
                  | true =>
                    obtain rfl : z = true := HZ.out.symm
                    refine wp_region_held_drew (S := fun w' => Below ws.heap.size ws w' ∧ w'.cell? ⟨gb, 0, none⟩ = some (.slice Al n cl) ∧ w'.cell? ⟨gb, 1, none⟩ = some ve ∧ w'.cell? ⟨b, off + i, none⟩ = some (.int .i64 u)) (by kernel_rfl) ?_ (fun hHeld => ?_)
                    · (try dsimp only); exact HKS.out _ (by first | assumption | exact below_drewN' hbx _)
                    refine wpAnyH_take (i := 0) (oi := ({ dst := some 30, op := Op.move (Operand.tmp 6), type := 22, pos := "ref.go:42", after := #[], guard := none } : Oper)) (v := ?vb0) rfl (by kernel_rfl) (by kernel_rfl) (by kernel_rfl) (fun _ _ _ h => h) (Or.inl ⟨by rfl, ?hyb0⟩) (by assumption) ?restb0
                    case hyb0 => intro w hSw; (try dsimp only at hSw); go_simp; all_goals (with_reducible rfl)
                    try simp only [Act.put, List.setIfInBounds_toArray, List.set_cons_zero, List.set_cons_succ]
                    refine wpAnyH_take (i := 1) (oi := ({ dst := some 31, op := Op.move (Operand.tmp 1), type := 22, pos := "ref.go:42", after := #[], guard := none } : Oper)) (v := ?vb1) rfl (by kernel_rfl) (by kernel_rfl) (by kernel_rfl) (fun _ _ _ h => h) (Or.inl ⟨by rfl, ?hyb1⟩) (by assumption) ?restb1
                    case hyb1 => intro w hSw; (try dsimp only at hSw); go_simp; all_goals (with_reducible rfl)
                    try simp only [Act.put, List.setIfInBounds_toArray, List.set_cons_zero, List.set_cons_succ]
                    refine wpAnyH_take (i := 2) (oi := ({ dst := some 32, op := Op.move (Operand.tmp 8), type := 3, pos := "ref.go:42", after := #[], guard := none } : Oper)) (v := ?vb2) rfl (by kernel_rfl) (by kernel_rfl) (by kernel_rfl) (fun _ _ _ h => h) (Or.inl ⟨by rfl, ?hyb2⟩) (by assumption) ?restb2
                    case hyb2 => intro w hSw; (try dsimp only at hSw); go_simp; all_goals (with_reducible rfl)
                    try simp only [Act.put, List.setIfInBounds_toArray, List.set_cons_zero, List.set_cons_succ]
                    refine wpAnyH_take (i := 3) (oi := ({ dst := some 33, op := Op.indexAddr 22 (Operand.tmp 31) (Operand.tmp 32), type := 0, pos := "ref.go:42", after := #[{ on := 1, ground := Ground.data }, { on := 2, ground := Ground.data }], guard := none } : Oper)) (v := ?vb3) rfl (by kernel_rfl) (by kernel_rfl) (by kernel_rfl) (fun _ _ _ h => h) (Or.inl ⟨by rfl, ?hyb3⟩) (by assumption) ?restb3
                    case hyb3 => intro w hSw; (try dsimp only at hSw); go_simp; all_goals (with_reducible rfl)
                    try simp only [Act.put, List.setIfInBounds_toArray, List.set_cons_zero, List.set_cons_succ]
                    refine wpAnyH_take (i := 4) (oi := ({ dst := some 34, op := Op.load 3 (Operand.tmp 33), type := 3, pos := "ref.go:42", after := #[{ on := 3, ground := Ground.data }], guard := none } : Oper)) (v := ?vb4) rfl (by kernel_rfl) (by kernel_rfl) (by kernel_rfl) (fun _ _ _ h => h) (Or.inl ⟨by rfl, ?hyb4⟩) (by assumption) ?restb4
                    case hyb4 => intro w hSw; (try dsimp only at hSw); go_simp; all_goals (with_reducible rfl)
                    try simp only [Act.put, List.setIfInBounds_toArray, List.set_cons_zero, List.set_cons_succ]
                    refine wpAnyH_ready (rs := [5]) (by kernel_rfl) (by simp) ?_
                    refine AllReadyH.cons (o := ({ dst := some 35, op := Op.call { callee := Callee.value (Operand.func 24), args := #[Operand.tmp 30, Operand.tmp 34], argTypes := #[22, 3] }, type := 4, pos := "ref.go:42", after := #[{ on := 0, ground := Ground.data }, { on := 4, ground := Ground.data }], guard := none } : Oper)) rfl (fun K hK => ?_) AllReadyH.nil
                    go_simp
                    refine (HHC.out _ (by first | assumption | exact below_drewN' hbx _)).mono ?_; rintro e' wU ⟨rfl, hBU⟩
                    refine hK.out _ _ ?_ (fun hHeld => ?_)
                    · (try dsimp only); exact HKS.out _ (by first | assumption | exact below_drewN' hbx _)
                    clear hK K
                    try simp only [Act.put, List.setIfInBounds_toArray, List.set_cons_zero, List.set_cons_succ]
                    refine wpAnyH_take (i := 6) (oi := ({ dst := some 36, op := Op.unOp UnOp.not 4 (Operand.tmp 35), type := 4, pos := "ref.go:42", after := #[{ on := 5, ground := Ground.data }], guard := none } : Oper)) (v := ?vb6) rfl (by kernel_rfl) (by kernel_rfl) (by kernel_rfl) (fun _ _ _ h => h) (Or.inl ⟨by rfl, ?hyb6⟩) (by assumption) ?restb6
                    case hyb6 => intro w hSw; (try dsimp only at hSw); go_simp; all_goals (with_reducible rfl)
                    try simp only [Act.put, List.setIfInBounds_toArray, List.set_cons_zero, List.set_cons_succ]
                    refine wpAnyH_take (i := 7) (oi := ({ dst := some 37, op := Op.move (Operand.tmp 36), type := 4, pos := "ref.go:42", after := #[{ on := 6, ground := Ground.data }, { on := 5, ground := Ground.chain }], guard := none } : Oper)) (v := ?vb7) rfl (by kernel_rfl) (by kernel_rfl) (by kernel_rfl) (fun _ _ _ h => h) (Or.inl ⟨by rfl, ?hyb7⟩) (by assumption) ?restb7
                    case hyb7 => intro w hSw; (try dsimp only at hSw); go_simp; all_goals (with_reducible rfl)
                    try simp only [Act.put, List.setIfInBounds_toArray, List.set_cons_zero, List.set_cons_succ]
                    refine wpAnyH_take (i := 8) (oi := ({ dst := some 38, op := Op.move (Operand.tmp 6), type := 22, pos := "ref.go:42", after := #[{ on := 7, ground := Ground.guard }], guard := some (7, true) } : Oper)) (v := ?vb8) rfl (by kernel_rfl) (by kernel_rfl) (by kernel_rfl) (fun _ _ _ h => h) (Or.inl ⟨by rfl, ?hyb8⟩) (by assumption) ?restb8
                    case hyb8 => intro w hSw; (try dsimp only at hSw); go_simp; all_goals (with_reducible rfl)
                    try simp only [Act.put, List.setIfInBounds_toArray, List.set_cons_zero, List.set_cons_succ]
                    refine wpAnyH_take (i := 9) (oi := ({ dst := some 39, op := Op.call { callee := Callee.builtin Builtin.len, args := #[Operand.tmp 38], argTypes := #[22] }, type := 3, pos := "ref.go:42", after := #[{ on := 8, ground := Ground.data }, { on := 7, ground := Ground.guard }], guard := some (7, true) } : Oper)) (v := ?vb9) rfl (by kernel_rfl) (by kernel_rfl) (by kernel_rfl) (fun _ _ _ h => h) (Or.inl ⟨by rfl, ?hyb9⟩) (by assumption) ?restb9
                    case hyb9 => intro w hSw; (try dsimp only at hSw); go_simp; all_goals (with_reducible rfl)
                    try simp only [Act.put, List.setIfInBounds_toArray, List.set_cons_zero, List.set_cons_succ]
                    refine wpAnyH_take (i := 10) (oi := ({ dst := some 40, op := Op.binOp BinOp.eql 3 (Operand.tmp 39) (Operand.const (Value.int IntKind.i64 0)) 3, type := 4, pos := "ref.go:42", after := #[{ on := 9, ground := Ground.data }, { on := 7, ground := Ground.guard }], guard := some (7, true) } : Oper)) (v := ?vb10) rfl (by kernel_rfl) (by kernel_rfl) (by kernel_rfl) (fun _ _ _ h => h) (Or.inl ⟨by rfl, ?hyb10⟩) (by assumption) ?restb10
                    case hyb10 => intro w hSw; (try dsimp only at hSw); go_simp; all_goals (with_reducible rfl)
                    try simp only [Act.put, List.setIfInBounds_toArray, List.set_cons_zero, List.set_cons_succ]
                    refine wpAnyH_take (i := 11) (oi := ({ dst := some 41, op := Op.move (Operand.tmp 40), type := 4, pos := "ref.go:42", after := #[{ on := 10, ground := Ground.data }, { on := 7, ground := Ground.chain }, { on := 7, ground := Ground.guard }], guard := some (7, true) } : Oper)) (v := ?vb11) rfl (by kernel_rfl) (by kernel_rfl) (by kernel_rfl) (fun _ _ _ h => h) (Or.inl ⟨by rfl, ?hyb11⟩) (by assumption) ?restb11
                    case hyb11 => intro w hSw; (try dsimp only at hSw); go_simp; all_goals (with_reducible rfl)
                    try simp only [Act.put, List.setIfInBounds_toArray, List.set_cons_zero, List.set_cons_succ]
                    refine wpAnyH_take (i := 12) (oi := ({ dst := some 42, op := Op.load 27 (Operand.tmp 2), type := 27, pos := "ref.go:42", after := #[{ on := 11, ground := Ground.guard }], guard := some (11, false) } : Oper)) (v := undef) rfl (by kernel_rfl) (by kernel_rfl) (by kernel_rfl) (fun _ _ _ h => h) (Or.inr ⟨by rfl, rfl⟩) (by assumption) ?_
                    try simp only [Act.put, List.setIfInBounds_toArray, List.set_cons_zero, List.set_cons_succ]
                    refine wpAnyH_take (i := 13) (oi := ({ dst := some 43, op := Op.move (Operand.tmp 6), type := 22, pos := "ref.go:42", after := #[{ on := 11, ground := Ground.guard }], guard := some (11, false) } : Oper)) (v := undef) rfl (by kernel_rfl) (by kernel_rfl) (by kernel_rfl) (fun _ _ _ h => h) (Or.inr ⟨by rfl, rfl⟩) (by assumption) ?_
                    try simp only [Act.put, List.setIfInBounds_toArray, List.set_cons_zero, List.set_cons_succ]
                    refine wpAnyH_take (i := 14) (oi := ({ dst := some 44, op := Op.move (Operand.tmp 1), type := 22, pos := "ref.go:42", after := #[{ on := 11, ground := Ground.guard }], guard := some (11, false) } : Oper)) (v := undef) rfl (by kernel_rfl) (by kernel_rfl) (by kernel_rfl) (fun _ _ _ h => h) (Or.inr ⟨by rfl, rfl⟩) (by assumption) ?_
                    try simp only [Act.put, List.setIfInBounds_toArray, List.set_cons_zero, List.set_cons_succ]
                    refine wpAnyH_take (i := 15) (oi := ({ dst := some 45, op := Op.move (Operand.tmp 8), type := 3, pos := "ref.go:42", after := #[{ on := 11, ground := Ground.guard }], guard := some (11, false) } : Oper)) (v := undef) rfl (by kernel_rfl) (by kernel_rfl) (by kernel_rfl) (fun _ _ _ h => h) (Or.inr ⟨by rfl, rfl⟩) (by assumption) ?_
                    try simp only [Act.put, List.setIfInBounds_toArray, List.set_cons_zero, List.set_cons_succ]
                    refine wpAnyH_take (i := 16) (oi := ({ dst := some 46, op := Op.indexAddr 22 (Operand.tmp 44) (Operand.tmp 45), type := 0, pos := "ref.go:42", after := #[{ on := 14, ground := Ground.data }, { on := 15, ground := Ground.data }, { on := 11, ground := Ground.guard }], guard := some (11, false) } : Oper)) (v := undef) rfl (by kernel_rfl) (by kernel_rfl) (by kernel_rfl) (fun _ _ _ h => h) (Or.inr ⟨by rfl, rfl⟩) (by assumption) ?_
                    try simp only [Act.put, List.setIfInBounds_toArray, List.set_cons_zero, List.set_cons_succ]
                    refine wpAnyH_take (i := 17) (oi := ({ dst := some 47, op := Op.load 3 (Operand.tmp 46), type := 3, pos := "ref.go:42", after := #[{ on := 16, ground := Ground.data }, { on := 11, ground := Ground.guard }], guard := some (11, false) } : Oper)) (v := undef) rfl (by kernel_rfl) (by kernel_rfl) (by kernel_rfl) (fun _ _ _ h => h) (Or.inr ⟨by rfl, rfl⟩) (by assumption) ?_
                    try simp only [Act.put, List.setIfInBounds_toArray, List.set_cons_zero, List.set_cons_succ]
                    refine wpAnyH_take (i := 18) (oi := ({ dst := some 48, op := Op.call { callee := Callee.value (Operand.func 35), args := #[Operand.tmp 42, Operand.tmp 43, Operand.tmp 47], argTypes := #[27, 22, 3] }, type := 4, pos := "ref.go:42", after := #[{ on := 12, ground := Ground.data }, { on := 13, ground := Ground.data }, { on := 17, ground := Ground.data }, { on := 11, ground := Ground.chain }, { on := 11, ground := Ground.guard }], guard := some (11, false) } : Oper)) (v := undef) rfl (by kernel_rfl) (by kernel_rfl) (by kernel_rfl) (fun _ _ _ h => h) (Or.inr ⟨by rfl, rfl⟩) (by assumption) ?_
                    try simp only [Act.put, List.setIfInBounds_toArray, List.set_cons_zero, List.set_cons_succ]
                    refine wpAnyH_take (i := 19) (oi := ({ dst := some 49, op := Op.pick (Operand.tmp 41) (Operand.const (Value.bool true)) (Operand.tmp 48), type := 4, pos := "ref.go:42", after := #[{ on := 11, ground := Ground.data }, { on := 18, ground := Ground.data }, { on := 7, ground := Ground.guard }], guard := some (7, true) } : Oper)) (v := ?vb19) rfl (by kernel_rfl) (by kernel_rfl) (by kernel_rfl) (fun _ _ _ h => h) (Or.inl ⟨by rfl, ?hyb19⟩) (by assumption) ?restb19
                    case hyb19 => intro w hSw; (try dsimp only at hSw); go_simp; all_goals (with_reducible rfl)
                    try simp only [Act.put, List.setIfInBounds_toArray, List.set_cons_zero, List.set_cons_succ]
                    refine wpAnyH_take (i := 20) (oi := ({ dst := some 50, op := Op.pick (Operand.tmp 37) (Operand.tmp 49) (Operand.const (Value.bool false)), type := 4, pos := "ref.go:42", after := #[{ on := 7, ground := Ground.data }, { on := 19, ground := Ground.data }], guard := none } : Oper)) (v := ?vb20) rfl (by kernel_rfl) (by kernel_rfl) (by kernel_rfl) (fun _ _ _ h => h) (Or.inl ⟨by rfl, ?hyb20⟩) (by assumption) ?restb20
                    case hyb20 => intro w hSw; (try dsimp only at hSw); go_simp; all_goals (with_reducible rfl)
                    try simp only [Act.put, List.setIfInBounds_toArray, List.set_cons_zero, List.set_cons_succ]
                    refine wpAnyH_done (by kernel_rfl) ?_ _
                    go_wp2_with fail
                    go_meet
                    exact ⟨rfl, by assumption⟩
                  | false =>
                    obtain rfl : z = y3 := HZ.out.symm
                    go_region_held3 (fun w' => Below ws.heap.size ws w' ∧ w'.cell? ⟨gb, 0, none⟩ = some (.slice Al n cl) ∧ w'.cell? ⟨gb, 1, none⟩ = some ve ∧ w'.cell? ⟨b, off + i, none⟩ = some (.int .i64 u))
                      (exact HKS.out _ (by first | assumption | exact below_drewN' hbx _))
                      (first
                        | (go_at_call 34; refine (HHV.out _ (by first | assumption | exact below_drewN' hbx _)).mono ?_; rintro e' wT ⟨rfl, hBT⟩)
                        | (go_at_call 24; refine (HHC.out _ (by first | assumption | exact below_drewN' hbx _)).mono ?_; rintro e' wU ⟨rfl, hBU⟩)
                        | (go_at_call 35; refine (HBS.out _ (by first | assumption | exact below_drewN' hbx _)).mono ?_; rintro e' wV ⟨rfl, hBV⟩))
                    all_goals
                      go_wp2
                      go_meet
                      exact ⟨rfl, by assumption⟩
              case rest =>
                obtain ⟨rfl, hby⟩ := hcut
                have hcx := (HKS.out _ hby).2.2.2
                have HBY := Lib.hid (HBs.out.trans (hby.mono HBs.out.size))
                clear hby hbx
                cases z with
                | true =>
                  have HR2 : Hid (lastC (adj S) T l i = u) := Lib.hid HST4.out
                  go_wp2_with fail
                  go_roundg i
                  case rel => exact ⟨i, (i : Int) - 1, u, _, rfl, rfl, by rw [HP.out]; have := HIT.out; omega, rfl, by go_num, rfl, HR2.out, HOK2.out, HBY.out⟩
                  case measure => omega
                | false =>
                  have HR2 : Hid (lastC (adj S) T l i = r) := Lib.hid HST4.out
                  go_wp2_with fail
                  go_roundg i
                  case rel => exact ⟨i, (i : Int) - 1, r, _, rfl, rfl, by rw [HP.out]; have := HIT.out; omega, rfl, by go_num, rfl, HR2.out, HOK2.out, HBY.out⟩
                  case measure => omega
    · obtain rfl : p = q := by omega
      have t1 : decide ((p : Int) < p) = false := by simp
      have t1' : decide (p < p) = false := by simp
      have hall : T.all (hasV n) = true := by
        by_cases h : l = []
        · have h0 : p = 0 := by rw [← hq, h]; rfl
          have h1 := HP.out
          rw [h0] at h1
          rw [List.eq_nil_of_length_eq_zero h1]
          rfl
        · exact hnz h
      have hx : x = some l := by
        rw [← HXA.out hall, ← hgo, HP.out, hq, Nat.sub_self]
        rfl
      subst hx
      have HBB := Lib.hid (HB0.out.trans ((HB1.out.trans (hB.mono HB1.out.size)).mono HB0.out.size))
      clear hown hgh hlp hq hil hnz hgo hB hlt hall
      go_wp2_with fail
      go_ret2
      exact ⟨_, rfl, by have h := HO.out; rw [← HQ.out] at h ⊢; exact own_seqC h, HBB.out⟩
end Go.Proofs.Ytploaffmhemjkaa
