/- ConfLines: the law's walk. Written by gen_linesl22.py. -/
import Derived.Test.YtbbdammdiplagaaGreatDoorLinesP22
import Derived.Test.YtbbdammdiplagaaGreatDoorRefZ22
import Derived.Deep.CutBlock
namespace Go.Proofs.YtbbdammdiplagaaGreatDoor
open Go.RowKit

set_option maxRecDepth 100000 in
set_option maxHeartbeats 4000000 in
theorem linesBad_law (kd sz su wk cp : Int) (O : List (Int × Int)) (kv : Value) (r : Int) (w : World) (hg : GT w) (hk : EdgesV w kv O) (hl : O.length ≤ 9000000000000) (hr : rightKB ⟨⟨kd, sz, su, wk, cp⟩, O⟩ = false) :
    Calls Tryz.prog 5 #[.agg (cV ⟨kd, sz, su, wk, cp⟩ kv), .int .u8 r] w fun e w' => e = .returned (.bool true) ∧ Below w.heap.size w w' := by
  obtain ⟨Ak, ck, rfl⟩ := hk.form
  have AL := Lib.hid (fun W (h : Below w.heap.size w W) => alive_ok W (hg.below h (Nat.le_refl _)))
  have HRR : Hid (∀ W, Below w.heap.size w W → Calls Tryz.prog 10 #[.agg (#[.int .i64 kd, .int .i64 sz, .int .i64 su, .int .i64 wk, .int .i64 cp, .slice Ak O.length ck])] W fun e w' => e = .returned (.bool false) ∧ Below W.heap.size W w') := Lib.hid (fun W h => by
    have k := refRight22 kd sz su wk cp O _ W (hk.below h (Nat.le_refl _)) hl
    rw [hr] at k
    exact k)
  generalize O.length = q at *
  have hb1 : Below w.heap.size w (w.alloc (.cells (#[.int .i64 kd, .int .i64 sz, .int .i64 su, .int .i64 wk, .int .i64 cp, .slice Ak q ck]) 24)) := (Below.refl _ _).alloc (Nat.le_refl _) _
  have hx := Whole.new w 24 (#[.int .i64 kd, .int .i64 sz, .int .i64 su, .int .i64 wk, .int .i64 cp, .slice Ak q ck])
  obtain ⟨w1, hw1⟩ : ∃ W, w.alloc (.cells (#[.int .i64 kd, .int .i64 sz, .int .i64 su, .int .i64 wk, .int .i64 cp, .slice Ak q ck]) 24) = W := ⟨_, rfl⟩
  obtain ⟨xb, hxb⟩ : ∃ g, w.heap.size = g := ⟨_, rfl⟩
  rw [hw1] at hb1 hx
  rw [hxb] at hx
  have HB1 := Lib.hid hb1; have HX := Lib.hid hx; have HW1 := Lib.hid hw1; have HXB := Lib.hid hxb
  clear hb1 hx hw1 hxb hg hk hl hr
  unfold cV
  go_enter Tryz.func5, Tryz.ntmps5
  go_upto_region 1 with fail
  rw [HW1.out, HXB.out]
  go_wp2_with fail
  refine (AL.out _ HB1.out).mono ?_; rintro e w2 ⟨rfl, hb2⟩
  have hx2 := HX.out.below hb2 HX.out.lt
  have HB2 := Lib.hid (HB1.out.trans (hb2.mono HB1.out.size))
  have HR2 := Lib.hid (HRR.out w2 HB2.out)
  have x0 : w2.cell? ⟨xb, 0, none⟩ = some (.int .i64 kd) := hx2.cell 0
  have x1 : w2.cell? ⟨xb, 1, none⟩ = some (.int .i64 sz) := hx2.cell 1
  have x2 : w2.cell? ⟨xb, 2, none⟩ = some (.int .i64 su) := hx2.cell 2
  have x3 : w2.cell? ⟨xb, 3, none⟩ = some (.int .i64 wk) := hx2.cell 3
  have x4 : w2.cell? ⟨xb, 4, none⟩ = some (.int .i64 cp) := hx2.cell 4
  have x5 : w2.cell? ⟨xb, 5, none⟩ = some (.slice Ak q ck) := hx2.cell 5
  clear hb2 hx2
  go_wp2_with fail
  refine HR2.out.mono ?_; rintro e w3 ⟨rfl, hb3⟩
  have HB3 := Lib.hid (HB2.out.trans (hb3.mono HB2.out.size))
  clear hb3
  go_wp2_with fail
  go_ret
  exact ⟨rfl, HB3.out⟩
/-- What the second parse leaves. -/
def CutL (kd : Int) (sz su wk cp q : Nat) (O : List (Int × Int)) (ws : World) (x y : Value) (W : World) : Prop := ∃ V db A3 c3, V = W ∧ x = .pointer (some ⟨db, 0, none⟩) ∧ y = .nilIface ∧ Whole V db 29 (#[.int .i64 kd, .int .i64 (sz : Nat), .int .i64 (su : Nat), .int .i64 (wk : Nat), .int .i64 (cp : Nat), .slice A3 q c3]) ∧ EdgesV V (.slice A3 q c3) O ∧ Below ws.heap.size ws V
theorem cutL_A {kd : Int} {sz su wk cp q : Nat} {O : List (Int × Int)} {ws v5 V : World} {A3 : Option Addr} {c3 db : Nat} (he : EdgesV v5 (.slice A3 q c3) O) (hw : Whole V db 29 (#[.int .i64 kd, .int .i64 (sz : Nat), .int .i64 (su : Nat), .int .i64 (wk : Nat), .int .i64 (cp : Nat), .slice A3 q c3])) (hb : Below v5.heap.size v5 V) (hb2 : Below ws.heap.size ws V) (_ : ws.heap.size ≤ v5.heap.size) : CutL kd sz su wk cp q O ws (.pointer (some ⟨db, 0, none⟩)) .nilIface V :=
  ⟨V, db, A3, c3, rfl, rfl, rfl, hw, he.below hb (Nat.le_refl _), hb2⟩
theorem edges_off {w : World} {v : Value} {O : List (Int × Int)} {g : Nat} {t : TypeId} (h : EdgesV w v O) (hp : progF O = none) (hw : Whole w g t #[.int .i64 0, .int .i64 0, .int .i64 0, .int .i64 0, .int .i64 0, .slice none 0 0]) (b' off cap : Nat) (hv : v = .slice (some ⟨b', off, none⟩) O.length cap) (h0 : 0 < O.length) : b' ≠ g := by
  rintro rfl
  rw [hv] at h
  obtain ⟨b, o, hb, k1, _⟩ := h.pos (i := 0) h0
  have hb2 := Option.some.inj hb
  injection hb2 with e1 e2
  subst e1 e2
  rw [Nat.zero_mul, Nat.add_zero] at k1
  have hk : 1 ≤ (O.getD 0 (0, 0)).1 := by
    obtain ⟨o0, t0, rfl⟩ : ∃ o0 t0, O = o0 :: t0 := by
      cases O with
      | nil => simp at h0
      | cons a b => exact ⟨a, b, rfl⟩
    have := (progF_none.1 hp).2 o0 (by simp)
    have := wrongF_zero this
    simp only [List.getD_cons_zero]
    omega
  rw [hw.cell off] at k1
  match off, k1 with
  | 0, k1 => injection (Option.some.inj k1) with _ k1; omega
  | 1, k1 => injection (Option.some.inj k1) with _ k1; omega
  | 2, k1 => injection (Option.some.inj k1) with _ k1; omega
  | 3, k1 => injection (Option.some.inj k1) with _ k1; omega
  | 4, k1 => injection (Option.some.inj k1) with _ k1; omega
  | 5, k1 => cases (Option.some.inj k1)
  | k + 6, k1 => cases k1
theorem edges_put6 {w : World} {v : Value} {O : List (Int × Int)} {g : Nat} (h : EdgesV w v O) (hno : ∀ b' off cap, v = .slice (some ⟨b', off, none⟩) O.length cap → 0 < O.length → b' ≠ g) (a b c d e f : Value) : EdgesV (put6 w g a b c d e f) v O := by
  rcases h with h | ⟨h0', b', off, cap, rfl, hc⟩
  · exact Or.inl h
  · have hn := hno b' off cap rfl h0'
    refine Or.inr ⟨h0', b', off, cap, rfl, fun i hi => ?_⟩
    obtain ⟨k1, k2⟩ := hc i hi
    have hp : ∀ (W : World) (j : Nat) (z u : Value) (o : Nat), W.cell? ⟨b', j, none⟩ = some z → (W.setCell ⟨g, o, none⟩ u).cell? ⟨b', j, none⟩ = some z := fun W j z u o hz => by
      rw [World.cell?_setCell_other _ _ _ _ (fun e => hn (by injection e with e; exact e.symm))]
      exact hz
    exact ⟨hp _ _ _ _ _ (hp _ _ _ _ _ (hp _ _ _ _ _ (hp _ _ _ _ _ (hp _ _ _ _ _ (hp _ _ _ _ _ k1))))), hp _ _ _ _ _ (hp _ _ _ _ _ (hp _ _ _ _ _ (hp _ _ _ _ _ (hp _ _ _ _ _ (hp _ _ _ _ _ k2)))))⟩
theorem cutL_B {kd : Int} {sz su wk cp q : Nat} {O : List (Int × Int)} {ws v5 : World} {A3 : Option Addr} {c3 g : Nat} (he : EdgesV v5 (.slice A3 q c3) O) (_ : O.length = q) (hp : progF O = none) (hw : Whole v5 g 29 #[.int .i64 0, .int .i64 0, .int .i64 0, .int .i64 0, .int .i64 0, .slice none 0 0]) (hb : Below ws.heap.size ws v5) (hg : ws.heap.size ≤ g) : CutL kd sz su wk cp q O ws (.pointer (some ⟨g, 0, none⟩)) .nilIface (put6 v5 g (.int .i64 kd) (.int .i64 (sz : Nat)) (.int .i64 (su : Nat)) (.int .i64 (wk : Nat)) (.int .i64 (cp : Nat)) (.slice A3 q c3)) :=
  ⟨_, g, A3, c3, rfl, rfl, rfl, whole_put6 hw _ _ _ _ _ _, edges_put6 he (fun b' off cap h1 h2 => edges_off he hp hw b' off cap h1 h2) _ _ _ _ _ _, below_put6 hb hg _ _ _ _ _ _⟩
set_option maxRecDepth 100000 in
set_option maxHeartbeats 32000000 in
theorem linesGood_law (kd : Int) (sz su wk cp : Nat) (O : List (Int × Int)) (kv : Value) (r : Nat) (hr8 : r < 256) (w : World) (hg : GT w) (hk : EdgesV w kv O) (hr : rightKB ⟨⟨kd, sz, su, wk, cp⟩, O⟩ = true) (b1 : sz ≤ 8) (b2 : su ≤ 1000000) (b3 : wk ≤ 64) (b4 : cp ≤ 1000000) (b5 : O.length ≤ 15) (b6 : progF O = none) :
    Calls Tryz.prog 5 #[.agg (cV ⟨kd, sz, su, wk, cp⟩ kv), .int .u8 (r : Nat)] w fun e w' => e = .returned (.bool true) ∧ Below w.heap.size w w' := by
  obtain ⟨Ak, ck, rfl⟩ := hk.form
  have AL := Lib.hid (fun W (h : Below w.heap.size w W) => alive_ok W (hg.below h (Nat.le_refl _)))
  have HG := Lib.hid hg
  have hkd := (right_nums hr).1
  obtain ⟨a, P, N, hcut⟩ := conf_cuts hkd sz su wk cp O
  have HRR : Hid (∀ W, Below w.heap.size w W → Calls Tryz.prog 10 #[.agg (#[.int .i64 kd, .int .i64 (sz : Nat), .int .i64 (su : Nat), .int .i64 (wk : Nat), .int .i64 (cp : Nat), .slice Ak O.length ck])] W fun e w' => e = .returned (.bool true) ∧ Below W.heap.size W w') := Lib.hid (fun W h => by
    have k := refRight22 kd sz su wk cp O _ W (hk.below h (Nat.le_refl _)) (by omega)
    rw [hr] at k
    exact k)
  have HOF : Hid (∀ W, Below w.heap.size w W → Calls Tryz.prog 8 #[.agg (#[.int .i64 kd, .int .i64 (sz : Nat), .int .i64 (su : Nat), .int .i64 (wk : Nat), .int .i64 (cp : Nat), .slice Ak O.length ck])] W (OfTo22 ⟨kd, sz, su, wk, cp⟩ O W)) := Lib.hid (fun W h => of22_any kd sz su wk cp O _ W (hk.below h (Nat.le_refl _)) (by omega))
  obtain ⟨L, hL⟩ : ∃ L, confT ⟨⟨kd, sz, su, wk, cp⟩, O⟩ = L := ⟨_, rfl⟩
  obtain ⟨z8, hz8⟩ : ∃ z, r % 8 = z := ⟨_, rfl⟩
  have u3 : z8 < 8 := by rw [← hz8]; exact Nat.mod_lt _ (by decide)
  have u2 : Int.tmod (r : Int) 8 = (z8 : Int) := by rw [Int.tmod_eq_emod_of_nonneg (by omega)]; omega
  have u5 : IntKind.u8.wrap (z8 : Int) = (z8 : Int) := by rcases (by omega : z8 = 0 ∨ z8 = 1 ∨ z8 = 2 ∨ z8 = 3 ∨ z8 = 4 ∨ z8 = 5 ∨ z8 = 6 ∨ z8 = 7) with h | h | h | h | h | h | h | h <;> rw [h] <;> decide
  have htb := tell_bad hr z8
  have hlen := confT_len2 kd b1 b2 b3 b4 b5 b6
  rw [hL] at htb hcut hlen
  obtain ⟨T, hT⟩ : ∃ T, str L = T := ⟨_, rfl⟩
  have HTX : Hid (∀ W v, Below w.heap.size w W → EdgesV W v O → Calls Tryz.prog 12 #[.agg (#[.int .i64 kd, .int .i64 (sz : Nat), .int .i64 (su : Nat), .int .i64 (wk : Nat), .int .i64 (cp : Nat), v])] W fun e w' => e = .returned (.string T) ∧ Below W.heap.size W w') := Lib.hid (fun W v h he => by rw [← hT, ← hL]; exact confText_any kd sz su wk cp O v W (hg.below h (Nat.le_refl _)) he hr hkd b1 b2 b3 b4 b5 b6)
  have hbl := badL_len z8
  have HPB : Hid (∀ W, Below w.heap.size w W → Calls Tryz.prog 13 #[.string (T ++ str (badL z8))] W fun e w' => Below W.heap.size W w' ∧ ∃ b, e = .returned (.tuple #[.agg zC, .iface 64 (.pointer (some ⟨b, 0, none⟩))]) ∧ ∃ sx, Whole w' b 67 #[.int .i64 12, .int .i64 (nlB L : Nat), .string sx]) := Lib.hid (fun W h => by
    rw [← hT, str_append]
    refine (confParseK_any _ (by rw [List.length_append]; have := hcut.len; have := conf_long ⟨⟨kd, sz, su, wk, cp⟩, O⟩; omega) W (hg.below h (Nat.le_refl _))).mono ?_
    rintro e w' ⟨hb, ⟨i', hti, u, rfl, b, sx, rfl, hf⟩ | ⟨x, kv', hti, rfl, hkv'⟩⟩
    · rw [htb] at hti
      injection hti with hti
      subst hti
      exact ⟨hb, b, rfl, sx, hf⟩
    · rw [htb] at hti; cases hti)
  have HPS0 : Hid (∀ W, Below w.heap.size w W → Calls Tryz.prog 13 #[.string ((str (lineB wJob (kname kd)) ++ str (lineB wCap (decB cp))) ++ str (midT ⟨⟨kd, sz, su, wk, cp⟩, O⟩))] W fun e w' => Below W.heap.size W w' ∧ ∃ kv, e = .returned (.tuple #[.agg (#[.int .i64 kd, .int .i64 (sz : Nat), .int .i64 (su : Nat), .int .i64 (wk : Nat), .int .i64 (cp : Nat), kv]), .nilIface]) ∧ EdgesV w' kv O) := Lib.hid (fun W h => by
    rw [str_append, str_append, List.append_assoc]
    have hl : (lineB wJob (kname kd) ++ (lineB wCap (decB cp) ++ midT ⟨⟨kd, sz, su, wk, cp⟩, O⟩)).length = L.length := by
      rw [← hL, confT_mid]
      simp only [List.length_append]
      omega
    refine (confParseK_any _ (by rw [hl]; omega) W (hg.below h (Nat.le_refl _))).mono ?_
    rintro e w' ⟨hb, ⟨i', hti, _⟩ | ⟨x, kv', hti, rfl, hkv'⟩⟩
    · rw [tell_swap hr] at hti; cases hti
    · rw [tell_swap hr] at hti
      injection hti with hti
      subst hti
      exact ⟨hb, kv', rfl, hkv'⟩)
  have HPJ : Hid (∀ W, Below w.heap.size w W → Calls Tryz.prog 13 #[.string (str (lineB wJob (kname kd)))] W fun e w' => Below W.heap.size W w' ∧ ∃ b, e = .returned (.tuple #[.agg zC, .iface 64 (.pointer (some ⟨b, 0, none⟩))]) ∧ ∃ sx, Whole w' b 67 #[.int .i64 12, .int .i64 1, .string sx]) := Lib.hid (fun W h => by
    refine (confParseK_any _ (by rw [lineB_len]; have : (kname kd).length ≤ 7 := (by rcases hkd with rfl | rfl | rfl <;> decide); have : wJob.length = 3 := rfl; omega) W (hg.below h (Nat.le_refl _))).mono ?_
    rintro e w' ⟨hb, ⟨i', hti, u, rfl, b, sx, rfl, hf⟩ | ⟨x, kv', hti, rfl, hkv'⟩⟩
    · rw [tell_job hkd] at hti
      injection hti with hti
      subst hti
      exact ⟨hb, b, rfl, sx, hf⟩
    · rw [tell_job hkd] at hti; cases hti)
  have HSM : Hid (∀ W v v', Below w.heap.size w W → EdgesV W v O → EdgesV W v' O → Calls Tryz.prog 16 #[.agg (#[.int .i64 kd, .int .i64 (sz : Nat), .int .i64 (su : Nat), .int .i64 (wk : Nat), .int .i64 (cp : Nat), v]), .agg (#[.int .i64 kd, .int .i64 (sz : Nat), .int .i64 (su : Nat), .int .i64 (wk : Nat), .int .i64 (cp : Nat), v'])] W fun e w' => e = .returned (.bool true) ∧ Below W.heap.size W w') := Lib.hid (fun W v v' hb h1 h2 => same22_yes kd sz su wk cp O v v' W (hg.below hb (Nat.le_refl _)) h1 h2 b5 b6)
  obtain ⟨bb, hbb⟩ : ∃ s, str (badL z8) = s := ⟨_, rfl⟩
  have lk : ∀ h, ([.string ⟨#[115, 105, 122, 101, 32, 51, 10]⟩, .string ⟨#[106, 111, 98, 32, 102, 115, 109, 10]⟩, .string ⟨#[67, 97, 112, 32, 51, 10]⟩, .string ⟨#[99, 97, 112, 32, 48, 10]⟩, .string ⟨#[10]⟩, .string ⟨#[119, 111, 114, 107, 101, 114, 115, 32, 54, 53, 10]⟩, .string ⟨#[107, 101, 101, 112, 10]⟩, .string ⟨#[115, 105, 122, 101, 32, 51]⟩] : List Value)[z8]'h = .string bb := fun h => by
    rw [← hbb]
    rcases (by omega : z8 = 0 ∨ z8 = 1 ∨ z8 = 2 ∨ z8 = 3 ∨ z8 = 4 ∨ z8 = 5 ∨ z8 = 6 ∨ z8 = 7) with rfl | rfl | rfl | rfl | rfl | rfl | rfl | rfl <;> rfl
  have hbz : bb.size ≤ 11 := by rw [← hbb]; exact hbl.2
  rw [hbb] at HPB
  obtain ⟨sJ, hJ⟩ : ∃ s, str (lineB wJob (kname kd)) = s := ⟨_, rfl⟩
  obtain ⟨sC, hC⟩ : ∃ s, str (lineB wCap (decB cp)) = s := ⟨_, rfl⟩
  obtain ⟨sM, hM⟩ : ∃ s, str (midT ⟨⟨kd, sz, su, wk, cp⟩, O⟩) = s := ⟨_, rfl⟩
  have hTz : T.size = N := by rw [← hT]; exact hcut.len
  obtain ⟨x1, x2, x3⟩ : T.extract 0 (a + 1) = sJ ∧ T.extract P N = sC ∧ T.extract (a + 1) P = sM := by
    rw [← hT, ← hJ, ← hC, ← hM]
    exact ⟨hcut.x1, hcut.x2, hcut.x3⟩
  have hN : N ≤ 2000 := by rw [← hcut.len]; exact hlen
  obtain ⟨z1, z2, z3⟩ : sJ.size = a + 1 ∧ sC.size = N - P ∧ sM.size = P - (a + 1) := by
    have := hcut.ord
    rw [← x1, ← x2, ← x3]
    simp only [ByteArray.size_extract, hTz]
    omega
  rw [hJ] at HPS0 HPJ
  rw [hC, hM] at HPS0
  have HAT0 : Hid (∀ (k : Nat) (h : k < T.size), T[k]'h = L.getD k 0) := Lib.hid (fun k h => by
    subst hT
    rw [str_at22]
    have h2 : k < L.length := h
    rw [List.getD_eq_getElem?_getD, List.getElem?_eq_getElem h2]; rfl)
  have HGD : Hid (∀ k (h : k < L.length), L[k] = L.getD k 0) := Lib.hid (fun k h => by rw [List.getD_eq_getElem?_getD, List.getElem?_eq_getElem h]; rfl)
  have HLN := Lib.hid hcut.len
  have HCUTS := Lib.hid hcut
  obtain ⟨o1, o2⟩ := hcut.ord
  have HB6 := Lib.hid b6
  obtain ⟨q, hq⟩ : ∃ q, O.length = q := ⟨_, rfl⟩
  have HQ := Lib.hid hq
  rw [hq] at HOF HRR ⊢
  have hb1 : Below w.heap.size w (w.alloc (.cells (#[.int .i64 kd, .int .i64 (sz : Nat), .int .i64 (su : Nat), .int .i64 (wk : Nat), .int .i64 (cp : Nat), .slice Ak q ck]) 24)) := (Below.refl _ _).alloc (Nat.le_refl _) _
  have hx := Whole.new w 24 (#[.int .i64 kd, .int .i64 (sz : Nat), .int .i64 (su : Nat), .int .i64 (wk : Nat), .int .i64 (cp : Nat), .slice Ak q ck])
  obtain ⟨w1, hw1⟩ : ∃ W, w.alloc (.cells (#[.int .i64 kd, .int .i64 (sz : Nat), .int .i64 (su : Nat), .int .i64 (wk : Nat), .int .i64 (cp : Nat), .slice Ak q ck]) 24) = W := ⟨_, rfl⟩
  obtain ⟨xb, hxb⟩ : ∃ g, w.heap.size = g := ⟨_, rfl⟩
  rw [hw1] at hb1 hx
  rw [hxb] at hx
  have HB1 := Lib.hid hb1; have HX := Lib.hid hx; have HW1 := Lib.hid hw1; have HXB := Lib.hid hxb
  clear hz8
  clear hb1 hx hw1 hxb hg hk hr hkd hcut hL htb hlen hT hbl hbb hJ hC hM b1 b2 b3 b4 b5 b6 hq
  unfold cV
  go_enter Tryz.func5, Tryz.ntmps5
  go_upto_region 1 with fail
  rw [HW1.out, HXB.out]
  go_wp2_with fail
  refine (AL.out _ HB1.out).mono ?_; rintro e w2 ⟨rfl, hb2⟩
  have hx2 := HX.out.below hb2 HX.out.lt
  have HX2 := Lib.hid hx2
  have HB2 := Lib.hid (HB1.out.trans (hb2.mono HB1.out.size))
  have HR2 := Lib.hid (HRR.out w2 HB2.out)
  have x0 : w2.cell? ⟨xb, 0, none⟩ = some (.int .i64 kd) := hx2.cell 0
  have x1 : w2.cell? ⟨xb, 1, none⟩ = some (.int .i64 (sz : Nat)) := hx2.cell 1
  have x2 : w2.cell? ⟨xb, 2, none⟩ = some (.int .i64 (su : Nat)) := hx2.cell 2
  have x3 : w2.cell? ⟨xb, 3, none⟩ = some (.int .i64 (wk : Nat)) := hx2.cell 3
  have x4 : w2.cell? ⟨xb, 4, none⟩ = some (.int .i64 (cp : Nat)) := hx2.cell 4
  have x5 : w2.cell? ⟨xb, 5, none⟩ = some (.slice Ak q ck) := hx2.cell 5
  clear hb2 hx2
  go_wp2_with fail
  refine HR2.out.mono ?_; rintro e w3 ⟨rfl, hb3⟩
  have hx3 := HX2.out.below hb3 HX2.out.lt
  have HB3 := Lib.hid (HB2.out.trans (hb3.mono HB2.out.size))
  have HOF3 := Lib.hid (HOF.out w3 HB3.out)
  clear x0 x1 x2 x3 x4 x5
  have x0 : w3.cell? ⟨xb, 0, none⟩ = some (.int .i64 kd) := hx3.cell 0
  have x1 : w3.cell? ⟨xb, 1, none⟩ = some (.int .i64 (sz : Nat)) := hx3.cell 1
  have x2 : w3.cell? ⟨xb, 2, none⟩ = some (.int .i64 (su : Nat)) := hx3.cell 2
  have x3 : w3.cell? ⟨xb, 3, none⟩ = some (.int .i64 (wk : Nat)) := hx3.cell 3
  have x4 : w3.cell? ⟨xb, 4, none⟩ = some (.int .i64 (cp : Nat)) := hx3.cell 4
  have x5 : w3.cell? ⟨xb, 5, none⟩ = some (.slice Ak q ck) := hx3.cell 5
  clear hb3 hx3
  go_wp2_with fail
  refine HOF3.out.mono ?_; rintro e w4 ⟨A2, c2, rfl, hown, hb4⟩
  rw [HQ.out] at hown ⊢
  obtain ⟨w5, hw5⟩ : ∃ W, w4.alloc (.cells (#[.int .i64 kd, .int .i64 (sz : Nat), .int .i64 (su : Nat), .int .i64 (wk : Nat), .int .i64 (cp : Nat), .slice A2 q c2]) 29) = W := ⟨_, rfl⟩
  have hbw5 : Below w4.heap.size w4 w5 := by rw [← hw5]; exact (Below.refl _ _).alloc (Nat.le_refl _) _
  have hcw5 := Whole.new w4 29 (#[.int .i64 kd, .int .i64 (sz : Nat), .int .i64 (su : Nat), .int .i64 (wk : Nat), .int .i64 (cp : Nat), .slice A2 q c2])
  rw [hw5] at hcw5
  obtain ⟨cb, hcb⟩ : ∃ g, w4.heap.size = g := ⟨_, rfl⟩
  rw [hcb] at hcw5
  have HWw5 := Lib.hid hw5; have HHcb := Lib.hid hcb
  have hb45 := hb4.trans (hbw5.mono hb4.size)
  have HB5 := Lib.hid (HB3.out.trans (hb45.mono HB3.out.size))
  have HE5 := Lib.hid ((own_edges hown).below hbw5 (Nat.le_refl _))
  have HC5 := Lib.hid hcw5
  have HT5 := Lib.hid (HTX.out w5 (.slice A2 q c2) HB5.out HE5.out)
  have c0 : w5.cell? ⟨cb, 0, none⟩ = some (.int .i64 kd) := hcw5.cell 0
  have c1 : w5.cell? ⟨cb, 1, none⟩ = some (.int .i64 (sz : Nat)) := hcw5.cell 1
  have c2' : w5.cell? ⟨cb, 2, none⟩ = some (.int .i64 (su : Nat)) := hcw5.cell 2
  have c3 : w5.cell? ⟨cb, 3, none⟩ = some (.int .i64 (wk : Nat)) := hcw5.cell 3
  have c4 : w5.cell? ⟨cb, 4, none⟩ = some (.int .i64 (cp : Nat)) := hcw5.cell 4
  have c5 : w5.cell? ⟨cb, 5, none⟩ = some (.slice A2 q c2) := hcw5.cell 5
  clear hown hb4 hw5 hbw5 hcw5 hcb hb45 x0 x1 x2 x3 x4 x5
  unfold cV
  go_upto_region 6 with fail
  rw [HWw5.out, HHcb.out]
  go_wp2_with fail
  refine HT5.out.mono ?_; rintro e w6 ⟨rfl, hb6⟩
  have HC6 := Lib.hid (HC5.out.below hb6 HC5.out.lt)
  have HE6 := Lib.hid (HE5.out.below hb6 (Nat.le_refl _))
  have HB6w := Lib.hid (HB5.out.trans (hb6.mono HB5.out.size))
  clear hb6 c0 c1 c2' c3 c4 c5
  obtain ⟨n2, hn2⟩ : ∃ n2, N = n2 + 2 := ⟨N - 2, by omega⟩
  go_wp2_with fail
  go_loopg [7, 8] N (fun g lv iv wr => ∃ k, k ≤ N ∧ g = N - k ∧ iv = .int .i64 (k : Nat) ∧ lv = .int .i64 (nlB (L.take k) : Nat) ∧ nlB (L.take k) ≤ k ∧ wr = w6)
  case atStart => exact ⟨0, Nat.zero_le _, rfl, rfl, rfl, Nat.le_refl _, rfl⟩
  case round =>
    obtain ⟨k, hk, rfl, rfl, rfl, hlk, hwr⟩ := hrel
    obtain rfl := hwr.symm
    clear hwr
    obtain ⟨ln, hln⟩ : ∃ q, nlB (L.take k) = q := ⟨_, rfl⟩
    rw [hln] at hlk ⊢
    by_cases hkn : k < N
    · have hkl : k < L.length := by rw [HLN.out]; exact hkn
      have hks : k < T.size := by omega
      have hsc := HAT0.out k hks
      have hsu := nl_succ L k hkl
      rw [HGD.out k hkl, hln] at hsu
      obtain ⟨c, hc⟩ : ∃ c, L.getD k 0 = c := ⟨_, rfl⟩
      rw [hc] at hsc hsu
      have t2 : decide ((k : Int) < T.size) = true := decide_eq_true (by omega)
      have t2n : decide (k < N) = true := decide_eq_true (by omega)
      have t2' : decide (k < T.size) = true := decide_eq_true (by omega)
      have i0 : (0 : Int) ≤ k := by omega
      by_cases hce : c = 10
      · subst hce
        rw [if_pos rfl] at hsu
        have t4 : (((T[k]'hks).toNat : Int) == 10) = true := by rw [hsc]; rfl
        have HSU := Lib.hid hsu
        clear hsu hln hc hsc hkl hn2
        go_wp2_with fail
        go_roundg (N - (k + 1))
        case rel => exact ⟨k + 1, hkn, rfl, by go_num, by rw [HSU.out]; go_num, by rw [HSU.out]; omega, rfl⟩
        case measure => omega
      · rw [if_neg hce] at hsu
        have t4 : (((T[k]'hks).toNat : Int) == 10) = false := by
          rw [hsc, beq_eq_false_iff_ne]
          intro e
          exact hce (UInt8.toNat_inj.1 (by have : c.toNat = 10 := by omega
                                           rw [this]; rfl))
        have HSU := Lib.hid hsu
        clear hsu hln hc hsc hkl hce hn2
        go_wp2_with fail
        go_roundg (N - (k + 1))
        case rel => exact ⟨k + 1, hkn, rfl, by go_num, by rw [HSU.out]; go_num, by rw [HSU.out]; omega, rfl⟩
        case measure => omega
    · obtain rfl : N = k := by omega
      have hall : L.take N = L := List.take_of_length_le (by rw [HLN.out]; omega)
      rw [hall] at hln
      have HLL := Lib.hid hln
      have t2 : decide ((N : Int) < T.size) = false := decide_eq_false (by omega)
      have t2' : decide (N < T.size) = false := decide_eq_false (by omega)
      have hz6 : Below w6.heap.size w6 (w6.alloc (.cells #[.string ⟨#[115, 105, 122, 101, 32, 51, 10]⟩, .string ⟨#[106, 111, 98, 32, 102, 115, 109, 10]⟩, .string ⟨#[67, 97, 112, 32, 51, 10]⟩, .string ⟨#[99, 97, 112, 32, 48, 10]⟩, .string ⟨#[10]⟩, .string ⟨#[119, 111, 114, 107, 101, 114, 115, 32, 54, 53, 10]⟩, .string ⟨#[107, 101, 101, 112, 10]⟩, .string ⟨#[115, 105, 122, 101, 32, 51]⟩] 9)) := (Below.refl _ _).alloc (Nat.le_refl _) _
      have HPB6 := Lib.hid (HPB.out (w6.alloc (.cells #[.string ⟨#[115, 105, 122, 101, 32, 51, 10]⟩, .string ⟨#[106, 111, 98, 32, 102, 115, 109, 10]⟩, .string ⟨#[67, 97, 112, 32, 51, 10]⟩, .string ⟨#[99, 97, 112, 32, 48, 10]⟩, .string ⟨#[10]⟩, .string ⟨#[119, 111, 114, 107, 101, 114, 115, 32, 54, 53, 10]⟩, .string ⟨#[107, 101, 101, 112, 10]⟩, .string ⟨#[115, 105, 122, 101, 32, 51]⟩] 9)) (HB6w.out.trans (hz6.mono HB6w.out.size)))
      have HZ6 := Lib.hid hz6
      clear hz6
      have n1 : ¬ 9223372036854775807 < T.size + bb.size := by omega
      have n1' : ¬ 9223372036854775807 < N + bb.size := by omega
      have u3' : (z8 : Int) < 8 := by omega
      have u6 : (0 : Int) ≤ z8 := by omega
      clear hln hall hkn hlk hk
      go_wp2_with fail
      refine HPB6.out.mono ?_; rintro e w7 ⟨hb7, b, rfl, sx, hf⟩
      have hb67 := HZ6.out.trans (hb7.mono HZ6.out.size)
      have hz8 : Below w7.heap.size w7 (w7.alloc (.cells #[.int .i64 0, .int .i64 0, .int .i64 0, .int .i64 0, .int .i64 0, .slice none 0 0] 29)) := (Below.refl _ _).alloc (Nat.le_refl _) _
      have hb68 := hb67.trans (hz8.mono hb67.size)
      obtain ⟨w8, hw8⟩ : ∃ W, w7.alloc (.cells #[.int .i64 0, .int .i64 0, .int .i64 0, .int .i64 0, .int .i64 0, .slice none 0 0] 29) = W := ⟨_, rfl⟩
      rw [hw8] at hz8 hb68
      have HF8 := Lib.hid (hf.below hz8 hf.lt)
      have HB8 := Lib.hid (HB6w.out.trans (hb68.mono HB6w.out.size))
      have HC8 := Lib.hid (HC6.out.below hb68 HC6.out.lt)
      have HE8 := Lib.hid (HE6.out.below hb68 (Nat.le_refl _))
      have HW8 := Lib.hid hw8
      have HCD := Lib.hid (code_hit b 12 w8 (HG.out.below HB8.out (Nat.le_refl _)).et (by rw [HF8.out.cell 0]; rfl))
      clear hb7 hf hb67 hz8 hb68 hw8 n1 n1'
      dsimp only [zC]
      go_upto_region 15 with fail
      rw [HW8.out]
      go_wp2_with fail
      refine HCD.out.mono ?_; rintro e w9 ⟨rfl, hb9⟩
      have HF9 := Lib.hid (HF8.out.below hb9 HF8.out.lt)
      have HB9 := Lib.hid (HB8.out.trans (hb9.mono HB8.out.size))
      have HC9 := Lib.hid (HC8.out.below hb9 HC8.out.lt)
      have HE9 := Lib.hid (HE8.out.below hb9 (Nat.le_refl _))
      have HAD := Lib.hid (at_hit b (nlB L : Nat) w9 (HG.out.below HB9.out (Nat.le_refl _)).et (by rw [HF9.out.cell 1]; rfl))
      rw [HLL.out] at HAD
      have t8 : ((ln : Int) != (ln : Int)) = false := by simp
      have t8' : (ln != ln) = false := by simp
      clear hb9
      go_wp2_with fail
      refine HAD.out.mono ?_; rintro e w10 ⟨rfl, hb10⟩
      have HB10 := Lib.hid (HB9.out.trans (hb10.mono HB9.out.size))
      have HC10 := Lib.hid (HC9.out.below hb10 HC9.out.lt)
      have HE10 := Lib.hid (HE9.out.below hb10 (Nat.le_refl _))
      subst hn2
      clear hb10 t2 t2' lk u2 u5 u3 u3' u6 hbz
      go_wp2_with fail
      go_loopg [12] n2 (fun g v wr => ∃ e, P ≤ e + 1 ∧ e ≤ n2 ∧ e = g ∧ v = .int .i64 ((e : Nat) + 1 : Int) ∧ wr = w10)
      case atStart => exact ⟨n2, by omega, Nat.le_refl _, rfl, by go_num, rfl⟩
      case round =>
        obtain ⟨e, he1, he2, rfl, rfl, hwr⟩ := hrel
        obtain rfl := hwr.symm
        clear hwr
        have hks : e < T.size := by omega
        have hsc := HAT0.out e hks
        have i0 : (0 : Int) ≤ e := by omega
        have i1 : (0 : Int) < (e : Int) + 1 := by omega
        have i2 : (e : Int) < T.size := by omega
        by_cases hpe : P ≤ e
        · have hne := HCUTS.out.f3 e hpe (by omega)
          have t4 : (((T[e]'hks).toNat : Int) != 10) = true := by
            rw [hsc, bne_iff_ne]
            intro h
            exact hne (UInt8.toNat_inj.1 (by have : (L.getD e 0).toNat = 10 := by omega
                                             rw [this]; rfl))
          clear hsc hne
          go_wp2_with fail
          go_roundg (e - 1)
          case rel => exact ⟨e - 1, by omega, by omega, rfl, by rw [show ((e - 1 : Nat) : Int) + 1 = e by omega], rfl⟩
          case measure => omega
        · obtain rfl : P = e + 1 := by omega
          have h10 := HCUTS.out.f4
          rw [Nat.add_sub_cancel] at h10
          have t4 : (((T[e]'hks).toNat : Int) != 10) = false := by rw [hsc, h10]; rfl
          clear hsc h10 hpe he1
          go_wp2_with fail
          go_loopg [13] a (fun g v wr => ∃ f, f ≤ a ∧ g = a - f ∧ v = .int .i64 (f : Nat) ∧ wr = w10)
          case atStart => exact ⟨0, Nat.zero_le _, rfl, rfl, rfl⟩
          case round =>
            obtain ⟨f, hf1, rfl, rfl, hwr⟩ := hrel
            obtain rfl := hwr.symm
            clear hwr
            have hks2 : f < T.size := by omega
            have hsc := HAT0.out f hks2
            have i3 : (0 : Int) ≤ f := by omega
            have i4 : (f : Int) < T.size := by omega
            by_cases hfa : f < a
            · have hne := HCUTS.out.f1 f hfa
              have t5 : (((T[f]'hks2).toNat : Int) != 10) = true := by
                rw [hsc, bne_iff_ne]
                intro h
                exact hne (UInt8.toNat_inj.1 (by have : (L.getD f 0).toNat = 10 := by omega
                                                 rw [this]; rfl))
              clear hsc hne
              go_wp2_with fail
              go_roundg (a - (f + 1))
              case rel => exact ⟨f + 1, hfa, rfl, by go_num, rfl⟩
              case measure => omega
            · obtain rfl : a = f := by omega
              have h10 := HCUTS.out.f2
              have t5 : (((T[a]'hks2).toNat : Int) != 10) = false := by rw [hsc, h10]; rfl
              clear hsc h10 hfa hf1
              obtain ⟨ws, hws⟩ : ∃ W, W = w10 := ⟨_, rfl⟩
              subst hws
              have HPS : Hid (∀ W, Below ws.heap.size ws W → Calls Tryz.prog 13 #[.string ((sJ ++ sC) ++ sM)] W fun e w' => Below W.heap.size W w' ∧ ∃ kv, e = .returned (.tuple #[.agg (#[.int .i64 kd, .int .i64 (sz : Nat), .int .i64 (su : Nat), .int .i64 (wk : Nat), .int .i64 (cp : Nat), kv]), .nilIface]) ∧ EdgesV w' kv O) := Lib.hid (fun W hb => HPS0.out W (HB10.out.trans (hb.mono HB10.out.size)))
              have v1 : IntKind.i64.wrap ((a : Int) + 1) = (a : Int) + 1 := by rw [IntKind.wrap_i64]; omega
              have v2 : (0 : Int) ≤ (a : Int) + 1 := by omega
              have v3 : (a : Int) + 1 ≤ T.size := by omega
              have v3' : (a : Int) + 1 ≤ (n2 : Int) + 2 := by omega
              have v5' : (e : Int) + 1 ≤ (n2 : Int) + 2 := by omega
              have v4 : (0 : Int) ≤ (e : Int) + 1 := by omega
              have v5 : (e : Int) + 1 ≤ T.size := by omega
              have v6 : (a : Int) + 1 ≤ (e : Int) + 1 := by omega
              have v7 : ¬ 9223372036854775807 < sJ.size + sC.size := by omega
              have v8 : ¬ 9223372036854775807 < (sJ ++ sC).size + sM.size := by rw [ByteArray.size_append]; omega
              have v9 : ¬ 9223372036854775807 < sJ.size + sC.size + sM.size := by omega
              go_upto_region 23 with fail
              clear t5 z1 z2 z3
              go_cut [14, 15] (fun x y wx => CutL kd sz su wk cp q O ws x y wx)
              case first =>
                refine wp_region_held_drew (S := fun W => Below ws.heap.size ws W) (by kernel_rfl) ?_ (fun hHeld => ?_)
                · (try dsimp only); exact (below_drewN' (Below.refl ws.heap.size ws) 1)
                refine wpAnyH_take (i := 0) (oi := ({ dst := some 81, op := Op.move (Operand.tmp 6), type := 9, pos := "law.go:118", after := #[], guard := none } : Oper)) (v := ?vg1) rfl (by kernel_rfl) (by kernel_rfl) (by kernel_rfl) (fun _ _ _ h => h) (Or.inl ⟨by rfl, ?hyg1⟩) (by assumption) ?restg1
                case hyg1 => intro w hSw; (try dsimp only at hSw); go_simp; all_goals (with_reducible rfl)
                try simp only [Act.put, List.setIfInBounds_toArray, List.set_cons_zero, List.set_cons_succ]
                refine wpAnyH_take (i := 1) (oi := ({ dst := some 82, op := Op.move (Operand.tmp 13), type := 3, pos := "law.go:118", after := #[], guard := none } : Oper)) (v := ?vg2) rfl (by kernel_rfl) (by kernel_rfl) (by kernel_rfl) (fun _ _ _ h => h) (Or.inl ⟨by rfl, ?hyg2⟩) (by assumption) ?restg2
                case hyg2 => intro w hSw; (try dsimp only at hSw); go_simp; all_goals (with_reducible rfl)
                try simp only [Act.put, List.setIfInBounds_toArray, List.set_cons_zero, List.set_cons_succ]
                refine wpAnyH_take (i := 2) (oi := ({ dst := some 83, op := Op.binOp BinOp.add 3 (Operand.tmp 82) (Operand.const (Value.int IntKind.i64 1)) 3, type := 3, pos := "law.go:118", after := #[{ on := 1, ground := Ground.data }], guard := none } : Oper)) (v := ?vg3) rfl (by kernel_rfl) (by kernel_rfl) (by kernel_rfl) (fun _ _ _ h => h) (Or.inl ⟨by rfl, ?hyg3⟩) (by assumption) ?restg3
                case hyg3 => intro w hSw; (try dsimp only at hSw); go_simp; all_goals (with_reducible rfl)
                try simp only [Act.put, List.setIfInBounds_toArray, List.set_cons_zero, List.set_cons_succ]
                refine wpAnyH_take (i := 3) (oi := ({ dst := some 84, op := Op.slice 9 (Operand.tmp 81) none (some (Operand.tmp 83)) none, type := 9, pos := "law.go:118", after := #[{ on := 0, ground := Ground.data }, { on := 2, ground := Ground.data }], guard := none } : Oper)) (v := ?vg4) rfl (by kernel_rfl) (by kernel_rfl) (by kernel_rfl) (fun _ _ _ h => h) (Or.inl ⟨by rfl, ?hyg4⟩) (by assumption) ?restg4
                case hyg4 => intro w hSw; (try dsimp only at hSw); go_simp; all_goals (with_reducible rfl)
                try simp only [Act.put, List.setIfInBounds_toArray, List.set_cons_zero, List.set_cons_succ]
                refine wpAnyH_take (i := 4) (oi := ({ dst := some 85, op := Op.move (Operand.tmp 6), type := 9, pos := "law.go:118", after := #[], guard := none } : Oper)) (v := ?vg5) rfl (by kernel_rfl) (by kernel_rfl) (by kernel_rfl) (fun _ _ _ h => h) (Or.inl ⟨by rfl, ?hyg5⟩) (by assumption) ?restg5
                case hyg5 => intro w hSw; (try dsimp only at hSw); go_simp; all_goals (with_reducible rfl)
                try simp only [Act.put, List.setIfInBounds_toArray, List.set_cons_zero, List.set_cons_succ]
                refine wpAnyH_take (i := 5) (oi := ({ dst := some 86, op := Op.move (Operand.tmp 12), type := 3, pos := "law.go:118", after := #[], guard := none } : Oper)) (v := ?vg6) rfl (by kernel_rfl) (by kernel_rfl) (by kernel_rfl) (fun _ _ _ h => h) (Or.inl ⟨by rfl, ?hyg6⟩) (by assumption) ?restg6
                case hyg6 => intro w hSw; (try dsimp only at hSw); go_simp; all_goals (with_reducible rfl)
                try simp only [Act.put, List.setIfInBounds_toArray, List.set_cons_zero, List.set_cons_succ]
                refine wpAnyH_take (i := 6) (oi := ({ dst := some 87, op := Op.slice 9 (Operand.tmp 85) (some (Operand.tmp 86)) none none, type := 9, pos := "law.go:118", after := #[{ on := 4, ground := Ground.data }, { on := 5, ground := Ground.data }], guard := none } : Oper)) (v := ?vg7) rfl (by kernel_rfl) (by kernel_rfl) (by kernel_rfl) (fun _ _ _ h => h) (Or.inl ⟨by rfl, ?hyg7⟩) (by assumption) ?restg7
                case hyg7 => intro w hSw; (try dsimp only at hSw); go_simp; all_goals (with_reducible rfl)
                try simp only [Act.put, List.setIfInBounds_toArray, List.set_cons_zero, List.set_cons_succ]
                refine wpAnyH_take (i := 7) (oi := ({ dst := some 88, op := Op.binOp BinOp.add 9 (Operand.tmp 84) (Operand.tmp 87) 9, type := 9, pos := "law.go:118", after := #[{ on := 3, ground := Ground.data }, { on := 6, ground := Ground.data }], guard := none } : Oper)) (v := ?vg8) rfl (by kernel_rfl) (by kernel_rfl) (by kernel_rfl) (fun _ _ _ h => h) (Or.inl ⟨by rfl, ?hyg8⟩) (by assumption) ?restg8
                case hyg8 => intro w hSw; (try dsimp only at hSw); go_simp; all_goals (with_reducible rfl)
                try simp only [Act.put, List.setIfInBounds_toArray, List.set_cons_zero, List.set_cons_succ]
                refine wpAnyH_take (i := 8) (oi := ({ dst := some 89, op := Op.move (Operand.tmp 6), type := 9, pos := "law.go:118", after := #[], guard := none } : Oper)) (v := ?vg9) rfl (by kernel_rfl) (by kernel_rfl) (by kernel_rfl) (fun _ _ _ h => h) (Or.inl ⟨by rfl, ?hyg9⟩) (by assumption) ?restg9
                case hyg9 => intro w hSw; (try dsimp only at hSw); go_simp; all_goals (with_reducible rfl)
                try simp only [Act.put, List.setIfInBounds_toArray, List.set_cons_zero, List.set_cons_succ]
                refine wpAnyH_take (i := 9) (oi := ({ dst := some 90, op := Op.move (Operand.tmp 13), type := 3, pos := "law.go:118", after := #[], guard := none } : Oper)) (v := ?vg10) rfl (by kernel_rfl) (by kernel_rfl) (by kernel_rfl) (fun _ _ _ h => h) (Or.inl ⟨by rfl, ?hyg10⟩) (by assumption) ?restg10
                case hyg10 => intro w hSw; (try dsimp only at hSw); go_simp; all_goals (with_reducible rfl)
                try simp only [Act.put, List.setIfInBounds_toArray, List.set_cons_zero, List.set_cons_succ]
                refine wpAnyH_take (i := 10) (oi := ({ dst := some 91, op := Op.binOp BinOp.add 3 (Operand.tmp 90) (Operand.const (Value.int IntKind.i64 1)) 3, type := 3, pos := "law.go:118", after := #[{ on := 9, ground := Ground.data }], guard := none } : Oper)) (v := ?vg11) rfl (by kernel_rfl) (by kernel_rfl) (by kernel_rfl) (fun _ _ _ h => h) (Or.inl ⟨by rfl, ?hyg11⟩) (by assumption) ?restg11
                case hyg11 => intro w hSw; (try dsimp only at hSw); go_simp; all_goals (with_reducible rfl)
                try simp only [Act.put, List.setIfInBounds_toArray, List.set_cons_zero, List.set_cons_succ]
                refine wpAnyH_take (i := 11) (oi := ({ dst := some 92, op := Op.move (Operand.tmp 12), type := 3, pos := "law.go:118", after := #[], guard := none } : Oper)) (v := ?vg12) rfl (by kernel_rfl) (by kernel_rfl) (by kernel_rfl) (fun _ _ _ h => h) (Or.inl ⟨by rfl, ?hyg12⟩) (by assumption) ?restg12
                case hyg12 => intro w hSw; (try dsimp only at hSw); go_simp; all_goals (with_reducible rfl)
                try simp only [Act.put, List.setIfInBounds_toArray, List.set_cons_zero, List.set_cons_succ]
                refine wpAnyH_take (i := 12) (oi := ({ dst := some 93, op := Op.slice 9 (Operand.tmp 89) (some (Operand.tmp 91)) (some (Operand.tmp 92)) none, type := 9, pos := "law.go:118", after := #[{ on := 8, ground := Ground.data }, { on := 10, ground := Ground.data }, { on := 11, ground := Ground.data }], guard := none } : Oper)) (v := ?vg13) rfl (by kernel_rfl) (by kernel_rfl) (by kernel_rfl) (fun _ _ _ h => h) (Or.inl ⟨by rfl, ?hyg13⟩) (by assumption) ?restg13
                case hyg13 => intro w hSw; (try dsimp only at hSw); go_simp; all_goals (with_reducible rfl)
                try simp only [Act.put, List.setIfInBounds_toArray, List.set_cons_zero, List.set_cons_succ]
                refine wpAnyH_take (i := 13) (oi := ({ dst := some 94, op := Op.binOp BinOp.add 9 (Operand.tmp 88) (Operand.tmp 93) 9, type := 9, pos := "law.go:118", after := #[{ on := 7, ground := Ground.data }, { on := 12, ground := Ground.data }], guard := none } : Oper)) (v := ?vg14) rfl (by kernel_rfl) (by kernel_rfl) (by kernel_rfl) (fun _ _ _ h => h) (Or.inl ⟨by rfl, ?hyg14⟩) (by assumption) ?restg14
                case hyg14 => intro w hSw; (try dsimp only at hSw); go_simp; all_goals (with_reducible rfl)
                try simp only [Act.put, List.setIfInBounds_toArray, List.set_cons_zero, List.set_cons_succ]
                refine wpAnyH_ready (rs := [14, 18]) (by kernel_rfl) (by simp) ?_
                refine (AllReadyH.cons (o := ({ dst := some 95, op := Op.call { callee := Callee.value (Operand.func 13), args := #[Operand.tmp 94], argTypes := #[9] }, type := 37, pos := "law.go:118", after := #[{ on := 13, ground := Ground.data }], guard := none } : Oper)) rfl (fun K hK => ?_) (AllReadyH.cons (o := ({ dst := some 14, op := Op.alloc 29, type := 0, pos := "law.go:118", after := #[], guard := none } : Oper)) rfl (fun K hK => ?_) AllReadyH.nil))
                · go_simp
                  refine (HPS.out _ (below_drewN' (Below.refl ws.heap.size ws) 1)).mono ?_
                  rintro e' v5 ⟨hb5', kv3, rfl, hkv3⟩
                  obtain ⟨A3, c3, rfl⟩ := hkv3.form
                  rw [HQ.out] at hkv3 ⊢
                  have hb1 := (below_drewN' (Below.refl ws.heap.size ws) 1).trans (hb5'.mono ((below_drewN' (Below.refl ws.heap.size ws) 1)).size)
                  refine hK.out _ _ ?_ (fun hHeld => ?_)
                  · (try dsimp only); exact hb1
                  clear hK K
                  try simp only [Act.put, List.setIfInBounds_toArray, List.set_cons_zero, List.set_cons_succ]
                  refine wpAnyH_take (i := 15) (oi := ({ dst := some 80, op := Op.move (Operand.tmp 95), type := 37, pos := "law.go:118", after := #[{ on := 14, ground := Ground.data }], guard := none } : Oper)) (v := ?vg15) rfl (by kernel_rfl) (by kernel_rfl) (by kernel_rfl) (fun _ _ _ h => h) (Or.inl ⟨by rfl, ?hyg15⟩) (by assumption) ?restg15
                  case hyg15 => intro w hSw; (try dsimp only at hSw); go_simp; all_goals (with_reducible rfl)
                  try simp only [Act.put, List.setIfInBounds_toArray, List.set_cons_zero, List.set_cons_succ]
                  refine wpAnyH_take (i := 16) (oi := ({ dst := some 96, op := Op.extract (Operand.tmp 80) 0, type := 29, pos := "law.go:118", after := #[{ on := 15, ground := Ground.data }], guard := none } : Oper)) (v := ?vg16) rfl (by kernel_rfl) (by kernel_rfl) (by kernel_rfl) (fun _ _ _ h => h) (Or.inl ⟨by rfl, ?hyg16⟩) (by assumption) ?restg16
                  case hyg16 => intro w hSw; (try dsimp only at hSw); go_simp; all_goals (with_reducible rfl)
                  try simp only [Act.put, List.setIfInBounds_toArray, List.set_cons_zero, List.set_cons_succ]
                  refine wpAnyH_take (i := 17) (oi := ({ dst := some 97, op := Op.extract (Operand.tmp 80) 1, type := 32, pos := "law.go:118", after := #[{ on := 15, ground := Ground.data }, { on := 19, ground := Ground.gcOnly Departure.lateStores }], guard := none } : Oper)) (v := ?vg17) rfl (by kernel_rfl) (by kernel_rfl) (by kernel_rfl) (fun _ _ _ h => h) (Or.inl ⟨by rfl, ?hyg17⟩) (by assumption) ?restg17
                  case hyg17 => intro w hSw; (try dsimp only at hSw); go_simp; all_goals (with_reducible rfl)
                  try simp only [Act.put, List.setIfInBounds_toArray, List.set_cons_zero, List.set_cons_succ]
                  refine wpAnyH_ready (rs := [18]) (by kernel_rfl) (by simp) ?_
                  refine (AllReadyH.cons (o := ({ dst := some 14, op := Op.alloc 29, type := 0, pos := "law.go:118", after := #[], guard := none } : Oper)) rfl (fun K hK => ?_) AllReadyH.nil)
                  have hb2 := hb1.alloc hb1.size (.cells #[.int .i64 0, .int .i64 0, .int .i64 0, .int .i64 0, .int .i64 0, .slice none 0 0] 29)
                  go_simp
                  refine hK.out _ _ ?_ (fun hHeld => ?_)
                  · (try dsimp only); exact hb2
                  clear hK K
                  try simp only [Act.put, List.setIfInBounds_toArray, List.set_cons_zero, List.set_cons_succ]
                  refine wpAnyH_ready (rs := [19]) (by kernel_rfl) (by simp) ?_
                  refine (AllReadyH.cons (o := ({ dst := none, op := Op.store 29 (Operand.tmp 14) (Operand.tmp 96), type := 0, pos := "law.go:118", after := #[{ on := 18, ground := Ground.data }, { on := 16, ground := Ground.data }, { on := 14, ground := Ground.chain }, { on := 0, ground := Ground.phase }, { on := 1, ground := Ground.phase }, { on := 2, ground := Ground.phase }, { on := 3, ground := Ground.phase }, { on := 4, ground := Ground.phase }, { on := 5, ground := Ground.phase }, { on := 6, ground := Ground.phase }, { on := 7, ground := Ground.phase }, { on := 8, ground := Ground.phase }, { on := 9, ground := Ground.phase }, { on := 10, ground := Ground.phase }, { on := 11, ground := Ground.phase }, { on := 12, ground := Ground.phase }, { on := 13, ground := Ground.phase }, { on := 14, ground := Ground.phase }, { on := 15, ground := Ground.phase }, { on := 16, ground := Ground.phase }, { on := 17, ground := Ground.textOnly Departure.lateStores }, { on := 18, ground := Ground.phase }], guard := none } : Oper)) rfl (fun K hK => ?_) AllReadyH.nil)
                  have hcut := cutL_A (db := v5.heap.size) hkv3 (Whole.new v5 29 (#[.int .i64 kd, .int .i64 (sz : Nat), .int .i64 (su : Nat), .int .i64 (wk : Nat), .int .i64 (cp : Nat), .slice A3 q c3])) ((Below.refl v5.heap.size v5).alloc (Nat.le_refl _) _) (hb1.alloc hb1.size _) hb1.size
                  have HCUT := Lib.hid hcut
                  go_simp
                  refine hK.out _ _ ?_ (fun hHeld => ?_)
                  · (try dsimp only); exact (hb1.alloc hb1.size _)
                  clear hK K
                  try simp only [Act.put, List.setIfInBounds_toArray, List.set_cons_zero, List.set_cons_succ]
                  refine wpAnyH_take (i := 20) (oi := ({ dst := some 15, op := Op.assign (Operand.tmp 97), type := 32, pos := "law.go:118", after := #[{ on := 17, ground := Ground.data }, { on := 19, ground := Ground.chain }, { on := 0, ground := Ground.phase }, { on := 1, ground := Ground.phase }, { on := 2, ground := Ground.phase }, { on := 3, ground := Ground.phase }, { on := 4, ground := Ground.phase }, { on := 5, ground := Ground.phase }, { on := 6, ground := Ground.phase }, { on := 7, ground := Ground.phase }, { on := 8, ground := Ground.phase }, { on := 9, ground := Ground.phase }, { on := 10, ground := Ground.phase }, { on := 11, ground := Ground.phase }, { on := 12, ground := Ground.phase }, { on := 13, ground := Ground.phase }, { on := 14, ground := Ground.phase }, { on := 15, ground := Ground.phase }, { on := 16, ground := Ground.phase }, { on := 17, ground := Ground.phase }, { on := 18, ground := Ground.phase }, { on := 19, ground := Ground.phase }], guard := none } : Oper)) (v := ?vg18) rfl (by kernel_rfl) (by kernel_rfl) (by kernel_rfl) (fun _ _ _ h => h) (Or.inl ⟨by rfl, ?hyg18⟩) (by assumption) ?restg18
                  case hyg18 => intro w hSw; (try dsimp only at hSw); go_simp; all_goals (with_reducible rfl)
                  try simp only [Act.put, List.setIfInBounds_toArray, List.set_cons_zero, List.set_cons_succ]
                  refine wpAnyH_done (by kernel_rfl) ?_ _
                  go_wp2_with fail
                  go_meet
                  exact HCUT.out
                · have hb1 := (below_drewN' (Below.refl ws.heap.size ws) 1).alloc (Nat.le_refl _) (.cells #[.int .i64 0, .int .i64 0, .int .i64 0, .int .i64 0, .int .i64 0, .slice none 0 0] 29)
                  go_simp
                  refine hK.out _ _ ?_ (fun hHeld => ?_)
                  · (try dsimp only); exact hb1
                  clear hK K
                  try simp only [Act.put, List.setIfInBounds_toArray, List.set_cons_zero, List.set_cons_succ]
                  refine wpAnyH_ready (rs := [14]) (by kernel_rfl) (by simp) ?_
                  refine (AllReadyH.cons (o := ({ dst := some 95, op := Op.call { callee := Callee.value (Operand.func 13), args := #[Operand.tmp 94], argTypes := #[9] }, type := 37, pos := "law.go:118", after := #[{ on := 13, ground := Ground.data }], guard := none } : Oper)) rfl (fun K hK => ?_) AllReadyH.nil)
                  go_simp
                  refine (HPS.out _ hb1).mono ?_
                  rintro e' v5 ⟨hb5', kv3, rfl, hkv3⟩
                  obtain ⟨A3, c3, rfl⟩ := hkv3.form
                  rw [HQ.out] at hkv3 ⊢
                  have hb2 := hb1.trans (hb5'.mono (hb1).size)
                  have hzz := (Whole.new ws.drew 29 #[.int .i64 0, .int .i64 0, .int .i64 0, .int .i64 0, .int .i64 0, .slice none 0 0]).below hb5' (by simp)
                  have y0 : v5.cell? ⟨ws.heap.size, 0, none⟩ = some (.int .i64 0) := hzz.cell 0
                  have y1 : v5.cell? ⟨ws.heap.size, 1, none⟩ = some (.int .i64 0) := hzz.cell 1
                  have y2 : v5.cell? ⟨ws.heap.size, 2, none⟩ = some (.int .i64 0) := hzz.cell 2
                  have y3 : v5.cell? ⟨ws.heap.size, 3, none⟩ = some (.int .i64 0) := hzz.cell 3
                  have y4 : v5.cell? ⟨ws.heap.size, 4, none⟩ = some (.int .i64 0) := hzz.cell 4
                  have y5 : v5.cell? ⟨ws.heap.size, 5, none⟩ = some (.slice none 0 0) := hzz.cell 5
                  have q0 : v5.frozen? ⟨ws.heap.size, 0, none⟩ = false := hzz.free 0
                  have q1 : v5.frozen? ⟨ws.heap.size, 1, none⟩ = false := hzz.free 1
                  have q2 : v5.frozen? ⟨ws.heap.size, 2, none⟩ = false := hzz.free 2
                  have q3 : v5.frozen? ⟨ws.heap.size, 3, none⟩ = false := hzz.free 3
                  have q4 : v5.frozen? ⟨ws.heap.size, 4, none⟩ = false := hzz.free 4
                  have q5 : v5.frozen? ⟨ws.heap.size, 5, none⟩ = false := hzz.free 5
                  refine hK.out _ _ ?_ (fun hHeld => ?_)
                  · (try dsimp only); exact hb2
                  clear hK K
                  try simp only [Act.put, List.setIfInBounds_toArray, List.set_cons_zero, List.set_cons_succ]
                  refine wpAnyH_take (i := 15) (oi := ({ dst := some 80, op := Op.move (Operand.tmp 95), type := 37, pos := "law.go:118", after := #[{ on := 14, ground := Ground.data }], guard := none } : Oper)) (v := ?vg19) rfl (by kernel_rfl) (by kernel_rfl) (by kernel_rfl) (fun _ _ _ h => h) (Or.inl ⟨by rfl, ?hyg19⟩) (by assumption) ?restg19
                  case hyg19 => intro w hSw; (try dsimp only at hSw); go_simp; all_goals (with_reducible rfl)
                  try simp only [Act.put, List.setIfInBounds_toArray, List.set_cons_zero, List.set_cons_succ]
                  refine wpAnyH_take (i := 16) (oi := ({ dst := some 96, op := Op.extract (Operand.tmp 80) 0, type := 29, pos := "law.go:118", after := #[{ on := 15, ground := Ground.data }], guard := none } : Oper)) (v := ?vg20) rfl (by kernel_rfl) (by kernel_rfl) (by kernel_rfl) (fun _ _ _ h => h) (Or.inl ⟨by rfl, ?hyg20⟩) (by assumption) ?restg20
                  case hyg20 => intro w hSw; (try dsimp only at hSw); go_simp; all_goals (with_reducible rfl)
                  try simp only [Act.put, List.setIfInBounds_toArray, List.set_cons_zero, List.set_cons_succ]
                  refine wpAnyH_take (i := 17) (oi := ({ dst := some 97, op := Op.extract (Operand.tmp 80) 1, type := 32, pos := "law.go:118", after := #[{ on := 15, ground := Ground.data }, { on := 19, ground := Ground.gcOnly Departure.lateStores }], guard := none } : Oper)) (v := ?vg21) rfl (by kernel_rfl) (by kernel_rfl) (by kernel_rfl) (fun _ _ _ h => h) (Or.inl ⟨by rfl, ?hyg21⟩) (by assumption) ?restg21
                  case hyg21 => intro w hSw; (try dsimp only at hSw); go_simp; all_goals (with_reducible rfl)
                  try simp only [Act.put, List.setIfInBounds_toArray, List.set_cons_zero, List.set_cons_succ]
                  refine wpAnyH_ready (rs := [19]) (by kernel_rfl) (by simp) ?_
                  refine (AllReadyH.cons (o := ({ dst := none, op := Op.store 29 (Operand.tmp 14) (Operand.tmp 96), type := 0, pos := "law.go:118", after := #[{ on := 18, ground := Ground.data }, { on := 16, ground := Ground.data }, { on := 14, ground := Ground.chain }, { on := 0, ground := Ground.phase }, { on := 1, ground := Ground.phase }, { on := 2, ground := Ground.phase }, { on := 3, ground := Ground.phase }, { on := 4, ground := Ground.phase }, { on := 5, ground := Ground.phase }, { on := 6, ground := Ground.phase }, { on := 7, ground := Ground.phase }, { on := 8, ground := Ground.phase }, { on := 9, ground := Ground.phase }, { on := 10, ground := Ground.phase }, { on := 11, ground := Ground.phase }, { on := 12, ground := Ground.phase }, { on := 13, ground := Ground.phase }, { on := 14, ground := Ground.phase }, { on := 15, ground := Ground.phase }, { on := 16, ground := Ground.phase }, { on := 17, ground := Ground.textOnly Departure.lateStores }, { on := 18, ground := Ground.phase }], guard := none } : Oper)) rfl (fun K hK => ?_) AllReadyH.nil)
                  have hcut := cutL_B (kd := kd) (sz := sz) (su := su) (wk := wk) (cp := cp) hkv3 HQ.out HB6.out hzz hb2 (Nat.le_refl _)
                  have HCUT := Lib.hid hcut
                  go_simp
                  refine hK.out _ _ ?_ (fun hHeld => ?_)
                  · (try dsimp only); exact below_put6 hb2 (Nat.le_refl _) _ _ _ _ _ _
                  clear hK K
                  try simp only [Act.put, List.setIfInBounds_toArray, List.set_cons_zero, List.set_cons_succ]
                  refine wpAnyH_take (i := 20) (oi := ({ dst := some 15, op := Op.assign (Operand.tmp 97), type := 32, pos := "law.go:118", after := #[{ on := 17, ground := Ground.data }, { on := 19, ground := Ground.chain }, { on := 0, ground := Ground.phase }, { on := 1, ground := Ground.phase }, { on := 2, ground := Ground.phase }, { on := 3, ground := Ground.phase }, { on := 4, ground := Ground.phase }, { on := 5, ground := Ground.phase }, { on := 6, ground := Ground.phase }, { on := 7, ground := Ground.phase }, { on := 8, ground := Ground.phase }, { on := 9, ground := Ground.phase }, { on := 10, ground := Ground.phase }, { on := 11, ground := Ground.phase }, { on := 12, ground := Ground.phase }, { on := 13, ground := Ground.phase }, { on := 14, ground := Ground.phase }, { on := 15, ground := Ground.phase }, { on := 16, ground := Ground.phase }, { on := 17, ground := Ground.phase }, { on := 18, ground := Ground.phase }, { on := 19, ground := Ground.phase }], guard := none } : Oper)) (v := ?vg22) rfl (by kernel_rfl) (by kernel_rfl) (by kernel_rfl) (fun _ _ _ h => h) (Or.inl ⟨by rfl, ?hyg22⟩) (by assumption) ?restg22
                  case hyg22 => intro w hSw; (try dsimp only at hSw); go_simp; all_goals (with_reducible rfl)
                  try simp only [Act.put, List.setIfInBounds_toArray, List.set_cons_zero, List.set_cons_succ]
                  refine wpAnyH_done (by kernel_rfl) ?_ _
                  go_wp2_with fail
                  go_meet
                  exact HCUT.out
              case rest =>
                obtain ⟨V, db, A3, c3, hV, rfl, rfl, hD, hE3, hbV⟩ := hcut
                subst hV
                have HCV := Lib.hid (HC10.out.below hbV HC10.out.lt); have HEV := Lib.hid (HE10.out.below hbV (Nat.le_refl _)); have HDV := Lib.hid hD; have HE3 := Lib.hid hE3
                have HBV := Lib.hid (HB10.out.trans (hbV.mono HB10.out.size))
                have HPJV := Lib.hid (HPJ.out V HBV.out)
                clear hD hE3 hbV
                go_wp2_with fail
                refine HPJV.out.mono ?_; rintro e' w11 ⟨hb11, b2, rfl, sx2, hf2⟩
                have hz12 : Below w11.heap.size w11 (w11.alloc (.cells #[.int .i64 0, .int .i64 0, .int .i64 0, .int .i64 0, .int .i64 0, .slice none 0 0] 29)) := (Below.refl _ _).alloc (Nat.le_refl _) _
                have hb12 := hb11.trans (hz12.mono hb11.size)
                obtain ⟨w12, hw12⟩ : ∃ W, w11.alloc (.cells #[.int .i64 0, .int .i64 0, .int .i64 0, .int .i64 0, .int .i64 0, .slice none 0 0] 29) = W := ⟨_, rfl⟩
                rw [hw12] at hz12 hb12
                have HF12 := Lib.hid (hf2.below hz12 hf2.lt)
                have HB12 := Lib.hid (HBV.out.trans (hb12.mono HBV.out.size))
                have hc12 := HCV.out.below hb12 HCV.out.lt
                have hd12 := HDV.out.below hb12 HDV.out.lt
                have HS12 := Lib.hid (HSM.out w12 (.slice A2 q c2) (.slice A3 q c3) HB12.out (HEV.out.below hb12 (Nat.le_refl _)) (HE3.out.below hb12 (Nat.le_refl _)))
                have HW12 := Lib.hid hw12
                have c0 : w12.cell? ⟨cb, 0, none⟩ = some (.int .i64 kd) := hc12.cell 0
                have c1 : w12.cell? ⟨cb, 1, none⟩ = some (.int .i64 (sz : Nat)) := hc12.cell 1
                have c2' : w12.cell? ⟨cb, 2, none⟩ = some (.int .i64 (su : Nat)) := hc12.cell 2
                have c3' : w12.cell? ⟨cb, 3, none⟩ = some (.int .i64 (wk : Nat)) := hc12.cell 3
                have c4 : w12.cell? ⟨cb, 4, none⟩ = some (.int .i64 (cp : Nat)) := hc12.cell 4
                have c5 : w12.cell? ⟨cb, 5, none⟩ = some (.slice A2 q c2) := hc12.cell 5
                have d0 : w12.cell? ⟨db, 0, none⟩ = some (.int .i64 kd) := hd12.cell 0
                have d1 : w12.cell? ⟨db, 1, none⟩ = some (.int .i64 (sz : Nat)) := hd12.cell 1
                have d2 : w12.cell? ⟨db, 2, none⟩ = some (.int .i64 (su : Nat)) := hd12.cell 2
                have d3 : w12.cell? ⟨db, 3, none⟩ = some (.int .i64 (wk : Nat)) := hd12.cell 3
                have d4 : w12.cell? ⟨db, 4, none⟩ = some (.int .i64 (cp : Nat)) := hd12.cell 4
                have d5 : w12.cell? ⟨db, 5, none⟩ = some (.slice A3 q c3) := hd12.cell 5
                clear hb11 hf2 hz12 hb12 hw12 hc12 hd12
                dsimp only [zC]
                go_upto_region 25 with fail
                rw [HW12.out]
                go_wp2_with fail
                refine HS12.out.mono ?_; rintro e' w13 ⟨rfl, hb13⟩
                have HF13 := Lib.hid (HF12.out.below hb13 HF12.out.lt)
                have HB13 := Lib.hid (HB12.out.trans (hb13.mono HB12.out.size))
                have HK13 := Lib.hid (code_hit b2 12 w13 (HG.out.below HB13.out (Nat.le_refl _)).et (by rw [HF13.out.cell 0]; rfl))
                clear hb13 c0 c1 c2' c3' c4 c5 d0 d1 d2 d3 d4 d5
                go_wp2_with fail
                refine HK13.out.mono ?_; rintro e' w14 ⟨rfl, hb14⟩
                have HF14 := Lib.hid (HF13.out.below hb14 HF13.out.lt)
                have HB14 := Lib.hid (HB13.out.trans (hb14.mono HB13.out.size))
                have HA14 := Lib.hid (at_hit b2 1 w14 (HG.out.below HB14.out (Nat.le_refl _)).et (by rw [HF14.out.cell 1]; rfl))
                clear hb14
                go_wp2_with fail
                refine HA14.out.mono ?_; rintro e' w15 ⟨rfl, hb15⟩
                have HB15 := Lib.hid (HB14.out.trans (hb15.mono HB14.out.size))
                clear hb15
                go_wp2_with fail
                go_ret
                exact ⟨rfl, HB15.out⟩
theorem lines22_law (kd sz su wk cp : Int) (O : List (Int × Int)) (kv : Value) (r : Nat) (hr8 : r < 256) (w : World) (hg : GT w) (hk : EdgesV w kv O) (hl : O.length * 16 ≤ 140737488351232) :
    Calls Tryz.prog 5 #[.agg (cV ⟨kd, sz, su, wk, cp⟩ kv), .int .u8 (r : Nat)] w fun e w' => e = .returned (.bool true) ∧ Below w.heap.size w w' := by
  cases hr : rightKB ⟨⟨kd, sz, su, wk, cp⟩, O⟩ with
  | false => exact linesBad_law kd sz su wk cp O kv r w hg hk (by omega) hr
  | true =>
    obtain ⟨h0, hs, h2, h3, h4, h5, h6⟩ := rightKB_iff.1 hr
    have hsu : 0 ≤ su ∧ su ≤ 1000000 := by
      unfold supB at hs
      split at hs
      · have := of_decide_eq_true hs
        simp only at this
        omega
      · have := of_decide_eq_true hs
        simp only at this
        omega
    obtain ⟨n1, rfl⟩ := Int.eq_ofNat_of_zero_le (show 0 ≤ sz by omega)
    obtain ⟨n2, rfl⟩ := Int.eq_ofNat_of_zero_le hsu.1
    obtain ⟨n3, rfl⟩ := Int.eq_ofNat_of_zero_le (show 0 ≤ wk by omega)
    obtain ⟨n4, rfl⟩ := Int.eq_ofNat_of_zero_le (show 0 ≤ cp by omega)
    exact linesGood_law kd n1 n2 n3 n4 O kv r hr8 w hg hk hr (by omega) (by omega) (by omega) (by omega) h5 h6
end Go.Proofs.YtbbdammdiplagaaGreatDoor
