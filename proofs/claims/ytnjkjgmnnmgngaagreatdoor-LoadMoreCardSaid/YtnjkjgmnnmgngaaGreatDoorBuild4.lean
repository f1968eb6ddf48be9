/- graph.build: its contract. -/
import Derived.Test.YtnjkjgmnnmgngaaGreatDoorJ6
namespace Go.Proofs.YtnjkjgmnnmgngaaGreatDoor
open Go.RowKit
attribute [local go_sem ↓] app_alias

theorem Tryz.infoE4 : (Tryz.prog.info? 64).map (fun i => (i.zero, i.size, i.bytes)) = some (some (.agg #[.int .i64 0, .int .i64 0]), 2, 16) := by kernel_rfl
set_option maxRecDepth 100000 in
set_option maxHeartbeats 4000000 in
theorem build_any (L : List Int) (E : List (Int × Int)) (n m : Nat) (ve : Value) (W : World) (base : Nat) (A : Option Addr) (c : Nat) (hn : L.length = n) (hm : E.length = m) (hn4 : n ≤ 4096) (hm4 : m ≤ 16384) (hb : base ≤ W.heap.size) (ho : W.ownsRow base 3 1 (.slice A n c) n (intCells L)) (he : EdgesV W ve E) (hgood : Good n E) :
    Calls Tryz.prog 68 #[.slice A n c, ve] W fun e w' => ∃ g, e = .returned (.pointer (some ⟨g, 0, none⟩)) ∧ GraphOwn w' base g L (sortE E) ∧ Below W.heap.size W w' := by
  obtain ⟨Ae, ce, rfl⟩ := he.form
  rw [hm] at he ⊢
  obtain ⟨j0, hi0, hz0, hz1, hz2⟩ := info_parts Tryz.infoE4
  obtain ⟨j1, hi1, ky0, ky1, ky2⟩ := info_parts Tryz.infoRow
  have mkE : ∀ V : World, (Instr.makeSlice 72 (.int .i64 (m : Nat)) (.int .i64 (m : Nat))).run Tryz.prog V = .ok (.slice (some ⟨V.heap.size, 0, none⟩) m m) (V.alloc (.cells (madeCells #[.int .i64 0, .int .i64 0] (m * 2)) 64)) := by
    intro V
    have h := run_make (P := Tryz.prog) V 72 64 j0 (.agg #[.int .i64 0, .int .i64 0]) Tryz.underlying72 hi0 hz0 .i64 .i64 (m : Int) (m : Int) (by omega) (by omega) (by rw [hz2]; omega) (by omega)
    rw [h, hz1, Int.toNat_natCast]
    rfl
  have mkR : ∀ V : World, (Instr.makeSlice 73 (.int .i64 (n : Nat)) (.int .i64 (n : Nat))).run Tryz.prog V = .ok (.slice (some ⟨V.heap.size, 0, none⟩) n n) (V.alloc (.cells (madeCells #[.slice none 0 0] n) 33)) := by
    intro V
    have h := run_make (P := Tryz.prog) V 73 33 j1 (.slice none 0 0) Tryz.underlying73 hi1 ky0 .i64 .i64 (n : Int) (n : Int) (by omega) (by omega) (by rw [ky2]; omega) (by omega)
    rw [h, ky1, Int.toNat_natCast, Nat.mul_one]
    rfl
  go_enter Tryz.func68, Tryz.ntmps68
  go_upto_region 1 with fail
  go_cut [5] (fun x wx => BuildCut n m W (.slice A n c) x wx)
  case first =>
    go_region
    all_goals
      go_wp2
      go_meet
      first
        | exact ⟨_, _, _, _, rfl, (four_laid W _ _ _ _ _ _ _ _).2.2.2.1, (four_laid W _ _ _ _ _ _ _ _).1, (four_laid W _ _ _ _ _ _ _ _).2.1, (four_laid W _ _ _ _ _ _ _ _).2.2.1, by omega, by omega, by omega, by omega, by omega, (four_laid W _ _ _ _ _ _ _ _).2.2.2.2⟩
        | exact ⟨_, _, _, _, rfl, (four_laid W _ _ _ _ _ _ _ _).2.2.2.1, (four_laid W _ _ _ _ _ _ _ _).1, (four_laid W _ _ _ _ _ _ _ _).2.2.1, (four_laid W _ _ _ _ _ _ _ _).2.1, by omega, by omega, by omega, by omega, by omega, (four_laid W _ _ _ _ _ _ _ _).2.2.2.2⟩
        | exact ⟨_, _, _, _, rfl, (four_laid W _ _ _ _ _ _ _ _).2.2.2.1, (four_laid W _ _ _ _ _ _ _ _).2.1, (four_laid W _ _ _ _ _ _ _ _).1, (four_laid W _ _ _ _ _ _ _ _).2.2.1, by omega, by omega, by omega, by omega, by omega, (four_laid W _ _ _ _ _ _ _ _).2.2.2.2⟩
        | exact ⟨_, _, _, _, rfl, (four_laid W _ _ _ _ _ _ _ _).2.2.2.1, (four_laid W _ _ _ _ _ _ _ _).2.1, (four_laid W _ _ _ _ _ _ _ _).2.2.1, (four_laid W _ _ _ _ _ _ _ _).1, by omega, by omega, by omega, by omega, by omega, (four_laid W _ _ _ _ _ _ _ _).2.2.2.2⟩
        | exact ⟨_, _, _, _, rfl, (four_laid W _ _ _ _ _ _ _ _).2.2.2.1, (four_laid W _ _ _ _ _ _ _ _).2.2.1, (four_laid W _ _ _ _ _ _ _ _).1, (four_laid W _ _ _ _ _ _ _ _).2.1, by omega, by omega, by omega, by omega, by omega, (four_laid W _ _ _ _ _ _ _ _).2.2.2.2⟩
        | exact ⟨_, _, _, _, rfl, (four_laid W _ _ _ _ _ _ _ _).2.2.2.1, (four_laid W _ _ _ _ _ _ _ _).2.2.1, (four_laid W _ _ _ _ _ _ _ _).2.1, (four_laid W _ _ _ _ _ _ _ _).1, by omega, by omega, by omega, by omega, by omega, (four_laid W _ _ _ _ _ _ _ _).2.2.2.2⟩
  case rest =>
    obtain ⟨g, eb, nb, ab, rfl, hG, hEd, hNr, hAt, hnab, hg1, he1, hn1, ha1, hbel⟩ := hcut
    rw [zero_ecells, ← hm, ← filled_zero] at hEd
    have HO := Lib.hid ho; have HSE := Lib.hid he; have HM := Lib.hid hm; have HN := Lib.hid hn; have HGD := Lib.hid hgood
    have HG := Lib.hid hG; have HED := Lib.hid hEd; have HNR := Lib.hid hNr; have HAT := Lib.hid hAt; have HBEL := Lib.hid hbel
    clear ho he hm hn hgood hG hEd hNr hAt hbel mkE mkR hi0 hz0 hz1 hz2 hi1 ky0 ky1 ky2
    go_wp2_with fail
    go_loopg [24] m (fun gh y wr => ∃ k, k ≤ m ∧ gh = m - k ∧ y = .int .i64 (k : Nat) ∧ Whole wr g 75 #[.slice A n c, .slice (some ⟨eb, 0, none⟩) m m, .slice (some ⟨nb, 0, none⟩) n n, .slice (some ⟨ab, 0, none⟩) n n] ∧
      Whole wr eb 64 (ecells (filled E k)) ∧ Whole wr nb 33 (madeCells #[.slice none 0 0] n) ∧ Whole wr ab 33 (madeCells #[.slice none 0 0] n) ∧ Below W.heap.size W wr)
    case atStart => exact ⟨0, Nat.zero_le _, rfl, rfl, HG.out, HED.out, HNR.out, HAT.out, HBEL.out⟩
    case round =>
      obtain ⟨k, hk, rfl, rfl, hG, hEd, hNr, hAt, hbel⟩ := hrel
      have HG1 := Lib.hid hG; have HED1 := Lib.hid hEd; have HNR1 := Lib.hid hNr; have HAT1 := Lib.hid hAt; have HB1 := Lib.hid hbel
      have hsz := hbel.size
      have hgl := hG.lt; have hel := hEd.lt; have hnl := hNr.lt; have hal := hAt.lt
      clear hG hEd hNr hAt hbel
      by_cases hlt : k < m
      · have hkE : k < E.length := by rw [HM.out]; exact hlt
        obtain ⟨b, off, rfl, d0, d1⟩ := (HSE.out.below HB1.out (Nat.le_refl _)).pos hkE
        have hge : E.getD k (0, 0) = E[k] := by simp [List.getD, hkE]
        obtain ⟨e, he⟩ : ∃ e, E[k] = e := ⟨_, rfl⟩
        rw [hge, he] at d0 d1
        obtain ⟨x, y⟩ := e
        have hbl : b < wr.heap.size := World.block_lt_of_cell? _ _ d0
        have t3 : decide (k < m) = true := decide_eq_true hlt
        have i1 : (k : Int) < m := by omega
        have i2 : (0 : Int) ≤ k := by omega
        have g1 : (wr.alloc (.cells #[.int .i64 x, .int .i64 y] 64)).cell? ⟨g, 1, none⟩ = some (.slice (some ⟨eb, 0, none⟩) m m) := (HG1.out.alloc _).cell 1
        have HWH := Lib.hid (Whole.new wr 64 #[.int .i64 x, .int .i64 y])
        have b0 := HWH.out.cell 0
        have b1 := HWH.out.cell 1
        have RS0 := fun V => rising_any x y V
        obtain ⟨lo, hlo⟩ : ∃ z, min x y = z := ⟨_, rfl⟩
        obtain ⟨hi, hhi⟩ : ∃ z, max x y = z := ⟨_, rfl⟩
        simp only [hlo, hhi] at RS0
        have RS := Lib.hid RS0
        have HLO := Lib.hid hlo; have HHI := Lib.hid hhi
        clear RS0 hlo hhi
        have hkF : k < (filled E k).length := by rw [filled_len (by omega)]; exact hkE
        obtain ⟨z0, hz0⟩ : ∃ z : Value, (ecells (filled E k))[k * 2]? = some z := ⟨_, (ecells_at hkF).1⟩
        obtain ⟨z1, hz1⟩ : ∃ z : Value, (ecells (filled E k))[k * 2 + 1]? = some z := ⟨_, (ecells_at hkF).2⟩
        have hb1 : Below wr.heap.size wr (wr.alloc (.cells #[.int .i64 x, .int .i64 y] 64)) := (Below.refl _ _).alloc (Nat.le_refl _) _
        have HBX := Lib.hid hb1
        have HLT := Lib.hid hlt; have HKE := Lib.hid hkE; have HEK := Lib.hid (hge.trans he)
        clear hlt hkE hge he hb1
        have HR1 := Lib.hid (fun w3 hb3 => build_round1 (w3 := w3) (V := (wr.alloc (.cells #[.int .i64 x, .int .i64 y] 64)).drew) ((HG1.out.alloc _).drewN 1) ((HED1.out.alloc _).drewN 1) ((HNR1.out.alloc _).drewN 1) ((HAT1.out.alloc _).drewN 1) (below_drewN' (HB1.out.alloc HB1.out.size _) 1) he1 HKE.out HEK.out HLO.out HHI.out hb3)
        go_wp2_with fail
        go_region_with (go_at_call 67; refine (RS.out _).mono ?_; rintro e' w3 ⟨rfl, hb3⟩; have hE3 := ((HED1.out.alloc (.cells #[.int .i64 x, .int .i64 y] 64)).drewN 1).below hb3 ((HED1.out.alloc (.cells #[.int .i64 x, .int .i64 y] 64)).drewN 1).lt; have q0 := hE3.cell (k * 2); rw [hz0] at q0; have q1 := hE3.cell (k * 2 + 1); rw [hz1] at q1; have f0 := hE3.free (k * 2); have f1 := hE3.free (k * 2 + 1); have hG3 := ((HG1.out.alloc (.cells #[.int .i64 x, .int .i64 y] 64)).drewN 1).below hb3 ((HG1.out.alloc (.cells #[.int .i64 x, .int .i64 y] 64)).drewN 1).lt; have g3 : w3.cell? ⟨g, 1, none⟩ = some (.slice (some ⟨eb, 0, none⟩) m m) := hG3.cell 1; have HQ := Lib.hid (HR1.out w3 hb3); clear hb3 hE3 hG3)
        all_goals
          go_wp2_with fail
          go_roundg (m - (k + 1))
          case rel =>
            obtain ⟨q1, q2, q3, q4, q5⟩ := HQ.out
            exact ⟨k + 1, HLT.out, rfl, by go_num, q1, q2, q3, q4, q5⟩
          case measure => have := HLT.out; omega
      · obtain rfl : k = m := by omega
        have t3 : decide (k < k) = false := by simp
        have g1 : wr.cell? ⟨g, 1, none⟩ = some (.slice (some ⟨eb, 0, none⟩) k k) := HG1.out.cell 1
        have hfill : filled E k = E.map ris := by rw [← HM.out]; exact filled_all E
        have HS := Lib.hid (sort_edges (E.map ris) eb k wr (by rw [List.length_map]; exact HM.out) (by omega) (by have := HED1.out; rwa [hfill] at this) (fun x y W => cmp_edges x y W))
        clear hlt hfill
        go_wp2_with fail
        refine HS.out.mono ?_; rintro e w3 ⟨rfl, D, hD1, hD2, hE3, hg3⟩
        have hD : D = sortE E := sorted_eq HGD.out.1 hD1 hD2
        subst hD
        have hG3 := HG1.out.grown hg3 (by simpa using HG1.out.ne HED1.out (by decide))
        have hN3 := HNR1.out.grown hg3 (by simpa using HNR1.out.ne HED1.out (by decide))
        have hA3 := HAT1.out.grown hg3 (by simpa using HAT1.out.ne HED1.out (by decide))
        have hB3 : Below W.heap.size W w3 := HB1.out.grown hg3 HB1.out.size (fun j hj => by cases hj; exact he1)
        have hR3 : Rws w3 W.heap.size nb ab n (rowsOf n []) := Rws.made hN3 hA3
        have hsl : (sortE E).length = k := by rw [sortE_len, HM.out]
        have hfine := good_fine HGD.out
        obtain ⟨S, hS⟩ : ∃ S, sortE E = S := ⟨_, rfl⟩
        rw [hS] at hE3 hsl hfine
        have HSS := Lib.hid hS
        clear hS
        have HSL := Lib.hid hsl; have HFI := Lib.hid hfine; have HE3 := Lib.hid hE3; have HG3 := Lib.hid hG3; have HB3 := Lib.hid hB3; have HR3 := Lib.hid hR3
        have g1 : w3.cell? ⟨g, 1, none⟩ = some (.slice (some ⟨eb, 0, none⟩) k k) := hG3.cell 1
        clear hE3 hG3 hB3 hR3 hN3 hA3 hsl hfine hD1 hD2 hg3
        go_wp2_with fail
        go_loopg [48] k (fun gh yv wr => ∃ i, i ≤ k ∧ gh = k - i ∧ yv = .int .i64 (i : Nat) ∧ Whole wr g 75 #[.slice A n c, .slice (some ⟨eb, 0, none⟩) k k, .slice (some ⟨nb, 0, none⟩) n n, .slice (some ⟨ab, 0, none⟩) n n] ∧
          Whole wr eb 64 (ecells S) ∧ Rws wr W.heap.size nb ab n (rowsOf n (S.take i)) ∧ Below W.heap.size W wr)
        case atStart => exact ⟨0, Nat.zero_le _, rfl, rfl, HG3.out, HE3.out, HR3.out, HB3.out⟩
        case round =>
          obtain ⟨i, hik, rfl, rfl, hG, hE, hR, hB⟩ := hrel
          by_cases hlt : i < k
          · have hiS : i < S.length := by rw [HSL.out]; exact hlt
            obtain ⟨e, he⟩ : ∃ e, S.getD i (0, 0) = e := ⟨_, rfl⟩
            have hSi : S[i] = e := by rw [← he]; simp [List.getD, hiS]
            have hem : e ∈ S := by rw [← hSi]; exact List.getElem_mem hiS
            have hl1 := HFI.out.1.less e hem
            have hl2 := HFI.out.2 e hem
            obtain ⟨a, ha⟩ : ∃ a : Nat, e.1 = (a : Int) := ⟨e.1.toNat, by omega⟩
            obtain ⟨b, hb⟩ : ∃ b : Nat, e.2 = (b : Int) := ⟨e.2.toNat, by omega⟩
            have hab : a < b := by omega
            have hbn : b < n := by omega
            have han : a < n := by omega
            have d0 : wr.cell? ⟨eb, i * 2, none⟩ = some (.int .i64 a) := by rw [hE.cell, (ecells_at hiS).1, he, ha]
            have d1 : wr.cell? ⟨eb, i * 2 + 1, none⟩ = some (.int .i64 b) := by rw [hE.cell, (ecells_at hiS).2, he, hb]
            have htake : S.take (i + 1) = S.take i ++ [((a : Int), (b : Int))] := by
              rw [List.take_succ_eq_append_getElem hiS, hSi, ← ha, ← hb]
            have hlen : (S.take i).length = i := by rw [List.length_take]; omega
            have HSN := Lib.hid (rowsOf_snoc han hbn hab hlen)
            rw [← htake] at HSN
            have hst : St W (wr.alloc (.cells #[.int .i64 a, .int .i64 b] 64)) g eb nb ab wr.heap.size n _ _ _ (rowsOf n (S.take i)) :=
              ⟨hR.below ((Below.refl _ _).alloc (Nat.le_refl _) _) (Nat.le_refl _), rowsOf_len _ _, hG.alloc _, hE.alloc _, Whole.new _ _ _, hB.alloc hB.size _, hn1, ha1, hnab⟩
            obtain ⟨V, hV⟩ : ∃ V, wr.alloc (.cells #[.int .i64 a, .int .i64 b] 64) = V := ⟨_, rfl⟩
            obtain ⟨xb, hxb⟩ : ∃ x, wr.heap.size = x := ⟨_, rfl⟩
            rw [hV, hxb] at hst
            have t3' : decide (i < k) = true := decide_eq_true hlt
            have i1 : (i : Int) < k := by omega
            have i2 : (0 : Int) ≤ i := by omega
            have i3 : (a : Int) < n := by omega
            have i4 : (0 : Int) ≤ a := by omega
            have i5 : (b : Int) < n := by omega
            have i6 : (0 : Int) ≤ b := by omega
            have HLT := Lib.hid hlt
            clear hlt hSi hem hl1 hl2 ha hb htake he hG hE hR hB
            go_wp2_with fail
            obtain ⟨T, hT⟩ : ∃ T, S.take i = T := ⟨_, rfl⟩
            rw [hT] at hst HSN hlen
            have HV := Lib.hid hV; have HT := Lib.hid hT
            have hxs : V.heap.size = V.heap.size := rfl
            clear hT hxs
            obtain ⟨i0, hi0, hz0', hz1', hz2'⟩ := info_parts Tryz.infoInt6
            have hq1 : (nearL T (a : Nat)).length ≤ 1000000 := by have := nearL_len T (a : Nat); omega
            have hM1 : (rowsOf n T)[a]? = some (nearL T (a : Nat)) := by exact rowsOf_near T han
            obtain ⟨A1, c1, a1, _, r1⟩ := hst.rws.near hst.len han hM1
            obtain ⟨q1, hl1⟩ : ∃ q, (nearL T (a : Nat)).length = q := ⟨_, rfl⟩
            rw [hl1] at a1 r1 hq1
            have g1 : V.cell? ⟨g, 2, none⟩ = some (.slice (some ⟨nb, 0, none⟩) n n) := hst.g.cell 2
            have x10 : V.cell? ⟨xb, 0, none⟩ = some (.int .i64 (a : Nat)) := hst.x.cell 0
            have x11 : V.cell? ⟨xb, 1, none⟩ = some (.int .i64 (b : Nat)) := hst.x.cell 1
            have hs1 : W.heap.size ≤ V.drew.heap.size := hst.bel.size
            have happ1 := hst.app r1 hq1 (b : Nat)
            obtain ⟨B1, e1, w1, ha1, hown1, hgrow1⟩ := happ1
            obtain ⟨k1, f1, hst1⟩ := hst.near_step han (N := nearL T (a : Nat) ++ [(b : Int)]) hM1 r1 a1 (by rw [List.length_append, hl1, intCells_app]; exact hown1) hgrow1
            obtain ⟨y11, y12, y13⟩ := hst.near_S a1 (w' := (V.alloc (.cells #[.int .i64 (b : Nat)] 3)).drew) (fun _ hb => (hb.alloc _).drewN 1)
            obtain ⟨y14, y15, y16⟩ := hst.near_S a1 (w' := w1) (fun ht hb => hgrow1.whole (hb.drewN 1) (own_drewN r1 1) ht)
            have HS1 := Lib.hid y11; have HS1b := Lib.hid y12; have HS1c := Lib.hid y13; have HS1d := Lib.hid y14; have HS1e := Lib.hid y15; have HS1f := Lib.hid y16
            clear y11 y12 y13 y14 y15 y16
            obtain ⟨V1, hV1⟩ : ∃ V', w1.setCell ⟨nb, a, none⟩ (.slice B1 (q1 + 1) e1) = V' := ⟨_, rfl⟩
            rw [hV1] at hst1
            have HT1 := Lib.hid hst1
            have lg1 : g < V.heap.size := hst.g.lt; have lx1 : xb < V.heap.size := hst.x.lt; have ln1 : nb < V.heap.size := World.block_lt_of_cell? _ _ a1
            clear hst hM1 r1 hl1 hown1 hgrow1 hst1
            refine region_reads [0,1,2,3,4,5,6,7,8,9,10,11,12,13,14,15] 16 17 18 19 (by kernel_rfl) (by kernel_rfl) (fun w' => w'.cell? ⟨g, 2, none⟩ = some (.slice (some ⟨nb, 0, none⟩) n n) ∧ w'.cell? ⟨xb, 0, none⟩ = some (.int .i64 (a : Nat)) ∧ w'.cell? ⟨xb, 1, none⟩ = some (.int .i64 (b : Nat)) ∧ w'.cell? ⟨nb, a, none⟩ = some (.slice A1 q1 c1)) ⟨g1, x10, x11, a1⟩ (by kernel_rfl) (by kernel_rfl) (by kernel_rfl) (by kernel_rfl) (by kernel_rfl) (by kernel_rfl) (by kernel_rfl) rfl rfl rfl rfl rfl rfl rfl rfl (by kernel_rfl) ?_
            refine ⟨_, ?v1_0, rfl, Or.inl ⟨by rfl, ?hy1_0⟩, fun _ _ _ h => h, ?rest1_0⟩
            case hy1_0 => (intro w' hSw; obtain ⟨s1, s2, s3, s4⟩ := hSw; go_simp; try with_reducible rfl)
            try dsimp only [Act.put]
            refine ⟨_, ?v1_1, rfl, Or.inl ⟨by rfl, ?hy1_1⟩, fun _ _ _ h => h, ?rest1_1⟩
            case hy1_1 => (intro w' hSw; obtain ⟨s1, s2, s3, s4⟩ := hSw; go_simp; try with_reducible rfl)
            try dsimp only [Act.put]
            refine ⟨_, ?v1_2, rfl, Or.inl ⟨by rfl, ?hy1_2⟩, fun _ _ _ h => h, ?rest1_2⟩
            case hy1_2 => (intro w' hSw; obtain ⟨s1, s2, s3, s4⟩ := hSw; go_simp; try with_reducible rfl)
            try dsimp only [Act.put]
            refine ⟨_, ?v1_3, rfl, Or.inl ⟨by rfl, ?hy1_3⟩, fun _ _ _ h => h, ?rest1_3⟩
            case hy1_3 => (intro w' hSw; obtain ⟨s1, s2, s3, s4⟩ := hSw; go_simp; try with_reducible rfl)
            try dsimp only [Act.put]
            refine ⟨_, ?v1_4, rfl, Or.inl ⟨by rfl, ?hy1_4⟩, fun _ _ _ h => h, ?rest1_4⟩
            case hy1_4 => (intro w' hSw; obtain ⟨s1, s2, s3, s4⟩ := hSw; go_simp; try with_reducible rfl)
            try dsimp only [Act.put]
            refine ⟨_, ?v1_5, rfl, Or.inl ⟨by rfl, ?hy1_5⟩, fun _ _ _ h => h, ?rest1_5⟩
            case hy1_5 => (intro w' hSw; obtain ⟨s1, s2, s3, s4⟩ := hSw; go_simp; try with_reducible rfl)
            try dsimp only [Act.put]
            refine ⟨_, ?v1_6, rfl, Or.inl ⟨by rfl, ?hy1_6⟩, fun _ _ _ h => h, ?rest1_6⟩
            case hy1_6 => (intro w' hSw; obtain ⟨s1, s2, s3, s4⟩ := hSw; go_simp; try with_reducible rfl)
            try dsimp only [Act.put]
            refine ⟨_, ?v1_7, rfl, Or.inl ⟨by rfl, ?hy1_7⟩, fun _ _ _ h => h, ?rest1_7⟩
            case hy1_7 => (intro w' hSw; obtain ⟨s1, s2, s3, s4⟩ := hSw; go_simp; try with_reducible rfl)
            try dsimp only [Act.put]
            refine ⟨_, ?v1_8, rfl, Or.inl ⟨by rfl, ?hy1_8⟩, fun _ _ _ h => h, ?rest1_8⟩
            case hy1_8 => (intro w' hSw; obtain ⟨s1, s2, s3, s4⟩ := hSw; go_simp; try with_reducible rfl)
            try dsimp only [Act.put]
            refine ⟨_, ?v1_9, rfl, Or.inl ⟨by rfl, ?hy1_9⟩, fun _ _ _ h => h, ?rest1_9⟩
            case hy1_9 => (intro w' hSw; obtain ⟨s1, s2, s3, s4⟩ := hSw; go_simp; try with_reducible rfl)
            try dsimp only [Act.put]
            refine ⟨_, ?v1_10, rfl, Or.inl ⟨by rfl, ?hy1_10⟩, fun _ _ _ h => h, ?rest1_10⟩
            case hy1_10 => (intro w' hSw; obtain ⟨s1, s2, s3, s4⟩ := hSw; go_simp; try with_reducible rfl)
            try dsimp only [Act.put]
            refine ⟨_, ?v1_11, rfl, Or.inl ⟨by rfl, ?hy1_11⟩, fun _ _ _ h => h, ?rest1_11⟩
            case hy1_11 => (intro w' hSw; obtain ⟨s1, s2, s3, s4⟩ := hSw; go_simp; try with_reducible rfl)
            try dsimp only [Act.put]
            refine ⟨_, ?v1_12, rfl, Or.inl ⟨by rfl, ?hy1_12⟩, fun _ _ _ h => h, ?rest1_12⟩
            case hy1_12 => (intro w' hSw; obtain ⟨s1, s2, s3, s4⟩ := hSw; go_simp; try with_reducible rfl)
            try dsimp only [Act.put]
            refine ⟨_, ?v1_13, rfl, Or.inl ⟨by rfl, ?hy1_13⟩, fun _ _ _ h => h, ?rest1_13⟩
            case hy1_13 => (intro w' hSw; obtain ⟨s1, s2, s3, s4⟩ := hSw; go_simp; try with_reducible rfl)
            try dsimp only [Act.put]
            refine ⟨_, ?v1_14, rfl, Or.inl ⟨by rfl, ?hy1_14⟩, fun _ _ _ h => h, ?rest1_14⟩
            case hy1_14 => (intro w' hSw; obtain ⟨s1, s2, s3, s4⟩ := hSw; go_simp; try with_reducible rfl)
            try dsimp only [Act.put]
            refine ⟨_, ?v1_15, rfl, Or.inl ⟨by rfl, ?hy1_15⟩, fun _ _ _ h => h, ?rest1_15⟩
            case hy1_15 => (intro w' hSw; obtain ⟨s1, s2, s3, s4⟩ := hSw; go_simp; try with_reducible rfl)
            try dsimp only [Act.put]
            refine reads_nil ?_
            refine wp_bare (fun K11 hK11 => ?_)
            go_simp
            refine hK11.out _ _ ⟨⟨HS1b.out.cell 2, HS1c.out.cell 0, HS1c.out.cell 1, HS1.out⟩, ?_⟩
            refine wp_bare (fun K12 hK12 => ?_)
            go_simp
            refine hK12.out _ _ ⟨⟨HS1e.out.cell 2, HS1f.out.cell 0, HS1f.out.cell 1, HS1d.out⟩, ?_⟩
            refine wp_bare (fun K13 hK13 => ?_)
            go_simp
            refine hK13.out _ _ ?_
            refine wp_bare (fun K14 hK14 => ?_)
            go_simp
            refine hK14.out _ _ ?_
            go_wp2_with fail
            have hst1 := HT1.out
            clear k1 f1 hV1 ha1 a1 g1 x10 x11 lg1 lx1 ln1
            have hq2 : (nearL T (b : Nat)).length ≤ 1000000 := by have := nearL_len T (b : Nat); omega
            have hM2 : ((rowsOf n T).set a (nearL T (a : Nat) ++ [(b : Int)]))[b]? = some (nearL T (b : Nat)) := by rw [List.getElem?_set_ne (by omega)]; exact rowsOf_near T hbn
            obtain ⟨A2, c2, a2, _, r2⟩ := hst1.rws.near hst1.len hbn hM2
            obtain ⟨q2, hl2⟩ : ∃ q, (nearL T (b : Nat)).length = q := ⟨_, rfl⟩
            rw [hl2] at a2 r2 hq2
            have g2 : V1.cell? ⟨g, 2, none⟩ = some (.slice (some ⟨nb, 0, none⟩) n n) := hst1.g.cell 2
            have x20 : V1.cell? ⟨xb, 0, none⟩ = some (.int .i64 (a : Nat)) := hst1.x.cell 0
            have x21 : V1.cell? ⟨xb, 1, none⟩ = some (.int .i64 (b : Nat)) := hst1.x.cell 1
            have hs2 : W.heap.size ≤ V1.drew.heap.size := hst1.bel.size
            have happ2 := hst1.app r2 hq2 (a : Nat)
            obtain ⟨B2, e2, w2, ha2, hown2, hgrow2⟩ := happ2
            obtain ⟨k2, f2, hst2⟩ := hst1.near_step hbn (N := nearL T (b : Nat) ++ [(a : Int)]) hM2 r2 a2 (by rw [List.length_append, hl2, intCells_app]; exact hown2) hgrow2
            obtain ⟨y21, y22, y23⟩ := hst1.near_S a2 (w' := (V1.alloc (.cells #[.int .i64 (a : Nat)] 3)).drew) (fun _ hb => (hb.alloc _).drewN 1)
            obtain ⟨y24, y25, y26⟩ := hst1.near_S a2 (w' := w2) (fun ht hb => hgrow2.whole (hb.drewN 1) (own_drewN r2 1) ht)
            have HS2 := Lib.hid y21; have HS2b := Lib.hid y22; have HS2c := Lib.hid y23; have HS2d := Lib.hid y24; have HS2e := Lib.hid y25; have HS2f := Lib.hid y26
            clear y21 y22 y23 y24 y25 y26
            obtain ⟨V2, hV2⟩ : ∃ V', w2.setCell ⟨nb, b, none⟩ (.slice B2 (q2 + 1) e2) = V' := ⟨_, rfl⟩
            rw [hV2] at hst2
            have HT2 := Lib.hid hst2
            have lg2 : g < V1.heap.size := hst1.g.lt; have lx2 : xb < V1.heap.size := hst1.x.lt; have ln2 : nb < V1.heap.size := World.block_lt_of_cell? _ _ a2
            clear hst1 hM2 r2 hl2 hown2 hgrow2 hst2
            refine region_reads [0,1,2,3,4,5,6,7,8,9,10,11,12,13,14,15] 16 17 18 19 (by kernel_rfl) (by kernel_rfl) (fun w' => w'.cell? ⟨g, 2, none⟩ = some (.slice (some ⟨nb, 0, none⟩) n n) ∧ w'.cell? ⟨xb, 0, none⟩ = some (.int .i64 (a : Nat)) ∧ w'.cell? ⟨xb, 1, none⟩ = some (.int .i64 (b : Nat)) ∧ w'.cell? ⟨nb, b, none⟩ = some (.slice A2 q2 c2)) ⟨g2, x20, x21, a2⟩ (by kernel_rfl) (by kernel_rfl) (by kernel_rfl) (by kernel_rfl) (by kernel_rfl) (by kernel_rfl) (by kernel_rfl) rfl rfl rfl rfl rfl rfl rfl rfl (by kernel_rfl) ?_
            refine ⟨_, ?v2_0, rfl, Or.inl ⟨by rfl, ?hy2_0⟩, fun _ _ _ h => h, ?rest2_0⟩
            case hy2_0 => (intro w' hSw; obtain ⟨s1, s2, s3, s4⟩ := hSw; go_simp; try with_reducible rfl)
            try dsimp only [Act.put]
            refine ⟨_, ?v2_1, rfl, Or.inl ⟨by rfl, ?hy2_1⟩, fun _ _ _ h => h, ?rest2_1⟩
            case hy2_1 => (intro w' hSw; obtain ⟨s1, s2, s3, s4⟩ := hSw; go_simp; try with_reducible rfl)
            try dsimp only [Act.put]
            refine ⟨_, ?v2_2, rfl, Or.inl ⟨by rfl, ?hy2_2⟩, fun _ _ _ h => h, ?rest2_2⟩
            case hy2_2 => (intro w' hSw; obtain ⟨s1, s2, s3, s4⟩ := hSw; go_simp; try with_reducible rfl)
            try dsimp only [Act.put]
            refine ⟨_, ?v2_3, rfl, Or.inl ⟨by rfl, ?hy2_3⟩, fun _ _ _ h => h, ?rest2_3⟩
            case hy2_3 => (intro w' hSw; obtain ⟨s1, s2, s3, s4⟩ := hSw; go_simp; try with_reducible rfl)
            try dsimp only [Act.put]
            refine ⟨_, ?v2_4, rfl, Or.inl ⟨by rfl, ?hy2_4⟩, fun _ _ _ h => h, ?rest2_4⟩
            case hy2_4 => (intro w' hSw; obtain ⟨s1, s2, s3, s4⟩ := hSw; go_simp; try with_reducible rfl)
            try dsimp only [Act.put]
            refine ⟨_, ?v2_5, rfl, Or.inl ⟨by rfl, ?hy2_5⟩, fun _ _ _ h => h, ?rest2_5⟩
            case hy2_5 => (intro w' hSw; obtain ⟨s1, s2, s3, s4⟩ := hSw; go_simp; try with_reducible rfl)
            try dsimp only [Act.put]
            refine ⟨_, ?v2_6, rfl, Or.inl ⟨by rfl, ?hy2_6⟩, fun _ _ _ h => h, ?rest2_6⟩
            case hy2_6 => (intro w' hSw; obtain ⟨s1, s2, s3, s4⟩ := hSw; go_simp; try with_reducible rfl)
            try dsimp only [Act.put]
            refine ⟨_, ?v2_7, rfl, Or.inl ⟨by rfl, ?hy2_7⟩, fun _ _ _ h => h, ?rest2_7⟩
            case hy2_7 => (intro w' hSw; obtain ⟨s1, s2, s3, s4⟩ := hSw; go_simp; try with_reducible rfl)
            try dsimp only [Act.put]
            refine ⟨_, ?v2_8, rfl, Or.inl ⟨by rfl, ?hy2_8⟩, fun _ _ _ h => h, ?rest2_8⟩
            case hy2_8 => (intro w' hSw; obtain ⟨s1, s2, s3, s4⟩ := hSw; go_simp; try with_reducible rfl)
            try dsimp only [Act.put]
            refine ⟨_, ?v2_9, rfl, Or.inl ⟨by rfl, ?hy2_9⟩, fun _ _ _ h => h, ?rest2_9⟩
            case hy2_9 => (intro w' hSw; obtain ⟨s1, s2, s3, s4⟩ := hSw; go_simp; try with_reducible rfl)
            try dsimp only [Act.put]
            refine ⟨_, ?v2_10, rfl, Or.inl ⟨by rfl, ?hy2_10⟩, fun _ _ _ h => h, ?rest2_10⟩
            case hy2_10 => (intro w' hSw; obtain ⟨s1, s2, s3, s4⟩ := hSw; go_simp; try with_reducible rfl)
            try dsimp only [Act.put]
            refine ⟨_, ?v2_11, rfl, Or.inl ⟨by rfl, ?hy2_11⟩, fun _ _ _ h => h, ?rest2_11⟩
            case hy2_11 => (intro w' hSw; obtain ⟨s1, s2, s3, s4⟩ := hSw; go_simp; try with_reducible rfl)
            try dsimp only [Act.put]
            refine ⟨_, ?v2_12, rfl, Or.inl ⟨by rfl, ?hy2_12⟩, fun _ _ _ h => h, ?rest2_12⟩
            case hy2_12 => (intro w' hSw; obtain ⟨s1, s2, s3, s4⟩ := hSw; go_simp; try with_reducible rfl)
            try dsimp only [Act.put]
            refine ⟨_, ?v2_13, rfl, Or.inl ⟨by rfl, ?hy2_13⟩, fun _ _ _ h => h, ?rest2_13⟩
            case hy2_13 => (intro w' hSw; obtain ⟨s1, s2, s3, s4⟩ := hSw; go_simp; try with_reducible rfl)
            try dsimp only [Act.put]
            refine ⟨_, ?v2_14, rfl, Or.inl ⟨by rfl, ?hy2_14⟩, fun _ _ _ h => h, ?rest2_14⟩
            case hy2_14 => (intro w' hSw; obtain ⟨s1, s2, s3, s4⟩ := hSw; go_simp; try with_reducible rfl)
            try dsimp only [Act.put]
            refine ⟨_, ?v2_15, rfl, Or.inl ⟨by rfl, ?hy2_15⟩, fun _ _ _ h => h, ?rest2_15⟩
            case hy2_15 => (intro w' hSw; obtain ⟨s1, s2, s3, s4⟩ := hSw; go_simp; try with_reducible rfl)
            try dsimp only [Act.put]
            refine reads_nil ?_
            refine wp_bare (fun K21 hK21 => ?_)
            go_simp
            refine hK21.out _ _ ⟨⟨HS2b.out.cell 2, HS2c.out.cell 0, HS2c.out.cell 1, HS2.out⟩, ?_⟩
            refine wp_bare (fun K22 hK22 => ?_)
            go_simp
            refine hK22.out _ _ ⟨⟨HS2e.out.cell 2, HS2f.out.cell 0, HS2f.out.cell 1, HS2d.out⟩, ?_⟩
            refine wp_bare (fun K23 hK23 => ?_)
            go_simp
            refine hK23.out _ _ ?_
            refine wp_bare (fun K24 hK24 => ?_)
            go_simp
            refine hK24.out _ _ ?_
            go_wp2_with fail
            have hst2 := HT2.out
            clear k2 f2 hV2 ha2 a2 g2 x20 x21 lg2 lx2 ln2
            have hq3 : (atL T (a : Nat)).length ≤ 1000000 := by have := nearL_len T (a : Nat); have := near_at_len T (a : Nat) _ rfl; omega
            have hM3 : (((rowsOf n T).set a (nearL T (a : Nat) ++ [(b : Int)])).set b (nearL T (b : Nat) ++ [(a : Int)]))[n + a]? = some (atL T (a : Nat)) := by rw [List.getElem?_set_ne (by omega), List.getElem?_set_ne (by omega)]; exact rowsOf_at T han
            obtain ⟨A3, c3, a3, _, r3⟩ := hst2.rws.ats hst2.len han hM3
            obtain ⟨q3, hl3⟩ : ∃ q, (atL T (a : Nat)).length = q := ⟨_, rfl⟩
            rw [hl3] at a3 r3 hq3
            have g3 : V2.cell? ⟨g, 3, none⟩ = some (.slice (some ⟨ab, 0, none⟩) n n) := hst2.g.cell 3
            have x30 : V2.cell? ⟨xb, 0, none⟩ = some (.int .i64 (a : Nat)) := hst2.x.cell 0
            have x31 : V2.cell? ⟨xb, 1, none⟩ = some (.int .i64 (b : Nat)) := hst2.x.cell 1
            have hs3 : W.heap.size ≤ V2.drew.heap.size := hst2.bel.size
            have happ3 := hst2.app r3 hq3 (i : Nat)
            obtain ⟨B3, e3, w3, ha3, hown3, hgrow3⟩ := happ3
            obtain ⟨k3, f3, hst3⟩ := hst2.at_step han (N := atL T (a : Nat) ++ [(i : Int)]) hM3 r3 a3 (by rw [List.length_append, hl3, intCells_app]; exact hown3) hgrow3
            obtain ⟨y31, y32, y33⟩ := hst2.at_S a3 (w' := (V2.alloc (.cells #[.int .i64 (i : Nat)] 3)).drew) (fun _ hb => (hb.alloc _).drewN 1)
            obtain ⟨y34, y35, y36⟩ := hst2.at_S a3 (w' := w3) (fun ht hb => hgrow3.whole (hb.drewN 1) (own_drewN r3 1) ht)
            have HS3 := Lib.hid y31; have HS3b := Lib.hid y32; have HS3c := Lib.hid y33; have HS3d := Lib.hid y34; have HS3e := Lib.hid y35; have HS3f := Lib.hid y36
            clear y31 y32 y33 y34 y35 y36
            obtain ⟨V3, hV3⟩ : ∃ V', w3.setCell ⟨ab, a, none⟩ (.slice B3 (q3 + 1) e3) = V' := ⟨_, rfl⟩
            rw [hV3] at hst3
            have HT3 := Lib.hid hst3
            have lg3 : g < V2.heap.size := hst2.g.lt; have lx3 : xb < V2.heap.size := hst2.x.lt; have ln3 : ab < V2.heap.size := World.block_lt_of_cell? _ _ a3
            clear hst2 hM3 r3 hl3 hown3 hgrow3 hst3
            refine region_reads [0,1,2,3,4,5,6,7,8,9,10,11,12,13,14] 15 16 17 18 (by kernel_rfl) (by kernel_rfl) (fun w' => w'.cell? ⟨g, 3, none⟩ = some (.slice (some ⟨ab, 0, none⟩) n n) ∧ w'.cell? ⟨xb, 0, none⟩ = some (.int .i64 (a : Nat)) ∧ w'.cell? ⟨xb, 1, none⟩ = some (.int .i64 (b : Nat)) ∧ w'.cell? ⟨ab, a, none⟩ = some (.slice A3 q3 c3)) ⟨g3, x30, x31, a3⟩ (by kernel_rfl) (by kernel_rfl) (by kernel_rfl) (by kernel_rfl) (by kernel_rfl) (by kernel_rfl) (by kernel_rfl) rfl rfl rfl rfl rfl rfl rfl rfl (by kernel_rfl) ?_
            refine ⟨_, ?v3_0, rfl, Or.inl ⟨by rfl, ?hy3_0⟩, fun _ _ _ h => h, ?rest3_0⟩
            case hy3_0 => (intro w' hSw; obtain ⟨s1, s2, s3, s4⟩ := hSw; go_simp; try with_reducible rfl)
            try dsimp only [Act.put]
            refine ⟨_, ?v3_1, rfl, Or.inl ⟨by rfl, ?hy3_1⟩, fun _ _ _ h => h, ?rest3_1⟩
            case hy3_1 => (intro w' hSw; obtain ⟨s1, s2, s3, s4⟩ := hSw; go_simp; try with_reducible rfl)
            try dsimp only [Act.put]
            refine ⟨_, ?v3_2, rfl, Or.inl ⟨by rfl, ?hy3_2⟩, fun _ _ _ h => h, ?rest3_2⟩
            case hy3_2 => (intro w' hSw; obtain ⟨s1, s2, s3, s4⟩ := hSw; go_simp; try with_reducible rfl)
            try dsimp only [Act.put]
            refine ⟨_, ?v3_3, rfl, Or.inl ⟨by rfl, ?hy3_3⟩, fun _ _ _ h => h, ?rest3_3⟩
            case hy3_3 => (intro w' hSw; obtain ⟨s1, s2, s3, s4⟩ := hSw; go_simp; try with_reducible rfl)
            try dsimp only [Act.put]
            refine ⟨_, ?v3_4, rfl, Or.inl ⟨by rfl, ?hy3_4⟩, fun _ _ _ h => h, ?rest3_4⟩
            case hy3_4 => (intro w' hSw; obtain ⟨s1, s2, s3, s4⟩ := hSw; go_simp; try with_reducible rfl)
            try dsimp only [Act.put]
            refine ⟨_, ?v3_5, rfl, Or.inl ⟨by rfl, ?hy3_5⟩, fun _ _ _ h => h, ?rest3_5⟩
            case hy3_5 => (intro w' hSw; obtain ⟨s1, s2, s3, s4⟩ := hSw; go_simp; try with_reducible rfl)
            try dsimp only [Act.put]
            refine ⟨_, ?v3_6, rfl, Or.inl ⟨by rfl, ?hy3_6⟩, fun _ _ _ h => h, ?rest3_6⟩
            case hy3_6 => (intro w' hSw; obtain ⟨s1, s2, s3, s4⟩ := hSw; go_simp; try with_reducible rfl)
            try dsimp only [Act.put]
            refine ⟨_, ?v3_7, rfl, Or.inl ⟨by rfl, ?hy3_7⟩, fun _ _ _ h => h, ?rest3_7⟩
            case hy3_7 => (intro w' hSw; obtain ⟨s1, s2, s3, s4⟩ := hSw; go_simp; try with_reducible rfl)
            try dsimp only [Act.put]
            refine ⟨_, ?v3_8, rfl, Or.inl ⟨by rfl, ?hy3_8⟩, fun _ _ _ h => h, ?rest3_8⟩
            case hy3_8 => (intro w' hSw; obtain ⟨s1, s2, s3, s4⟩ := hSw; go_simp; try with_reducible rfl)
            try dsimp only [Act.put]
            refine ⟨_, ?v3_9, rfl, Or.inl ⟨by rfl, ?hy3_9⟩, fun _ _ _ h => h, ?rest3_9⟩
            case hy3_9 => (intro w' hSw; obtain ⟨s1, s2, s3, s4⟩ := hSw; go_simp; try with_reducible rfl)
            try dsimp only [Act.put]
            refine ⟨_, ?v3_10, rfl, Or.inl ⟨by rfl, ?hy3_10⟩, fun _ _ _ h => h, ?rest3_10⟩
            case hy3_10 => (intro w' hSw; obtain ⟨s1, s2, s3, s4⟩ := hSw; go_simp; try with_reducible rfl)
            try dsimp only [Act.put]
            refine ⟨_, ?v3_11, rfl, Or.inl ⟨by rfl, ?hy3_11⟩, fun _ _ _ h => h, ?rest3_11⟩
            case hy3_11 => (intro w' hSw; obtain ⟨s1, s2, s3, s4⟩ := hSw; go_simp; try with_reducible rfl)
            try dsimp only [Act.put]
            refine ⟨_, ?v3_12, rfl, Or.inl ⟨by rfl, ?hy3_12⟩, fun _ _ _ h => h, ?rest3_12⟩
            case hy3_12 => (intro w' hSw; obtain ⟨s1, s2, s3, s4⟩ := hSw; go_simp; try with_reducible rfl)
            try dsimp only [Act.put]
            refine ⟨_, ?v3_13, rfl, Or.inl ⟨by rfl, ?hy3_13⟩, fun _ _ _ h => h, ?rest3_13⟩
            case hy3_13 => (intro w' hSw; obtain ⟨s1, s2, s3, s4⟩ := hSw; go_simp; try with_reducible rfl)
            try dsimp only [Act.put]
            refine ⟨_, ?v3_14, rfl, Or.inl ⟨by rfl, ?hy3_14⟩, fun _ _ _ h => h, ?rest3_14⟩
            case hy3_14 => (intro w' hSw; obtain ⟨s1, s2, s3, s4⟩ := hSw; go_simp; try with_reducible rfl)
            try dsimp only [Act.put]
            refine reads_nil ?_
            refine wp_bare (fun K31 hK31 => ?_)
            go_simp
            refine hK31.out _ _ ⟨⟨HS3b.out.cell 3, HS3c.out.cell 0, HS3c.out.cell 1, HS3.out⟩, ?_⟩
            refine wp_bare (fun K32 hK32 => ?_)
            go_simp
            refine hK32.out _ _ ⟨⟨HS3e.out.cell 3, HS3f.out.cell 0, HS3f.out.cell 1, HS3d.out⟩, ?_⟩
            refine wp_bare (fun K33 hK33 => ?_)
            go_simp
            refine hK33.out _ _ ?_
            refine wp_bare (fun K34 hK34 => ?_)
            go_simp
            refine hK34.out _ _ ?_
            go_wp2_with fail
            have hst3 := HT3.out
            clear k3 f3 hV3 ha3 a3 g3 x30 x31 lg3 lx3 ln3
            have hq4 : (atL T (b : Nat)).length ≤ 1000000 := by have := nearL_len T (b : Nat); have := near_at_len T (b : Nat) _ rfl; omega
            have hM4 : ((((rowsOf n T).set a (nearL T (a : Nat) ++ [(b : Int)])).set b (nearL T (b : Nat) ++ [(a : Int)])).set (n + a) (atL T (a : Nat) ++ [(i : Int)]))[n + b]? = some (atL T (b : Nat)) := by rw [List.getElem?_set_ne (by omega), List.getElem?_set_ne (by omega), List.getElem?_set_ne (by omega)]; exact rowsOf_at T hbn
            obtain ⟨A4, c4, a4, _, r4⟩ := hst3.rws.ats hst3.len hbn hM4
            obtain ⟨q4, hl4⟩ : ∃ q, (atL T (b : Nat)).length = q := ⟨_, rfl⟩
            rw [hl4] at a4 r4 hq4
            have g4 : V3.cell? ⟨g, 3, none⟩ = some (.slice (some ⟨ab, 0, none⟩) n n) := hst3.g.cell 3
            have x40 : V3.cell? ⟨xb, 0, none⟩ = some (.int .i64 (a : Nat)) := hst3.x.cell 0
            have x41 : V3.cell? ⟨xb, 1, none⟩ = some (.int .i64 (b : Nat)) := hst3.x.cell 1
            have hs4 : W.heap.size ≤ V3.drew.heap.size := hst3.bel.size
            have happ4 := hst3.app r4 hq4 (i : Nat)
            obtain ⟨B4, e4, w4, ha4, hown4, hgrow4⟩ := happ4
            obtain ⟨k4, f4, hst4⟩ := hst3.at_step hbn (N := atL T (b : Nat) ++ [(i : Int)]) hM4 r4 a4 (by rw [List.length_append, hl4, intCells_app]; exact hown4) hgrow4
            obtain ⟨y41, y42, y43⟩ := hst3.at_S a4 (w' := (V3.alloc (.cells #[.int .i64 (i : Nat)] 3)).drew) (fun _ hb => (hb.alloc _).drewN 1)
            obtain ⟨y44, y45, y46⟩ := hst3.at_S a4 (w' := w4) (fun ht hb => hgrow4.whole (hb.drewN 1) (own_drewN r4 1) ht)
            have HS4 := Lib.hid y41; have HS4b := Lib.hid y42; have HS4c := Lib.hid y43; have HS4d := Lib.hid y44; have HS4e := Lib.hid y45; have HS4f := Lib.hid y46
            clear y41 y42 y43 y44 y45 y46
            obtain ⟨V4, hV4⟩ : ∃ V', w4.setCell ⟨ab, b, none⟩ (.slice B4 (q4 + 1) e4) = V' := ⟨_, rfl⟩
            rw [hV4] at hst4
            have HT4 := Lib.hid hst4
            have lg4 : g < V3.heap.size := hst3.g.lt; have lx4 : xb < V3.heap.size := hst3.x.lt; have ln4 : ab < V3.heap.size := World.block_lt_of_cell? _ _ a4
            clear hst3 hM4 r4 hl4 hown4 hgrow4 hst4
            refine region_reads [0,1,2,3,4,5,6,7,8,9,10,11,12,13,14] 15 16 17 18 (by kernel_rfl) (by kernel_rfl) (fun w' => w'.cell? ⟨g, 3, none⟩ = some (.slice (some ⟨ab, 0, none⟩) n n) ∧ w'.cell? ⟨xb, 0, none⟩ = some (.int .i64 (a : Nat)) ∧ w'.cell? ⟨xb, 1, none⟩ = some (.int .i64 (b : Nat)) ∧ w'.cell? ⟨ab, b, none⟩ = some (.slice A4 q4 c4)) ⟨g4, x40, x41, a4⟩ (by kernel_rfl) (by kernel_rfl) (by kernel_rfl) (by kernel_rfl) (by kernel_rfl) (by kernel_rfl) (by kernel_rfl) rfl rfl rfl rfl rfl rfl rfl rfl (by kernel_rfl) ?_
            refine ⟨_, ?v4_0, rfl, Or.inl ⟨by rfl, ?hy4_0⟩, fun _ _ _ h => h, ?rest4_0⟩
            case hy4_0 => (intro w' hSw; obtain ⟨s1, s2, s3, s4⟩ := hSw; go_simp; try with_reducible rfl)
            try dsimp only [Act.put]
            refine ⟨_, ?v4_1, rfl, Or.inl ⟨by rfl, ?hy4_1⟩, fun _ _ _ h => h, ?rest4_1⟩
            case hy4_1 => (intro w' hSw; obtain ⟨s1, s2, s3, s4⟩ := hSw; go_simp; try with_reducible rfl)
            try dsimp only [Act.put]
            refine ⟨_, ?v4_2, rfl, Or.inl ⟨by rfl, ?hy4_2⟩, fun _ _ _ h => h, ?rest4_2⟩
            case hy4_2 => (intro w' hSw; obtain ⟨s1, s2, s3, s4⟩ := hSw; go_simp; try with_reducible rfl)
            try dsimp only [Act.put]
            refine ⟨_, ?v4_3, rfl, Or.inl ⟨by rfl, ?hy4_3⟩, fun _ _ _ h => h, ?rest4_3⟩
            case hy4_3 => (intro w' hSw; obtain ⟨s1, s2, s3, s4⟩ := hSw; go_simp; try with_reducible rfl)
            try dsimp only [Act.put]
            refine ⟨_, ?v4_4, rfl, Or.inl ⟨by rfl, ?hy4_4⟩, fun _ _ _ h => h, ?rest4_4⟩
            case hy4_4 => (intro w' hSw; obtain ⟨s1, s2, s3, s4⟩ := hSw; go_simp; try with_reducible rfl)
            try dsimp only [Act.put]
            refine ⟨_, ?v4_5, rfl, Or.inl ⟨by rfl, ?hy4_5⟩, fun _ _ _ h => h, ?rest4_5⟩
            case hy4_5 => (intro w' hSw; obtain ⟨s1, s2, s3, s4⟩ := hSw; go_simp; try with_reducible rfl)
            try dsimp only [Act.put]
            refine ⟨_, ?v4_6, rfl, Or.inl ⟨by rfl, ?hy4_6⟩, fun _ _ _ h => h, ?rest4_6⟩
            case hy4_6 => (intro w' hSw; obtain ⟨s1, s2, s3, s4⟩ := hSw; go_simp; try with_reducible rfl)
            try dsimp only [Act.put]
            refine ⟨_, ?v4_7, rfl, Or.inl ⟨by rfl, ?hy4_7⟩, fun _ _ _ h => h, ?rest4_7⟩
            case hy4_7 => (intro w' hSw; obtain ⟨s1, s2, s3, s4⟩ := hSw; go_simp; try with_reducible rfl)
            try dsimp only [Act.put]
            refine ⟨_, ?v4_8, rfl, Or.inl ⟨by rfl, ?hy4_8⟩, fun _ _ _ h => h, ?rest4_8⟩
            case hy4_8 => (intro w' hSw; obtain ⟨s1, s2, s3, s4⟩ := hSw; go_simp; try with_reducible rfl)
            try dsimp only [Act.put]
            refine ⟨_, ?v4_9, rfl, Or.inl ⟨by rfl, ?hy4_9⟩, fun _ _ _ h => h, ?rest4_9⟩
            case hy4_9 => (intro w' hSw; obtain ⟨s1, s2, s3, s4⟩ := hSw; go_simp; try with_reducible rfl)
            try dsimp only [Act.put]
            refine ⟨_, ?v4_10, rfl, Or.inl ⟨by rfl, ?hy4_10⟩, fun _ _ _ h => h, ?rest4_10⟩
            case hy4_10 => (intro w' hSw; obtain ⟨s1, s2, s3, s4⟩ := hSw; go_simp; try with_reducible rfl)
            try dsimp only [Act.put]
            refine ⟨_, ?v4_11, rfl, Or.inl ⟨by rfl, ?hy4_11⟩, fun _ _ _ h => h, ?rest4_11⟩
            case hy4_11 => (intro w' hSw; obtain ⟨s1, s2, s3, s4⟩ := hSw; go_simp; try with_reducible rfl)
            try dsimp only [Act.put]
            refine ⟨_, ?v4_12, rfl, Or.inl ⟨by rfl, ?hy4_12⟩, fun _ _ _ h => h, ?rest4_12⟩
            case hy4_12 => (intro w' hSw; obtain ⟨s1, s2, s3, s4⟩ := hSw; go_simp; try with_reducible rfl)
            try dsimp only [Act.put]
            refine ⟨_, ?v4_13, rfl, Or.inl ⟨by rfl, ?hy4_13⟩, fun _ _ _ h => h, ?rest4_13⟩
            case hy4_13 => (intro w' hSw; obtain ⟨s1, s2, s3, s4⟩ := hSw; go_simp; try with_reducible rfl)
            try dsimp only [Act.put]
            refine ⟨_, ?v4_14, rfl, Or.inl ⟨by rfl, ?hy4_14⟩, fun _ _ _ h => h, ?rest4_14⟩
            case hy4_14 => (intro w' hSw; obtain ⟨s1, s2, s3, s4⟩ := hSw; go_simp; try with_reducible rfl)
            try dsimp only [Act.put]
            refine reads_nil ?_
            refine wp_bare (fun K41 hK41 => ?_)
            go_simp
            refine hK41.out _ _ ⟨⟨HS4b.out.cell 3, HS4c.out.cell 0, HS4c.out.cell 1, HS4.out⟩, ?_⟩
            refine wp_bare (fun K42 hK42 => ?_)
            go_simp
            refine hK42.out _ _ ⟨⟨HS4e.out.cell 3, HS4f.out.cell 0, HS4f.out.cell 1, HS4d.out⟩, ?_⟩
            refine wp_bare (fun K43 hK43 => ?_)
            go_simp
            refine hK43.out _ _ ?_
            refine wp_bare (fun K44 hK44 => ?_)
            go_simp
            refine hK44.out _ _ ?_
            go_wp2_with fail
            have hst4 := HT4.out
            clear k4 f4 hV4 ha4 a4 g4 x40 x41 lg4 lx4 ln4
            have HST := Lib.hid hst4
            clear hst4
            go_wp2_with fail
            go_roundg (k - (i + 1))
            case rel =>
              have h4 := HST.out
              exact ⟨i + 1, HLT.out, rfl, by go_num, h4.g, h4.e, by rw [← HSN.out]; exact h4.rws, h4.bel⟩
            case measure => have := HLT.out; omega
          · obtain rfl : i = k := by omega
            have t3' : decide (i < i) = false := by simp
            have HFIN : Hid (∃ g', Value.pointer (some ⟨g, 0, none⟩) = .pointer (some ⟨g', 0, none⟩) ∧ GraphOwn wr base g' L (sortE E) ∧ Below W.heap.size W wr) := Lib.hid (by
              obtain ⟨us, r1, r2, r3⟩ := hR
              rw [List.take_of_length_le (by rw [HSL.out]; omega)] at r3
              refine ⟨g, rfl, ⟨A, c, eb, nb, ab, us, ?_, ?_, ?_, ?_, ?_, ?_, by omega, by omega, by omega, by omega⟩, hB⟩
              · rw [HSS.out, HSL.out, HN.out]; exact hG
              · have := own_below HO.out hB (Nat.le_refl _); rw [HN.out]; exact this
              · rw [HSS.out]; exact hE
              · rw [HN.out]; exact r1
              · rw [HN.out]; exact r2
              · rw [HSS.out, HN.out]
                exact ⟨r3.len, fun j u M hu hM => own_base (r3.row j u M hu hM) hb, r3.apart⟩)
            clear hlt hG hE hR hB
            go_wp2_with fail
            go_ret
            obtain ⟨g', e1, e2, e3⟩ := HFIN.out
            exact ⟨g', by rw [← e1]; rfl, e2, e3⟩
end Go.Proofs.YtnjkjgmnnmgngaaGreatDoor
