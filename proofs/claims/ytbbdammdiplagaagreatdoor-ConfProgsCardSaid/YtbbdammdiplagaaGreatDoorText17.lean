/- prog: Text. -/
import Derived.Test.YtbbdammdiplagaaGreatDoorStrs17
import Derived.Test.YtbbdammdiplagaaGreatDoorPg17a
import Derived.Test.YtbbdammdiplagaaGreatDoorReadZ
namespace Go.Proofs.YtbbdammdiplagaaGreatDoor
open Go.RowKit

theorem nameB_len (k : Int) : (nameB k).length ≤ 6 := by
  by_cases h : 1 ≤ k ∧ k ≤ 8
  · rcases kind8 h.1 h.2 with rfl | rfl | rfl | rfl | rfl | rfl | rfl | rfl <;> decide
  · rw [nameB_no (by omega)]; simp
theorem opT_len {o : Int × Int} (h : 0 ≤ o.2 ∧ o.2 < 1000000) : (opT o).length ≤ 13 := by
  have h1 := nameB_len o.1
  have h2 := dec_len6 (n := o.2.toNat) (by omega)
  unfold opT decI
  rw [List.length_append]
  split
  · rw [List.length_cons]; omega
  · simp; omega
set_option maxRecDepth 100000 in
set_option maxHeartbeats 4000000 in
theorem progText_any {w : World} {v : Value} {O : List (Int × Int)} (hg : GT w) (hO : EdgesV w v O) (k1 : O.length ≤ 10000) (hs : ∀ o ∈ O, 0 ≤ o.2 ∧ o.2 < 1000000) :
    Calls Tryz.prog 18 #[v] w fun e w' => e = .returned (.string (str (progT O))) ∧ Below w.heap.size w w' := by
  have HG := Lib.hid hg; have HSM := Lib.hid hs
  obtain ⟨Ao, co, rfl⟩ := hO.form
  obtain ⟨n, hn⟩ : ∃ n, O.length = n := ⟨_, rfl⟩
  rw [hn] at hO k1 ⊢
  have hst := StrsTo.made w n (fun i => opT (O.getD i (0, 0)))
  have hb1 : Below w.heap.size w (w.alloc (.cells (madeCells #[.string ⟨#[]⟩] n) 9)) := (Below.refl _ _).alloc (Nat.le_refl _) _
  have mk := make_strs n w (by omega)
  obtain ⟨w1, hw1⟩ : ∃ W, w.alloc (.cells (madeCells #[.string ⟨#[]⟩] n) 9) = W := ⟨_, rfl⟩
  obtain ⟨sb, hsb⟩ : ∃ g, w.heap.size = g := ⟨_, rfl⟩
  rw [hw1] at hst hb1 mk
  rw [hsb] at hst mk
  have HO := Lib.hid hO; have HN := Lib.hid hn; have HB1 := Lib.hid hb1; have HST := Lib.hid hst; have HSB := Lib.hid hsb
  have HNM := Lib.hid (fun k W => name_any k W); have HCT := Lib.hid (fun k W => counts_any k W)
  clear hg hO hn hs hst hb1 hw1 hsb
  go_enter Tryz.func18, Tryz.ntmps18
  go_wp2_with fail
  go_loopg [11] n (fun g y wr => ∃ k, k ≤ n ∧ g = n - k ∧ y = .int .i64 (k : Nat) ∧ StrsTo wr sb n k (fun i => opT (O.getD i (0, 0))) ∧ Below w.heap.size w wr)
  case atStart => exact ⟨0, Nat.zero_le _, rfl, rfl, HST.out, HB1.out⟩
  case round =>
    obtain ⟨k, hk, rfl, rfl, hS, hB⟩ := hrel
    by_cases hlt : k < n
    · have hkE : k < O.length := by rw [HN.out]; exact hlt
      obtain ⟨b, off, rfl, d0, d1⟩ := (HO.out.below hB (Nat.le_refl _)).pos (i := k) hkE
      obtain ⟨o, ho⟩ : ∃ o, O.getD k (0, 0) = o := ⟨_, rfl⟩
      have hsm := HSM.out o (by rw [← ho]; exact getD_memE hkE)
      rw [ho] at d0 d1
      obtain ⟨a, q'⟩ := o
      obtain ⟨q, rfl⟩ : ∃ q : Nat, q' = q := ⟨q'.toNat, by simp only at hsm; omega⟩
      simp only at d0 d1 hsm
      have t3 : decide (k < n) = true := decide_eq_true hlt
      have j1 : (k : Int) < n := by omega
      have j2 : (0 : Int) ≤ k := by omega
      have hb6 : Below w.heap.size w (wr.alloc (.cells #[.int .i64 a, .int .i64 q] 44)) := hB.alloc hB.size _
      have hG6 := Whole.new wr 44 #[.int .i64 a, .int .i64 q]
      have hS6 := hS.below ((Below.refl wr.heap.size wr).alloc (Nat.le_refl _) (.cells #[.int .i64 a, .int .i64 q] 44))
      have htg := hS.lt
      obtain ⟨w6, hw6⟩ : ∃ W, wr.alloc (.cells #[.int .i64 a, .int .i64 q] 44) = W := ⟨_, rfl⟩
      obtain ⟨gb, hgb⟩ : ∃ g, wr.heap.size = g := ⟨_, rfl⟩
      rw [hw6] at hb6 hG6 hS6
      rw [hgb] at hG6 htg
      obtain ⟨⟨u0, cS⟩, fS⟩ := hS6.slot hlt
      obtain ⟨s0, hs0⟩ : ∃ s, str (nameB a) = s := ⟨_, rfl⟩
      obtain ⟨cb, hcb⟩ : ∃ z, countsB a = z := ⟨_, rfl⟩
      have HN6 := HNM.out a w6
      rw [hs0] at HN6
      have HN6 := Lib.hid HN6
      have hS7 := hS6.set (Nat.le_refl k) (.string s0)
      have hc7 := hS6.now hlt (.string s0)
      have hG7 := hG6.other (p := ⟨sb, k, none⟩) (by show gb ≠ sb; omega) (.string s0)
      have hb7 := hb6.setCell (p := ⟨sb, k, none⟩) (by have := HSB.out; show w.heap.size ≤ sb; omega) (.string s0)
      have hz0 : s0.size ≤ 6 := by rw [← hs0, str_size]; exact nameB_len a
      have HOT : Hid (opT (O.getD k (0, 0)) = nameB a ++ (if cb = true then 32 :: Lib.decDigits q else [])) := Lib.hid (by rw [ho, ← hcb]; unfold opT decI; rw [Int.toNat_natCast])
      have e0 : w6.cell? ⟨gb, 0, none⟩ = some (.int .i64 a) := hG6.cell 0
      have e1 : w6.cell? ⟨gb, 1, none⟩ = some (.int .i64 q) := hG6.cell 1
      have HLT := Lib.hid hlt; have HW6 := Lib.hid hw6; have HGB := Lib.hid hgb; have HTG := Lib.hid htg; have HS0 := Lib.hid hs0; have HCB := Lib.hid hcb; have HS7 := Lib.hid hS7; have HC7 := Lib.hid hc7; have HG7 := Lib.hid hG7; have HB7 := Lib.hid hb7; have HQ := Lib.hid hsm.2
      clear hkE ho hsm hlt hS hB hb6 hG6 hS6 htg hw6 hgb hs0 hcb hS7 hc7 hG7 hb7
      go_upto_region 5 with fail
      rw [HW6.out, HGB.out]
      go_wp2_with fail
      refine HN6.out.mono ?_; rintro e w8 ⟨rfl, hw⟩; obtain rfl := hw.symm
      clear hw
      have g0 : (w6.setCell ⟨sb, k, none⟩ (.string s0)).cell? ⟨gb, 0, none⟩ = some (.int .i64 a) := HG7.out.cell 0
      have g1 : (w6.setCell ⟨sb, k, none⟩ (.string s0)).cell? ⟨gb, 1, none⟩ = some (.int .i64 q) := HG7.out.cell 1
      have g2 := HC7.out.1
      have g3 := HC7.out.2
      obtain ⟨w7, hw7⟩ : ∃ W, w6.setCell ⟨sb, k, none⟩ (.string s0) = W := ⟨_, rfl⟩
      rw [hw7] at g0 g1 g2 g3 HS7 HG7 HB7
      have HW7 := Lib.hid hw7
      clear hw7 HC7
      go_upto_region 6 with fail
      rw [HW7.out]
      clear e0 e1 cS fS
      go_wp2_with fail
      have HCC := HCT.out a w7
      rw [HCB.out] at HCC
      have HCC := Lib.hid HCC
      refine HCC.out.mono ?_; rintro e w8 ⟨rfl, hw⟩; obtain rfl := hw.symm
      clear hw
      cases cb with
      | false =>
        have HE : Hid (s0 = str (opT (O.getD k (0, 0)))) := Lib.hid (by rw [HOT.out, if_neg (by decide), List.append_nil, HS0.out])
        have HS8 := Lib.hid (HS7.out.more HLT.out (by rw [g2, HE.out]))
        clear g0 g1 g2 g3
        go_wp2_with fail
        go_roundg (n - (k + 1))
        case rel => exact ⟨k + 1, HLT.out, rfl, by go_num, HS8.out, HB7.out⟩
        case measure => have := HLT.out; omega
      | true =>
        obtain ⟨D, hD⟩ : ∃ D, str (Lib.decDigits q) = D := ⟨_, rfl⟩
        have z1 : D.size ≤ 6 := by rw [← hD, str_size]; exact dec_len6 (by have := HQ.out; omega)
        have HSS : Hid (s0 ++ ((⟨#[32]⟩ : ByteArray) ++ D) = str (opT (O.getD k (0, 0)))) := Lib.hid (by
          rw [HOT.out, if_pos rfl, ← hD, ← HS0.out, show (⟨#[32]⟩ : ByteArray) = str [32] from rfl, str_append, str_append]; simp)
        have HIT : Hid (∀ (W : World), Below w7.heap.size w7 W → Calls Tryz.prog 31 #[.int .i64 q] W fun e w' => e = .returned (.string D) ∧ Below w7.heap.size w7 w') := Lib.hid (fun W hb => by
          rw [← hD]
          exact (itoa_at q (by have := HQ.out; omega) W ((HG.out.below HB7.out (Nat.le_refl _)).below hb (Nat.le_refl _))).mono fun e w' ⟨h1, h2⟩ => ⟨h1, hb.trans (h2.mono hb.size)⟩)
        have KS := Lib.hid (fun (W : World) (hb : Below w7.heap.size w7 W) => (show W.cell? ⟨gb, 0, none⟩ = some (.int .i64 a) ∧ W.cell? ⟨gb, 1, none⟩ = some (.int .i64 q) from
          ⟨(hb.cell (p := ⟨gb, 0, none⟩) HG7.out.lt).trans g0, (hb.cell (p := ⟨gb, 1, none⟩) HG7.out.lt).trans g1⟩))
        have KS2 := Lib.hid (fun (W : World) (u : Value) (hb : Below w7.heap.size w7 W) => (show (W.setCell ⟨sb, k, none⟩ u).cell? ⟨gb, 0, none⟩ = some (.int .i64 a) ∧ (W.setCell ⟨sb, k, none⟩ u).cell? ⟨gb, 1, none⟩ = some (.int .i64 q) from
          have h := (HG7.out.below hb HG7.out.lt).other (p := ⟨sb, k, none⟩) (by have := HTG.out; show gb ≠ sb; omega) u
          ⟨h.cell 0, h.cell 1⟩))
        have hsl := HS7.out.lt
        have HKT := Lib.hid (fun (W : World) (hb : Below w7.heap.size w7 W) => (show W.cell? ⟨sb, k, none⟩ = some (.string s0) ∧ W.frozen? ⟨sb, k, none⟩ = false from
          ⟨(hb.cell (p := ⟨sb, k, none⟩) hsl).trans g2, ((HS7.out.below hb).slot HLT.out).2⟩))
        have n1 : ¬ 9223372036854775807 < 1 + D.size := by omega
        have n2 : ¬ 9223372036854775807 < (⟨#[32]⟩ : ByteArray).size + D.size := by show ¬ _ < 1 + _; omega
        have n3 : ¬ 9223372036854775807 < s0.size + (1 + D.size) := by omega
        have n4 : ¬ 9223372036854775807 < s0.size + ((⟨#[32]⟩ : ByteArray) ++ D).size := by rw [ByteArray.size_append]; show ¬ _ < _ + (1 + _); omega
        clear hD hsl HCC
        go_upto_region 7 with fail
        refine region_reads54 [0,1,2,3,4,5] 6 7 8 9 10 (by kernel_rfl) (by kernel_rfl) (fun W => W.cell? ⟨gb, 1, none⟩ = some (.int .i64 q) ∧ W.cell? ⟨sb, k, none⟩ = some (.string s0)) ⟨g1, g2⟩ (by kernel_rfl) (by kernel_rfl) (by kernel_rfl) (by kernel_rfl) (by kernel_rfl) (by kernel_rfl) (by kernel_rfl) (by kernel_rfl) rfl rfl rfl rfl rfl rfl rfl rfl rfl rfl (by kernel_rfl) ?_
        refine ⟨_, ?va0, rfl, Or.inl ⟨by rfl, ?hya0⟩, fun _ _ _ h => h, ?resta0⟩
        case hya0 => (intro w' hSw; obtain ⟨s1, s2⟩ := hSw; go_simp; try with_reducible rfl)
        try dsimp only [Act.put]
        refine ⟨_, ?va1, rfl, Or.inl ⟨by rfl, ?hya1⟩, fun _ _ _ h => h, ?resta1⟩
        case hya1 => (intro w' hSw; obtain ⟨s1, s2⟩ := hSw; go_simp; try with_reducible rfl)
        try dsimp only [Act.put]
        refine ⟨_, ?va2, rfl, Or.inl ⟨by rfl, ?hya2⟩, fun _ _ _ h => h, ?resta2⟩
        case hya2 => (intro w' hSw; obtain ⟨s1, s2⟩ := hSw; go_simp; try with_reducible rfl)
        try dsimp only [Act.put]
        refine ⟨_, ?va3, rfl, Or.inl ⟨by rfl, ?hya3⟩, fun _ _ _ h => h, ?resta3⟩
        case hya3 => (intro w' hSw; obtain ⟨s1, s2⟩ := hSw; go_simp; try with_reducible rfl)
        try dsimp only [Act.put]
        refine ⟨_, ?va4, rfl, Or.inl ⟨by rfl, ?hya4⟩, fun _ _ _ h => h, ?resta4⟩
        case hya4 => (intro w' hSw; obtain ⟨s1, s2⟩ := hSw; go_simp; try with_reducible rfl)
        try dsimp only [Act.put]
        refine ⟨_, ?va5, rfl, Or.inl ⟨by rfl, ?hya5⟩, fun _ _ _ h => h, ?resta5⟩
        case hya5 => (intro w' hSw; obtain ⟨s1, s2⟩ := hSw; go_simp; try with_reducible rfl)
        try dsimp only [Act.put]
        refine reads_nil ?_
        refine wp_bare (fun K11 hK11 => ?_)
        go_simp
        refine (HIT.out _ (below_drewN' (Below.refl _ _) 1)).mono ?_; rintro e' w8 ⟨rfl, hb8⟩
        obtain ⟨cS8, fS8⟩ := HKT.out _ hb8
        refine hK11.out _ _ ⟨⟨(KS.out _ hb8).2, cS8⟩, ?_⟩
        refine wp_bare (fun K12 hK12 => ?_)
        go_simp
        refine hK12.out _ _ ⟨⟨(KS.out _ hb8).2, cS8⟩, ?_⟩
        refine wp_bare (fun K13 hK13 => ?_)
        go_simp
        refine hK13.out _ _ ⟨⟨(KS.out _ hb8).2, cS8⟩, ?_⟩
        refine wp_bare (fun K14 hK14 => ?_)
        go_simp
        refine hK14.out _ _ ?_
        refine wp_bare (fun K15 hK15 => ?_)
        go_simp
        refine hK15.out _ _ ?_
        have HT9 := Lib.hid ((HS7.out.below hb8).put HLT.out HSS.out)
        have HB9 := Lib.hid ((HB7.out.trans (hb8.mono HB7.out.size)).setCell (p := ⟨sb, k, none⟩) (by have := HSB.out; show w.heap.size ≤ sb; omega) (.string (s0 ++ (⟨#[32]⟩ ++ D))))
        clear hb8 n1 n2 n3 n4 cS8 fS8 z1 g0 g1 g2 g3 d0 d1
        go_wp2_with fail
        go_roundg (n - (k + 1))
        case rel => exact ⟨k + 1, HLT.out, rfl, by go_num, HT9.out, HB9.out⟩
        case measure => have := HLT.out; omega
    · obtain rfl : k = n := by omega
      have t5 : decide (k < k) = false := by simp
      have e2 : (List.range k).map (fun i => opT (O.getD i (0, 0))) = O.map opT := by rw [← HN.out]; exact range_map_getD opT (0, 0) O
      have hA := hS.all
      rw [e2] at hA
      have l2 : (joinB 59 (O.map opT)).length ≤ 14 * k := by
        have := joinB_le (b := 59) (P := O.map opT) (c := 13) (fun p hp => by
          obtain ⟨x, hx, rfl⟩ := List.mem_map.1 hp
          exact opT_len (HSM.out x hx))
        rw [List.length_map, HN.out] at this
        exact this
      have J1 := join_any (O.map opT) _ wr hA (by rw [List.length_map, HN.out]; omega) (by omega)
      change Calls _ _ _ _ (fun e w' => e = .returned (.string (str (progT O))) ∧ Below wr.heap.size wr w') at J1
      obtain ⟨s1, hs1⟩ : ∃ s, str (progT O) = s := ⟨_, rfl⟩
      rw [hs1] at J1
      have HJ1 := Lib.hid J1; have HB := Lib.hid hB; have HS1 := Lib.hid hs1
      clear e2 hA l2 J1 hs1 hlt hS hB
      go_wp2_with fail
      refine HJ1.out.mono ?_; rintro e w7 ⟨rfl, hb7⟩
      have HB7 := Lib.hid (HB.out.trans (hb7.mono HB.out.size))
      clear hb7
      go_wp2_with fail
      go_ret
      exact ⟨by rw [HS1.out]; rfl, HB7.out⟩
end Go.Proofs.YtbbdammdiplagaaGreatDoor
