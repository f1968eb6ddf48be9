/- LoadBytes: the law. -/
import Derived.Test.YtnjkjgmnnmgngaaGreatDoorJ14
namespace Go.Proofs.YtnjkjgmnnmgngaaGreatDoor
open Go.RowKit

theorem mark_take (b : List UInt8) : markB.isPrefixOf b = true ↔ 4 ≤ b.length ∧ b.take 4 = [70, 87, 82, 75] := by
  rw [List.isPrefixOf_iff_prefix]
  constructor
  · rintro ⟨t, rfl⟩
    exact ⟨by simp [markB], by simp [markB]⟩
  · rintro ⟨_, h⟩
    exact ⟨b.drop 4, by show [70, 87, 82, 75] ++ _ = _; rw [← h, List.take_append_drop]⟩
/-- The first four bytes as text. -/
theorem head_four {W : World} {A : Option Addr} {n c : Nat} {b : List UInt8} (h : BytesV W (.slice A n c) b) (hn : b.length = n) (h4 : 4 ≤ b.length) : ∃ b0 off, A = some ⟨b0, off, none⟩ ∧ (convert 22 9 (.slice (some ⟨b0, off, none⟩) 4 c)).run Tryz.prog W = .ok (.string (str (b.take 4))) W := by
  obtain ⟨_, hcap, b0, off, rfl, hc⟩ := h.cells (by omega)
  refine ⟨b0, off, rfl, ?_⟩
  have kc := run_convert_bytes_back (P := Tryz.prog) W 22 9 5 ⟨b0, off, none⟩ c (b.take 4) Tryz.underlying22 Tryz.underlying5 Tryz.underlying9 (fun j hj => by
    have hj4 : j < 4 := by rw [List.length_take] at hj; omega
    have e2 : (⟨b0, off, none⟩ : Addr).add j = ⟨b0, off + j, none⟩ := by unfold Addr.add; split <;> simp_all
    rw [e2, hc j (by omega)]
    simp [List.getD, show j < b.length by omega])
  rw [show (b.take 4).length = 4 by rw [List.length_take]; omega] at kc
  exact kc
set_option maxRecDepth 100000 in
set_option maxHeartbeats 4000000 in
theorem bytesFar_law (b : List UInt8) (v : Value) (w : World) (hg : GT w) (hv : BytesV w v b) (hf : 600 < b.length) :
    Calls Tryz.prog 3 #[v] w fun e w' => e = .returned (.bool true) ∧ Below w.heap.size w w' := by
  have AL := Lib.hid (alive5 w hg)
  obtain ⟨A, c, rfl, _⟩ := hv.form
  obtain ⟨n, hn⟩ : ∃ n, b.length = n := ⟨_, rfl⟩
  rw [hn] at hf ⊢
  have t1 : decide (600 < n) = true := decide_eq_true hf
  have t1' : decide ((600 : Int) < (n : Int)) = true := decide_eq_true (by omega)
  clear hg hv hn hf
  go_enter Tryz.func3, Tryz.ntmps3
  go_wp2_with fail
  refine AL.out.mono ?_; rintro e w1 ⟨rfl, hb1⟩
  have HB1 := Lib.hid hb1
  clear hb1
  go_wp2_with fail
  go_ret
  exact ⟨rfl, HB1.out⟩
set_option maxRecDepth 100000 in
set_option maxHeartbeats 8000000 in
theorem bytesNear_law (b : List UInt8) (v : Value) (w : World) (hg : GT w) (hv : BytesV w v b) (hf : b.length ≤ 600) :
    Calls Tryz.prog 3 #[v] w fun e w' => e = .returned (.bool true) ∧ Below w.heap.size w w' := by
  have AL := Lib.hid (alive5 w hg)
  have HG := Lib.hid hg
  obtain ⟨A, c, rfl, hcap⟩ := hv.form
  have HV := Lib.hid hv
  obtain ⟨n, hn⟩ : ∃ n, b.length = n := ⟨_, rfl⟩
  have HN := Lib.hid hn
  have BY : Hid (∀ W, Below w.heap.size w W → Calls Tryz.prog 8 #[.slice A n c] W (BytesTo b W)) := Lib.hid (fun W hb => by
    have h := bytes_any b _ W (hg.below hb (Nat.le_refl _)).et (hv.below hb (Nat.le_refl _)) (by omega)
    rwa [hn] at h)
  have AN : Hid (∀ W, Below w.heap.size w W → Calls Tryz.prog 9 #[.slice A n c] W (fun e w' => if markB.isPrefixOf b = true then BytesTo b W e w' else LoadTo b W e w')) := Lib.hid (fun W hb => by
    have h := any_any b _ W (hg.below hb (Nat.le_refl _)) (hv.below hb (Nat.le_refl _)) (by omega)
    rwa [hn] at h)
  rw [hn] at hf hcap ⊢
  have t1 : decide (600 < n) = false := decide_eq_false (by omega)
  have t1' : decide ((600 : Int) < (n : Int)) = false := decide_eq_false (by omega)
  have HCAP := Lib.hid hcap; have HF := Lib.hid hf
  clear hg hv hn hcap
  go_enter Tryz.func3, Tryz.ntmps3
  go_wp2_with fail
  refine AL.out.mono ?_; rintro e w1 ⟨rfl, hb1⟩
  have HB1 := Lib.hid hb1
  have BY1 := Lib.hid (BY.out w1 hb1)
  clear hb1 hf
  go_wp2_with fail
  refine BY1.out.mono ?_; rintro e w2 ⟨hb2, ⟨hno, u, rfl, hfa⟩ | ⟨d, g, hyes, rfl, hgo⟩⟩
  · have hb02 := HB1.out.trans (hb2.mono HB1.out.size)
    have HB2 := Lib.hid hb02
    have AN2 := Lib.hid (AN.out w2 hb02)
    have HNO := Lib.hid hno
    have CO : Hid (∀ W, Below w2.heap.size w2 W → Calls Tryz.prog 10 #[u] W fun e w' => e = .returned (.int .i64 11) ∧ Below W.heap.size W w') := Lib.hid (fun W hb => code_f7 (hfa.below hb (Nat.le_refl _)) (HG.out.below (hb02.trans (hb.mono hb02.size)) (Nat.le_refl _)).et)
    have AT : Hid (∀ W, Below w2.heap.size w2 W → Calls Tryz.prog 11 #[u] W fun e w' => e = .returned (.int .i64 0) ∧ Below W.heap.size W w') := Lib.hid (fun W hb => at_f (hfa.below hb (Nat.le_refl _)) (HG.out.below (hb02.trans (hb.mono hb02.size)) (Nat.le_refl _)).et)
    obtain ⟨fb, rfl⟩ := hfa.form
    clear hb2 hno hfa hb02
    go_wp2_with fail
    have ANX : Hid (Calls Tryz.prog 9 #[.slice A n c] w2 (fun e w' => (markB.isPrefixOf b = true ∧ (∃ f2, e = .returned (.tuple #[.pointer none, .iface 60 (.pointer (some ⟨f2, 0, none⟩))]) ∧ FaultAt 11 0 w' (.iface 60 (.pointer (some ⟨f2, 0, none⟩)))) ∧ Below w2.heap.size w2 w') ∨ (markB.isPrefixOf b = false ∧ (∃ x y, e = .returned (.tuple #[x, y])) ∧ Below w2.heap.size w2 w'))) := Lib.hid (AN2.out.mono fun e w' hto => by
      by_cases hmk : markB.isPrefixOf b = true
      · rw [if_pos hmk] at hto
        obtain ⟨hb3, ⟨_, u2, rfl, hf2⟩ | ⟨d, g, hyes, _⟩⟩ := hto
        case inr =>
          rw [HNO.out] at hyes
          cases hyes
        obtain ⟨f2, rfl⟩ := hf2.form
        exact Or.inl ⟨hmk, ⟨f2, rfl, hf2⟩, hb3⟩
      · rw [if_neg hmk] at hto
        obtain ⟨hb3, ⟨p, u2, _, rfl, _⟩ | ⟨d, g, _, _, rfl, _⟩⟩ := hto
        · exact Or.inr ⟨(Bool.not_eq_true _).mp hmk, ⟨_, _, rfl⟩, hb3⟩
        · exact Or.inr ⟨(Bool.not_eq_true _).mp hmk, ⟨_, _, rfl⟩, hb3⟩)
    refine ANX.out.mono ?_; rintro e w3 (⟨hmk, ⟨f2, rfl, hf2⟩, hb3⟩ | ⟨hmk, ⟨x, y, rfl⟩, hb3⟩)
    · obtain ⟨h4, ht4⟩ := (mark_take b).1 hmk
      have hb03 := HB2.out.trans (hb3.mono HB2.out.size)
      have kc := head_four (HV.out.below hb03 (Nat.le_refl _)) rfl h4
      obtain ⟨b0, off, rfl, kc⟩ := kc
      have hcc := HCAP.out
      rw [HN.out] at h4
      have c4 : 4 ≤ c := by omega
      have t4 : decide (4 ≤ n) = true := decide_eq_true h4
      have t4' : decide ((4 : Int) ≤ (n : Int)) = true := decide_eq_true (by omega)
      have z4 : ((str (b.take 4)).toList == [70, 87, 82, 75]) = true := by rw [str_toList, ht4]; rfl
      obtain ⟨s4, hs4⟩ : ∃ s, str (b.take 4) = s := ⟨_, rfl⟩
      rw [hs4] at kc z4
      have CO3 := Lib.hid (CO.out w3 hb3)
      have AT4 := Lib.hid (fun W (h : Below w3.heap.size w3 W) => AT.out W (hb3.trans (h.mono hb3.size)))
      have HB3 := Lib.hid hb03
      have C2 := Lib.hid (fun W (h : Below w3.heap.size w3 W) => code_f7 (hf2.below h (Nat.le_refl _)) (HG.out.below (hb03.trans (h.mono hb03.size)) (Nat.le_refl _)).et)
      clear hmk h4 ht4 hb03 hs4 hb3 hf2 hcc
      go_wp2_with fail
      refine CO3.out.mono ?_; rintro e w4 ⟨rfl, hb4⟩
      have HB4 := Lib.hid hb4
      have AT4W := Lib.hid (AT4.out w4 hb4)
      clear hb4
      go_wp2_with fail
      refine AT4W.out.mono ?_; rintro e w5 ⟨rfl, hb5⟩
      have hb35 := HB4.out.trans (hb5.mono HB4.out.size)
      have HB5 := Lib.hid hb35
      have C2W := Lib.hid (C2.out w5 hb35)
      clear hb5 hb35
      go_wp2_with fail
      refine C2W.out.mono ?_; rintro e w6 ⟨rfl, hb6⟩
      have HB6 := Lib.hid (HB3.out.trans ((HB5.out.trans (hb6.mono HB5.out.size)).mono HB3.out.size))
      clear hb6
      go_wp2_with fail
      go_ret
      exact ⟨rfl, HB6.out⟩
    · have hb03 := HB2.out.trans (hb3.mono HB2.out.size)
      have HB3 := Lib.hid hb03
      have CO3 := Lib.hid (CO.out w3 hb3)
      have AT4 := Lib.hid (fun W (h : Below w3.heap.size w3 W) => AT.out W (hb3.trans (h.mono hb3.size)))
      by_cases h4 : 4 ≤ n
      · have kc := head_four (HV.out.below hb03 (Nat.le_refl _)) rfl (by rw [HN.out]; exact h4)
        obtain ⟨b0, off, rfl, kc⟩ := kc
        have hcc := HCAP.out
        have c4 : 4 ≤ c := by omega
        have t4 : decide (4 ≤ n) = true := decide_eq_true h4
        have t4' : decide ((4 : Int) ≤ (n : Int)) = true := decide_eq_true (by omega)
        have z4 : ((str (b.take 4)).toList == [70, 87, 82, 75]) = false := by
          rw [str_toList, beq_eq_false_iff_ne]
          intro h
          rw [(mark_take b).2 ⟨by rw [HN.out]; exact h4, h⟩] at hmk
          cases hmk
        obtain ⟨s4, hs4⟩ : ∃ s, str (b.take 4) = s := ⟨_, rfl⟩
        rw [hs4] at kc z4
        clear hmk hb03 hs4 hb3 hcc
        go_wp2_with fail
        refine CO3.out.mono ?_; rintro e w4 ⟨rfl, hb4⟩
        have HB4 := Lib.hid hb4
        have AT4W := Lib.hid (AT4.out w4 hb4)
        clear hb4
        go_wp2_with fail
        refine AT4W.out.mono ?_; rintro e w5 ⟨rfl, hb5⟩
        have HB5 := Lib.hid (HB3.out.trans ((HB4.out.trans (hb5.mono HB4.out.size)).mono HB3.out.size))
        clear hb5
        go_wp2_with fail
        go_ret
        exact ⟨rfl, HB5.out⟩
      · have t4 : decide (4 ≤ n) = false := decide_eq_false h4
        have t4' : decide ((4 : Int) ≤ (n : Int)) = false := decide_eq_false (by omega)
        clear hmk hb03 hb3 h4
        go_wp2_with fail
        refine CO3.out.mono ?_; rintro e w4 ⟨rfl, hb4⟩
        have HB4 := Lib.hid hb4
        have AT4W := Lib.hid (AT4.out w4 hb4)
        clear hb4
        go_wp2_with fail
        refine AT4W.out.mono ?_; rintro e w5 ⟨rfl, hb5⟩
        have HB5 := Lib.hid (HB3.out.trans ((HB4.out.trans (hb5.mono HB4.out.size)).mono HB3.out.size))
        clear hb5
        go_wp2_with fail
        go_ret
        exact ⟨rfl, HB5.out⟩
  · obtain ⟨hnf, hlen, hmk⟩ := bytes_some hyes
    obtain ⟨L, E⟩ := d
    simp only at hnf hlen hgo
    obtain ⟨hs1, hs2⟩ := sort_again hnf
    rw [HN.out, pack_len] at hlen
    have hsl := sortE_len E
    have hf6 := HF.out
    have hb02 := HB1.out.trans (hb2.mono HB1.out.size)
    have HB2 := Lib.hid hb02
    obtain ⟨S, hS⟩ : ∃ S, sortE E = S := ⟨_, rfl⟩
    rw [hS] at hs1 hs2 hgo hsl
    have HLS : Hid ((packB L S).length = n) := Lib.hid (by rw [pack_len, hlen, hsl])
    have HS2 := Lib.hid hs2
    have HGO := Lib.hid hgo
    have PK := Lib.hid (fun W (h : Below w2.heap.size w2 W) => loadPack_any _ L S W (hgo.below h (Nat.le_refl _)).tells (by omega) (by omega))
    have HBP := Lib.hid (bytes_pack hs1)
    have HYES := Lib.hid (show bytesG b = some ⟨L, E⟩ from hyes)
    have HSS := Lib.hid hS
    have hln : L.length ≤ 150 := by omega
    have hle : S.length ≤ 150 := by omega
    have HLN := Lib.hid hln; have HLE := Lib.hid hle
    have AN2 : Hid (∀ W, Below w2.heap.size w2 W → Calls Tryz.prog 9 #[.slice A n c] W (BytesTo b W)) := Lib.hid (fun W hb => by
      have h := AN.out W (hb02.trans (hb.mono hb02.size))
      exact h.mono fun e w' k => by rw [if_pos hmk] at k; exact k)
    have PK2 := Lib.hid (PK.out w2 (Below.refl _ _))
    clear hb2 hyes hgo hnf hlen hmk hs1 hs2 hsl hf6 hb02 hS hln hle
    go_wp2_with fail
    refine PK2.out.mono ?_; rintro e w3 ⟨v3, rfl, ho3, hb3⟩
    have HB3 := Lib.hid hb3
    have B3 := Lib.hid (bytes_any (packB L S) v3 w3 (HG.out.below (HB2.out.trans (hb3.mono HB2.out.size)) (Nat.le_refl _)).et (own_bytesV ho3) (by rw [HLS.out]; have := HF.out; omega))
    obtain ⟨A3, c3, rfl⟩ := own_form ho3
    clear ho3 hb3
    go_wp2_with fail
    refine B3.out.mono ?_; rintro e w4 ⟨hb4, ⟨hno, _⟩ | ⟨d, g4, hd, rfl, hgo4⟩⟩
    · rw [HBP.out] at hno
      cases hno
    rw [HBP.out] at hd
    obtain rfl := Option.some.inj hd
    simp only at hgo4
    rw [HS2.out] at hgo4
    have hb24 := HB3.out.trans (hb4.mono HB3.out.size)
    have HB4 := Lib.hid hb24; have HG4 := Lib.hid hgo4
    have AN4 := Lib.hid (AN2.out w4 hb24)
    clear hb4 hd hgo4 hb24
    go_wp2_with fail
    refine AN4.out.mono ?_; rintro e w5 ⟨hb5, ⟨hno, _⟩ | ⟨d, g5, hd, rfl, hgo5⟩⟩
    · rw [HYES.out] at hno
      cases hno
    rw [HYES.out] at hd
    obtain rfl := Option.some.inj hd
    simp only at hgo5
    rw [HSS.out] at hgo5
    have hb25 := HB4.out.trans (hb5.mono HB4.out.size)
    have SA4 := Lib.hid (same_any (HG4.out.below hb5 (Nat.le_refl _)) (HGO.out.below hb25 (Nat.le_refl _)) (by have := HLN.out; omega) (by have := HLN.out; omega) (by have := HLE.out; omega) (by have := HLE.out; omega))
    have SA5 := Lib.hid (fun W (h : Below w5.heap.size w5 W) => same_any (hgo5.below h (Nat.le_refl _)) (HGO.out.below (hb25.trans (h.mono hb25.size)) (Nat.le_refl _)) (by have := HLN.out; omega) (by have := HLN.out; omega) (by have := HLE.out; omega) (by have := HLE.out; omega))
    have HB5 := Lib.hid hb25
    clear hb5 hd hgo5 hb25
    have te : decide (L = L ∧ S = S) = true := decide_eq_true ⟨rfl, rfl⟩
    rw [te] at SA4
    have SA5' : Hid (∀ q, Calls Tryz.prog 13 #[.pointer (some ⟨g5, 0, none⟩), .pointer (some ⟨g, 0, none⟩)] (w5.drewN q) fun e w' => e = .returned (.bool true) ∧ ∃ q, w' = w5.drewN q) := Lib.hid (fun q => (SA5.out (w5.drewN q) (below_drewN' (Below.refl _ _) q)).mono fun e w' ⟨h1, q', h2⟩ => ⟨by rw [h1, te], q + q', by rw [h2, World.drewN_drewN]⟩)
    have PK5 := Lib.hid (fun q => PK.out (w5.drewN q) (below_drewN' HB5.out q))
    clear te
    go_wp2_with fail
    refine SA4.out.mono ?_; rintro e w6 ⟨rfl, q, hq⟩
    have S5 := Lib.hid (SA5'.out q)
    rw [← hq] at S5
    clear hq
    go_wp2_with fail
    refine S5.out.mono ?_; rintro e w7 ⟨rfl, q7, hq7⟩
    have P7 := Lib.hid (PK5.out q7)
    rw [← hq7] at P7
    have HB7 := Lib.hid (show Below w.heap.size w w7 by rw [hq7]; exact below_drewN' (HB2.out.trans (HB5.out.mono HB2.out.size)) q7)
    clear hq7
    go_wp2_with fail
    refine P7.out.mono ?_; rintro e w8 ⟨v8, rfl, ho8, hb8⟩
    obtain ⟨A8, c8, rfl⟩ := own_form ho8
    have HB8 := Lib.hid (HB7.out.trans (hb8.mono HB7.out.size))
    rw [HLS.out]
    clear ho8 hb8
    go_wp2_with fail
    go_ret
    exact ⟨rfl, HB8.out⟩
theorem bytes_law (b : List UInt8) (v : Value) (w : World) (hg : GT w) (hv : BytesV w v b) :
    Calls Tryz.prog 3 #[v] w fun e w' => e = .returned (.bool true) ∧ Below w.heap.size w w' := by
  rcases Nat.lt_or_ge 600 b.length with h | h
  · exact bytesFar_law b v w hg hv h
  · exact bytesNear_law b v w hg hv h
end Go.Proofs.YtnjkjgmnnmgngaaGreatDoor
