/- FaultTells: the walk. -/
import Derived.Test.YtoekepfppagbdaaDoorRefText
namespace Go.Proofs.YtoekepfppagbdaaDoor
open Go.RowKit Go.Extern.Stop Go.Stop Go.Extern

theorem xor_one_ne (c : Int) : bits .xor .i64 c 1 ≠ c := by
  intro h
  have e : bits .xor .i64 c 1 = IntKind.i64.wrap ((BitVec.ofInt 64 c ^^^ BitVec.ofInt 64 1).toNat : Int) := rfl
  rw [e] at h
  obtain ⟨x, hx⟩ : ∃ x, BitVec.ofInt 64 c = x := ⟨_, rfl⟩
  rw [hx] at h
  have hm := (x ^^^ BitVec.ofInt 64 1).isLt
  obtain ⟨m, hmm⟩ : ∃ m, (x ^^^ BitVec.ofInt 64 1).toNat = m := ⟨_, rfl⟩
  rw [hmm] at h hm
  have hc : (x.toNat : Int) = c % 18446744073709551616 := by
    rw [← hx, BitVec.toNat_ofInt]
    omega
  have h1 : m = x.toNat := by
    simp [IntKind.wrap, IntKind.bits, IntKind.signed] at h
    omega
  have h2 : x ^^^ BitVec.ofInt 64 1 = x := BitVec.eq_of_toNat_eq (by omega)
  have h3 : x ^^^ (x ^^^ BitVec.ofInt 64 1) = x ^^^ x := by rw [h2]
  rw [← BitVec.xor_assoc, BitVec.xor_self, BitVec.zero_xor] at h3
  exact absurd h3 (by decide)

set_option maxRecDepth 100000 in
set_option maxHeartbeats 4000000 in
theorem tells_law (c a : Int) (nm : ByteArray) (n : Nat) (S : Nat → ByteArray) (v : Value) (w : World) (hg : ErrT w) (hs : StrsV w v n S) (hlen : n ≤ 60 → (lead S n).length + nm.size ≤ 140737488355328) :
    Calls Tryd.prog 3 #[v, .int .i64 c, .int .i64 a, .string nm] w fun e w' => e = .returned (.bool true) ∧ Below w.heap.size w w' := by
  have HAL := Lib.hid (alive_ok w hg)
  have HS := Lib.hid hs
  obtain ⟨ao, cap, rfl⟩ := hs.form
  clear hs
  by_cases hn : n ≤ 60
  · have d1 : decide (60 < (n : Int)) = false := decide_eq_false (by omega)
    have HLEN := Lib.hid (hlen hn)
    clear hlen
    go_enter Tryd.func3, Tryd.ntmps3
    go_wp2_with fail
    refine HAL.out.mono ?_; rintro e w1 ⟨rfl, hb1⟩
    have HX := Lib.hid (made_any n S c a nm _ w1 (by omega) (HS.out.below hb1 (Nat.le_refl _)))
    go_wp2_with fail
    refine HX.out.mono ?_; rintro e w2 ⟨rfl, hX, hb2⟩
    have B2 := hb1.trans (hb2.mono hb1.size)
    have hg2 := hg.below B2 (Nat.le_refl _)
    have HE := Lib.hid hX
    obtain ⟨T1, x1, e1⟩ := mkV_form w1.heap.size n 0
    have WW := Lib.hid (fun W (h : Below w2.heap.size w2 W) => words_chain W (hg2.below h (Nat.le_refl _)) (show n ≤ 100000 by omega) (hX.below h (Nat.le_refl _)))
    have CC := Lib.hid (fun W (h : Below w2.heap.size w2 W) => code_chain W (hg2.below h (Nat.le_refl _)) (hX.below h (Nat.le_refl _)))
    have AA := Lib.hid (fun W (h : Below w2.heap.size w2 W) => at_chain W (hg2.below h (Nat.le_refl _)) (hX.below h (Nat.le_refl _)))
    have II := Lib.hid (fun k W (h : Below w2.heap.size w2 W) => faultIs_chain k W (hX.below h (Nat.le_refl _)))
    have TT := Lib.hid (fun W (h : Below w2.heap.size w2 W) => text_chain W (hg2.below h (Nat.le_refl _)) (show n ≤ 100000 by omega) (hX.below h (Nat.le_refl _)) HLEN.out)
    have RR := Lib.hid (fun W (h : Below w2.heap.size w2 W) => refText_any n S nm _ W (by omega) ((HS.out.below B2 (Nat.le_refl _)).below h (Nat.le_refl _)) HLEN.out)
    rw [e1] at WW CC AA II TT ⊢
    have E1 := Lib.hid e1
    have dn : ((n : Int) != n) = false := by simp
    have dc : (c != c) = false := by simp
    have da : (a != a) = false := by simp
    have dcc : decide (c = c) = true := by simp
    obtain ⟨tx, htx⟩ : ∃ tx : ByteArray, (⟨(lead S n ++ nm.data.toList).toArray⟩ : ByteArray) = tx := ⟨_, rfl⟩
    rw [htx] at TT RR
    have II0 := Lib.hid (fun W h => II.out c W h)
    rw [dcc] at II0
    clear e1 hX htx HX HAL dcc
    go_wp2_with fail
    refine (WW.out w2 (Below.refl _ _)).mono ?_; rintro e w3 ⟨v3, rfl, hv3, hb3⟩
    have HV3 := Lib.hid hv3
    obtain ⟨ao3, cap3, rfl⟩ := hv3.form
    clear hv3
    go_wp2_with fail
    refine (CC.out w3 hb3).mono ?_; rintro e w4 ⟨rfl, hb4⟩
    have D4 := hb3.trans (hb4.mono hb3.size)
    go_wp2_with fail
    refine (AA.out w4 D4).mono ?_; rintro e w5 ⟨rfl, hb5⟩
    have D5 := D4.trans (hb5.mono D4.size)
    go_wp2_with fail
    refine (II0.out w5 D5).mono ?_; rintro e w6 ⟨rfl, hb6⟩
    have D6 := D5.trans (hb6.mono D5.size)
    go_wp2_with fail
    have dx : decide (c = bits .xor .i64 c 1) = false := decide_eq_false (fun h => xor_one_ne c h.symm)
    refine (II.out (bits .xor .i64 c 1) w6 D6).mono ?_; rintro e w7 ⟨he7, hb7⟩
    rw [dx] at he7
    subst he7
    have D7 := D6.trans (hb7.mono D6.size)
    go_wp2_with fail
    refine (TT.out w7 D7).mono ?_; rintro e w8 ⟨rfl, hb8⟩
    have D8 := D7.trans (hb8.mono D7.size)
    go_wp2_with fail
    refine (RR.out w8 D8).mono ?_; rintro e w9 ⟨rfl, hw9⟩
    subst hw9
    go_wp2_with fail
    have D8W := B2.trans (D8.mono B2.size)
    clear II II0 CC AA TT RR WW HLEN
    go_loopg [11] n (fun g x wr => ∃ i, i ≤ n ∧ g = n - i ∧ x = .int .i64 (i : Int) ∧ Below w9.heap.size w9 wr)
    case atStart => exact ⟨0, Nat.zero_le _, rfl, rfl, Below.refl _ _⟩
    case round =>
      obtain ⟨i, hile, rfl, rfl, hbx⟩ := hrel
      by_cases hlt : i < n
      · have d2 : decide ((i : Int) < n) = true := decide_eq_true (by omega)
        have s1 := (HS.out.below D8W (Nat.le_refl _)).below hbx (Nat.le_refl _)
        have D38 : Below w3.heap.size w3 w9 := ((hb4.trans (hb5.mono hb4.size)).trans ((hb6.mono (hb4.trans (hb5.mono hb4.size)).size))).trans (((hb7.trans (hb8.mono hb7.size))).mono ((hb4.trans (hb5.mono hb4.size)).trans ((hb6.mono (hb4.trans (hb5.mono hb4.size)).size))).size)
        have s2 := (HV3.out.below D38 (Nat.le_refl _)).below hbx (Nat.le_refl _)
        rcases s1 with ⟨h0, _⟩ | ⟨_, ba, oa, ca, ea, hca⟩
        · omega
        rcases s2 with ⟨h0, _⟩ | ⟨_, bc, oc, cc, ec, hcc⟩
        · omega
        injection ea with ea1 ea2 ea3
        injection ec with ec1 ec2 ec3
        subst ea1 ec1
        have x1 := hca i hlt
        have x2 := hcc i hlt
        obtain ⟨sw, hsw⟩ : ∃ sw, S i = sw := ⟨_, rfl⟩
        rw [hsw] at x1 x2
        have HBX := Lib.hid hbx
        clear hca hcc hsw ea3 ec3 hbx D38 D8W hb1 hb2 hb3 hb4 hb5 hb6 hb7 hb8 D4 D5 D6 D7 D8 B2
        go_wp2_with fail
        go_quiet (fail)
        go_wp2_with fail
        go_roundg (n - (i + 1))
        case rel => exact ⟨i + 1, by omega, rfl, by go_num, below_drewN HBX.out _⟩
        case measure => omega
      · obtain rfl : i = n := by omega
        have d2 : decide ((i : Int) < i) = false := decide_eq_false (by omega)
        have BX := D8W.trans (hbx.mono D8W.size)
        have hE := (HE.out.below D8 (Nat.le_refl _)).below hbx (Nat.le_refl _)
        have hgx := hg.below BX (Nat.le_refl _)
        have hbl : Below wr.heap.size wr (wr.alloc (.cells #[.pointer none] 32)) := (Below.refl _ _).alloc (Nat.le_refl _) _
        have hh := as_any i _ _ S ⟨w1.heap.size, 0, none⟩ ⟨wr.heap.size, 0, none⟩ (.pointer none) (wr.alloc (.cells #[.pointer none] 32)) (hE.chain.below hbl (Nat.le_refl _)) hE.last (hgx.alloc _) (by simp) (by simp)
        rw [E1.out] at hh
        have HH := Lib.hid hh
        have hl := World.block_lt_of_cell? _ _ hE.code
        have f0 := hE.code
        have f1 := hE.place
        have f2 := hE.name
        have HBX2 := Lib.hid BX
        have q0 : (c == c) = true := by simp
        have q1 : (a == a) = true := by simp
        clear hh hE hbx D8W BX hgx hbl D8
        go_wp2_with fail
        refine HH.out.mono ?_; rintro e w10 ⟨rfl, hw10⟩
        have fc : w10.cell? ⟨wr.heap.size, 0, none⟩ = some (.pointer (some ⟨w1.heap.size, 0, none⟩)) := by
          rw [hw10]
          apply World.cell?_setCell_same (u := .pointer none)
          rw [World.cell?_alloc_lt _ _ ⟨wr.heap.size, 0, none⟩ (by simp; omega), World.cell?_alloc_lt _ _ ⟨wr.heap.size, 0, none⟩ (by simp; omega), World.cell?_alloc_lt _ _ ⟨wr.heap.size, 0, none⟩ (by simp; omega), World.cell?_alloc_lt _ _ ⟨wr.heap.size, 0, none⟩ (by simp)]
          simp
        have hbw : Below wr.heap.size wr w10 := by rw [hw10]; go_grown
        have g0 := (hbw.cell (p := ⟨w1.heap.size, 0, none⟩) hl).trans f0
        have g1 := (hbw.cell (p := ⟨w1.heap.size, 1, none⟩) hl).trans f1
        have g2 := (hbw.cell (p := ⟨w1.heap.size, 2, none⟩) hl).trans f2
        have HBW := Lib.hid hbw
        clear hw10 hbw f0 f1 f2 HH
        go_wp2_with fail
        go_ret
        exact ⟨rfl, HBX2.out.trans (HBW.out.mono HBX2.out.size)⟩
  · have d1 : decide (60 < (n : Int)) = true := decide_eq_true (by omega)
    go_enter Tryd.func3, Tryd.ntmps3
    go_wp2_with fail
    refine HAL.out.mono ?_; rintro e w1 ⟨rfl, hb1⟩
    go_wp2_with fail
    go_ret
    exact ⟨rfl, hb1⟩
end Go.Proofs.YtoekepfppagbdaaDoor
