/- LoadMore: the law. -/
import Derived.Test.YtnjkjgmnnmgngaaGreatDoorBackL5
import Derived.Test.YtnjkjgmnnmgngaaGreatDoorMoreP5
namespace Go.Proofs.YtnjkjgmnnmgngaaGreatDoor
open Go.RowKit

/-- A text that is told as faulty. -/
theorem load_no {T : List UInt8} {p : Int} {w : World} {e : Ending} {w' : World} (h : LoadTo T w e w') (hn : loadT T = .inl p) : ∃ b, e = .returned (.tuple #[.pointer none, .iface 60 (.pointer (some ⟨b, 0, none⟩))]) ∧ FaultAt 11 p w' (.iface 60 (.pointer (some ⟨b, 0, none⟩))) ∧ Below w.heap.size w w' := by
  obtain ⟨hb, ⟨q, u, hq, rfl, hf⟩ | ⟨d, g, hq, _⟩⟩ := h
  case inr =>
    rw [hn] at hq
    cases hq
  rw [hn] at hq
  obtain rfl := Sum.inl.inj hq
  obtain ⟨b, rfl⟩ := hf.form
  exact ⟨b, rfl, hf, hb⟩
set_option maxRecDepth 100000 in
set_option maxHeartbeats 8000000 in
theorem more_law (L : List Int) (E : List (Int × Int)) (at' : Nat) (hat : at' < 256) (vl ve : Value) (w : World) (hg : GT w) (hl : SeqV w vl L) (he : EdgesV w ve E) (hE : ∀ e, e ∈ E → In64 e.1 ∧ In64 e.2) (h1 : L.length ≤ 9223372036854775807) (h2 : E.length ≤ 9223372036854775807) :
    Calls Tryz.prog 6 #[vl, ve, .int .u8 (at' : Int)] w fun e w' => e = .returned (.bool true) ∧ Below w.heap.size w w' := by
  have AL := Lib.hid (alive5 w hg)
  have MD := Lib.hid (fun W (h : Below w.heap.size w W) => made_sure L E vl ve W (hl.below h (Nat.le_refl _)) (he.below h (Nat.le_refl _)) hE h1 h2)
  have HG := Lib.hid hg; have HL := Lib.hid hl
  obtain ⟨Al, cl, rfl⟩ := IntsV.form hl
  obtain ⟨Ae, ce, rfl⟩ := he.form
  obtain ⟨n, hn⟩ : ∃ n, L.length = n := ⟨_, rfl⟩
  obtain ⟨m, hm⟩ : ∃ m, E.length = m := ⟨_, rfl⟩
  have HN := Lib.hid hn; have HM := Lib.hid hm
  rw [hn] at MD HL ⊢
  rw [hm] at MD ⊢
  have HAT := Lib.hid hat
  clear hg hl he hE h1 h2 hn hm hat
  go_enter Tryz.func6, Tryz.ntmps6
  go_wp2_with fail
  refine AL.out.mono ?_; rintro e w1 ⟨rfl, hb1⟩
  have HB1 := Lib.hid hb1
  have MD1 := Lib.hid (MD.out w1 hb1)
  clear hb1
  go_wp2_with fail
  refine MD1.out.mono ?_; rintro e w2 ⟨hb2, ⟨_, p, rfl⟩ | ⟨hL10, hE30, hnf, g, v, rfl, hgo, hoe⟩⟩
  · have HB2 := Lib.hid ((HB1.out.trans (hb2.mono HB1.out.size)).alloc (HB1.out.trans (hb2.mono HB1.out.size)).size (.cells #[.slice none 0 0, .slice none 0 0] 36))
    clear hb2
    go_wp2_with fail
    go_ret
    exact ⟨rfl, HB2.out⟩
  obtain ⟨S, hS⟩ : ∃ S, sortE E = S := ⟨_, rfl⟩
  obtain ⟨hs1, hs2⟩ := sort_again hnf
  have hsl := sortE_len E
  rw [hS] at hgo hoe hs1 hs2 hsl
  rw [HM.out] at hsl hE30 hoe
  rw [HN.out] at hL10
  obtain ⟨Ar, cr, rfl⟩ := own_form hoe
  have hb02 := HB1.out.trans (hb2.mono HB1.out.size)
  have hb23 := (Below.refl w2.heap.size w2).alloc (Nat.le_refl _) (.cells #[.slice Al n cl, .slice Ar m cr] 36)
  have hx := Whole.new w2 36 #[.slice Al n cl, .slice Ar m cr]
  obtain ⟨w3, hw3⟩ : ∃ W, w2.alloc (.cells #[.slice Al n cl, .slice Ar m cr] 36) = W := ⟨_, rfl⟩
  obtain ⟨mb, hmb⟩ : ∃ g, w2.heap.size = g := ⟨_, rfl⟩
  have hgo3 := hgo.below hb23 (Nat.le_refl _)
  have hoe3 := own_edges (own_below hoe hb23 (Nat.le_refl _))
  have hb03 : Below w.heap.size w (w2.alloc (.cells #[.slice Al n cl, .slice Ar m cr] 36)) := hb02.trans (hb23.mono hb02.size)
  have hl3 := HL.out.below hb03 (Nat.le_refl _)
  rw [hw3] at hgo3 hoe3 hb03 hl3 hx
  rw [hmb] at hx
  have hg3 := HG.out.below hb03 (Nat.le_refl _)
  have HC : Hid (∀ W, Below w3.heap.size w3 W → W.cell? ⟨mb, 0, none⟩ = some (.slice Al n cl) ∧ W.cell? ⟨mb, 1, none⟩ = some (.slice Ar m cr)) := Lib.hid (fun W hb => ⟨(hx.below hb hx.lt).cell 0, (hx.below hb hx.lt).cell 1⟩)
  have hsm := small_of hs1
  have HSM := Lib.hid hsm
  have HS1 := Lib.hid hs1
  have HG3 := Lib.hid (fun W (h : Below w3.heap.size w3 W) => hg3.below h (Nat.le_refl _))
  have HLV : Hid (∀ W, Below w3.heap.size w3 W → SeqV W (.slice Al n cl) L) := Lib.hid (fun W h => hl3.below h (Nat.le_refl _))
  have HEV : Hid (∀ W, Below w3.heap.size w3 W → EdgesV W (.slice Ar m cr) S) := Lib.hid (fun W h => hoe3.below h (Nat.le_refl _))
  have HGO := Lib.hid (fun W (h : Below w3.heap.size w3 W) => hgo3.below h (Nat.le_refl _))
  have HSL : Hid (S.length = m) := Lib.hid hsl
  have HRV : Hid (sortE (revS S) = S) := Lib.hid (by rw [(revS_none hs1).2]; exact hs2)
  have HTX := Lib.hid (text_rev hs1)
  have HTO := Lib.hid (text_one hs1 (by rw [HN.out]; omega))
  have LD := Lib.hid (fun (T : List UInt8) (h : T.length ≤ 262144) W (hb : Below w3.heap.size w3 W) => load_any T h W (hg3.below hb (Nat.le_refl _)))
  have HLN : Hid (∀ k, (vLines 0 (L.take k)).length ≤ 1000) := Lib.hid (fun k => by
    have h1 := vLines_len (L.take k) 0 (by rw [List.length_take]; have := hsm.n; omega) (fun x hx => by have := (hsm.l x (List.mem_of_mem_take hx)).2; omega)
    rw [List.length_take, HN.out] at h1
    omega)
  have HEN : Hid (∀ k, (eLines ((revS S).take k)).length ≤ 1000) := Lib.hid (fun k => by
    have hr := small_of (revS_none hs1).1
    have h1 := eLines_len ((revS S).take k) (fun x hx => by have := hr.s x (List.mem_of_mem_take hx); omega)
    rw [List.length_take, revS_len, hsl] at h1
    omega)
  have HB3 := Lib.hid hb03; have HW3 := Lib.hid hw3; have HMB := Lib.hid hmb
  have HL10 := Lib.hid hL10; have HE30 := Lib.hid hE30
  clear hb2 hnf hgo hoe hS hs1 hs2 hsl hb02 hb23 hx hw3 hmb hgo3 hoe3 hb03 hl3 hg3 hsm
  go_upto_region 6 with fail
  rw [HW3.out, HMB.out]
  go_wp2_with fail
  go_loopg [10, 11] n (fun g sv y wr => ∃ k, k ≤ n ∧ g = n - k ∧ y = .int .i64 (k : Nat) ∧ sv = .string (str (vLines 0 (L.take k))) ∧ Below w3.heap.size w3 wr)
  case atStart => exact ⟨0, Nat.zero_le _, rfl, rfl, rfl, Below.refl _ _⟩
  case round =>
    obtain ⟨k, hk, rfl, rfl, rfl, hB⟩ := hrel
    have HB := Lib.hid hB
    have hss : (str (vLines 0 (L.take k))).size ≤ 1000 := HLN.out k
    obtain ⟨ss, hs1⟩ : ∃ s, str (vLines 0 (L.take k)) = s := ⟨_, rfl⟩
    rw [hs1] at hss ⊢
    have HSS := Lib.hid hs1
    clear hs1
    by_cases hlt : k < n
    · have hkL : k < L.length := by rw [HN.out]; exact hlt
      obtain ⟨b, off, rfl, hc⟩ := seq_at (HLV.out wr hB) hkL
      obtain ⟨x, hx⟩ : ∃ x, L.getD k 0 = x := ⟨_, rfl⟩
      rw [hx] at hc
      have hxr := HSM.out.lab hkL
      rw [hx] at hxr
      have hL10' := HL10.out
      have NV : Hid (∀ W, Below wr.heap.size wr W → Calls Tryz.prog 24 #[.int .i64 (k : Int)] W fun e w' => e = .returned (.string (str (decI (k : Int)))) ∧ Below wr.heap.size wr w') := Lib.hid (fun W hb => (num_I k (by omega) (by omega) W).mono fun e w' ⟨h1, h2⟩ => ⟨h1, hb.trans (h2.mono hb.size)⟩)
      have NX : Hid (∀ W, Below wr.heap.size wr W → Calls Tryz.prog 24 #[.int .i64 x] W fun e w' => e = .returned (.string (str (decI x))) ∧ Below wr.heap.size wr w') := Lib.hid (fun W hb => (num_I x (by omega) (by omega) W).mono fun e w' ⟨h1, h2⟩ => ⟨h1, hb.trans (h2.mono hb.size)⟩)
      have l1 : (str (decI (k : Int))).size ≤ 7 := decI_len (by omega)
      have l2 : (str (decI x)).size ≤ 7 := decI_len (by omega)
      obtain ⟨d1, hd1⟩ : ∃ s, str (decI (k : Int)) = s := ⟨_, rfl⟩
      obtain ⟨d2, hd2⟩ : ∃ s, str (decI x) = s := ⟨_, rfl⟩
      rw [hd1] at NV l1
      rw [hd2] at NX l2
      have HRES : Hid (((((ss ++ (⟨#[118, 32]⟩ : ByteArray)) ++ d1) ++ (⟨#[32]⟩ : ByteArray)) ++ d2) ++ (⟨#[10]⟩ : ByteArray) = str (vLines 0 (L.take (k + 1)))) := Lib.hid (by
        rw [take_snoc (d := 0) hkL, vLines_snoc, hx, ← HSS.out, ← hd1, ← hd2, List.length_take, HN.out, Nat.zero_add, Nat.min_eq_left (Nat.le_of_lt hlt), show (⟨#[118, 32]⟩ : ByteArray) = str [118, 32] from rfl, show (⟨#[32]⟩ : ByteArray) = str [32] from rfl, show (⟨#[10]⟩ : ByteArray) = str [10] from rfl, str_append, str_append, str_append, str_append, str_append]
        unfold pLine
        simp)
      have HLT := Lib.hid hlt
      have hbl : b < wr.heap.size := World.block_lt_of_cell? _ _ hc
      have KS := Lib.hid (fun (W : World) (hb : Below wr.heap.size wr W) => (show Below wr.heap.size wr W ∧ W.cell? ⟨b, off + k, none⟩ = some (.int .i64 x) from ⟨hb, (hb.cell (p := ⟨b, off + k, none⟩) hbl).trans hc⟩))
      have t7 : decide (k < n) = true := decide_eq_true hlt
      have t7' : decide ((k : Int) < n) = true := decide_eq_true (by omega)
      have i1 : (k : Int) < n := by omega
      have i2 : (0 : Int) ≤ k := by omega
      have z2 : (⟨#[118, 32]⟩ : ByteArray).size = 2 := rfl
      have n1 : ¬ 9223372036854775807 < ss.size + 2 := by omega
      have n2 : ¬ 9223372036854775807 < (ss ++ (⟨#[118, 32]⟩ : ByteArray)).size + d1.size := by rw [ByteArray.size_append, z2]; omega
      have n3 : ¬ 9223372036854775807 < ss.size + 2 + d1.size := by omega
      have n4 : ¬ 9223372036854775807 < ((ss ++ (⟨#[118, 32]⟩ : ByteArray)) ++ d1).size + 1 := by rw [ByteArray.size_append, ByteArray.size_append, z2]; omega
      have n5 : ¬ 9223372036854775807 < ss.size + 2 + d1.size + 1 := by omega
      have n6 : ¬ 9223372036854775807 < (((ss ++ (⟨#[118, 32]⟩ : ByteArray)) ++ d1) ++ (⟨#[32]⟩ : ByteArray)).size + d2.size := by rw [ByteArray.size_append, ByteArray.size_append, ByteArray.size_append, z2]; show ¬ _ < _ + 1 + _; omega
      have n7 : ¬ 9223372036854775807 < ss.size + 2 + d1.size + 1 + d2.size := by omega
      have n8 : ¬ 9223372036854775807 < ((((ss ++ (⟨#[118, 32]⟩ : ByteArray)) ++ d1) ++ (⟨#[32]⟩ : ByteArray)) ++ d2).size + 1 := by rw [ByteArray.size_append, ByteArray.size_append, ByteArray.size_append, ByteArray.size_append, z2]; show ¬ _ < _ + 1 + _ + 1; omega
      have n9 : ¬ 9223372036854775807 < ss.size + 2 + d1.size + 1 + d2.size + 1 := by omega
      clear hc hd1 hd2 hx hlt hxr hkL hB z2
      go_wp2_with fail
      go_region_held3 (fun W => Below wr.heap.size wr W ∧ W.cell? ⟨b, off + k, none⟩ = some (.int .i64 x))
        (exact KS.out _ (by first | assumption | exact Below.refl _ _ | exact below_drewN' (Below.refl _ _) _ | exact below_drewN' (by assumption) _))
        (first
          | (go_at_call 24; refine (NX.out _ hBT).mono ?_; rintro e' wU ⟨rfl, hBU⟩)
          | (go_at_call 24; refine (NV.out _ (by first | assumption | exact below_drewN' (Below.refl _ _) _)).mono ?_; rintro e' wT ⟨rfl, hBT⟩))
      all_goals
        go_wp2_with fail
        go_roundg (n - (k + 1))
        case rel => exact ⟨k + 1, HLT.out, rfl, rfl, by rw [HRES.out], HB.out.trans (hBU.mono HB.out.size)⟩
        case measure => have := HLT.out; omega
    · have t7 : decide (k < n) = false := decide_eq_false hlt
      have t7' : decide ((k : Int) < n) = false := decide_eq_false (by omega)
      obtain rfl : n = k := by omega
      have HIV : Hid (ss = str (vLines 0 L)) := Lib.hid (by
        have h := HSS.out
        rw [List.take_of_length_le (by rw [HN.out]; exact Nat.le_refl _)] at h
        exact h.symm)
      clear hlt hB hk
      obtain ⟨w4, hw4⟩ : ∃ W, W = wr := ⟨_, rfl⟩
      subst hw4
      go_wp2_with fail
      go_loopg [12, 13, 14] m (fun g sv y ev wr => ∃ j, j ≤ m ∧ g = m - j ∧ y = .int .i64 (j : Nat) ∧ sv = .string (str (eLines ((revS S).take j))) ∧ Below w3.heap.size w3 wr)
      case atStart => exact ⟨0, Nat.zero_le _, rfl, rfl, rfl, HB.out⟩
      case round =>
        obtain ⟨j, hj, rfl, rfl, rfl, hB⟩ := hrel
        obtain ⟨c0, c1⟩ := HC.out wr hB
        have HBJ := Lib.hid hB
        have hs2 : (str (eLines ((revS S).take j))).size ≤ 1000 := HEN.out j
        obtain ⟨sj, hsj⟩ : ∃ s, str (eLines ((revS S).take j)) = s := ⟨_, rfl⟩
        rw [hsj] at hs2 ⊢
        have HSJ := Lib.hid hsj
        clear hsj
        by_cases hlt : j < m
        · have hq : m - 1 - j < S.length := by rw [HSL.out]; omega
          have hra : (revS S).getD j (0, 0) = swpE (S.getD (m - 1 - j) (0, 0)) := by rw [revS_at (by rw [HSL.out]; exact hlt), HSL.out]
          obtain ⟨q, hqq⟩ : ∃ q, m - 1 - j = q := ⟨_, rfl⟩
          rw [hqq] at hq hra
          have u0 : IntKind.i64.wrap ((m : Int) - 1) = (m : Int) - 1 := by have := HE30.out; rw [IntKind.wrap_i64]; omega
          have u1 : IntKind.i64.wrap ((m : Int) - 1 - (j : Int)) = (q : Int) := by have := HE30.out; rw [IntKind.wrap_i64]; omega
          obtain ⟨b, off, rfl, d0, d1⟩ := (HEV.out wr hB).pos hq
          obtain ⟨x, y, hx⟩ : ∃ x y, S.getD q (0, 0) = (x, y) := ⟨_, _, rfl⟩
          rw [hx] at d0 d1 hra
          simp only at d0 d1
          have hxr := HSM.out.edge hq
          rw [hx] at hxr
          simp only at hxr
          have l1 : (str (decI y)).size ≤ 7 := decI_len (by omega)
          have l2 : (str (decI x)).size ≤ 7 := decI_len (by omega)
          obtain ⟨wq, hwq⟩ : ∃ W, wr.alloc (.cells #[.int .i64 x, .int .i64 y] 56) = W := ⟨_, rfl⟩
          obtain ⟨eb, heb⟩ : ∃ g, wr.heap.size = g := ⟨_, rfl⟩
          have hwn := Whole.new wr 56 #[.int .i64 x, .int .i64 y]
          have hbq : Below w3.heap.size w3 (wr.alloc (.cells #[.int .i64 x, .int .i64 y] 56)) := hB.alloc hB.size _
          rw [hwq] at hwn hbq
          rw [heb] at hwn
          have HBQ := Lib.hid hbq
          have KS := Lib.hid (fun (W : World) (hb : Below wq.heap.size wq W) => (show Below wq.heap.size wq W ∧ W.cell? ⟨eb, 0, none⟩ = some (.int .i64 x) ∧ W.cell? ⟨eb, 1, none⟩ = some (.int .i64 y) from ⟨hb, (hwn.below hb hwn.lt).cell 0, (hwn.below hb hwn.lt).cell 1⟩))
          have NV : Hid (∀ W, Below wq.heap.size wq W → Calls Tryz.prog 24 #[.int .i64 y] W fun e w' => e = .returned (.string (str (decI y))) ∧ Below wq.heap.size wq w') := Lib.hid (fun W hb => (num_I y (by omega) (by omega) W).mono fun e w' ⟨h1, h2⟩ => ⟨h1, hb.trans (h2.mono hb.size)⟩)
          have NX : Hid (∀ W, Below wq.heap.size wq W → Calls Tryz.prog 24 #[.int .i64 x] W fun e w' => e = .returned (.string (str (decI x))) ∧ Below wq.heap.size wq w') := Lib.hid (fun W hb => (num_I x (by omega) (by omega) W).mono fun e w' ⟨h1, h2⟩ => ⟨h1, hb.trans (h2.mono hb.size)⟩)
          obtain ⟨e1, he1⟩ : ∃ s, str (decI y) = s := ⟨_, rfl⟩
          obtain ⟨e2, he2⟩ : ∃ s, str (decI x) = s := ⟨_, rfl⟩
          rw [he1] at NV l1
          rw [he2] at NX l2
          have HRES : Hid (((((sj ++ (⟨#[101, 32]⟩ : ByteArray)) ++ e1) ++ (⟨#[32]⟩ : ByteArray)) ++ e2) ++ (⟨#[10]⟩ : ByteArray) = str (eLines ((revS S).take (j + 1)))) := Lib.hid (by
            rw [take_snoc (d := (0, 0)) (by rw [revS_len, HSL.out]; exact hlt), eLines_snoc, hra, ← HSJ.out, ← he1, ← he2, show (⟨#[101, 32]⟩ : ByteArray) = str [101, 32] from rfl, show (⟨#[32]⟩ : ByteArray) = str [32] from rfl, show (⟨#[10]⟩ : ByteArray) = str [10] from rfl, str_append, str_append, str_append, str_append, str_append]
            unfold pLine swpE
            simp)
          have HLT := Lib.hid hlt
          have HWQ := Lib.hid hwq; have HEB := Lib.hid heb
          have t7 : decide (j < m) = true := decide_eq_true hlt
          have t7' : decide ((j : Int) < m) = true := decide_eq_true (by omega)
          have z2 : (⟨#[101, 32]⟩ : ByteArray).size = 2 := rfl
          have n1 : ¬ 9223372036854775807 < sj.size + 2 := by omega
          have n2 : ¬ 9223372036854775807 < (sj ++ (⟨#[101, 32]⟩ : ByteArray)).size + e1.size := by rw [ByteArray.size_append, z2]; omega
          have n3 : ¬ 9223372036854775807 < sj.size + 2 + e1.size := by omega
          have n4 : ¬ 9223372036854775807 < ((sj ++ (⟨#[101, 32]⟩ : ByteArray)) ++ e1).size + 1 := by rw [ByteArray.size_append, ByteArray.size_append, z2]; omega
          have n5 : ¬ 9223372036854775807 < sj.size + 2 + e1.size + 1 := by omega
          have n6 : ¬ 9223372036854775807 < (((sj ++ (⟨#[101, 32]⟩ : ByteArray)) ++ e1) ++ (⟨#[32]⟩ : ByteArray)).size + e2.size := by rw [ByteArray.size_append, ByteArray.size_append, ByteArray.size_append, z2]; show ¬ _ < _ + 1 + _; omega
          have n7 : ¬ 9223372036854775807 < sj.size + 2 + e1.size + 1 + e2.size := by omega
          have n8 : ¬ 9223372036854775807 < ((((sj ++ (⟨#[101, 32]⟩ : ByteArray)) ++ e1) ++ (⟨#[32]⟩ : ByteArray)) ++ e2).size + 1 := by rw [ByteArray.size_append, ByteArray.size_append, ByteArray.size_append, ByteArray.size_append, z2]; show ¬ _ < _ + 1 + _ + 1; omega
          have n9 : ¬ 9223372036854775807 < sj.size + 2 + e1.size + 1 + e2.size + 1 := by omega
          have i3 : q < m := by omega
          have i4 : (q : Int) < m := by omega
          have i5 : (0 : Int) ≤ q := by omega
          clear he1 he2 hx hra hxr hqq hq hwn hbq hwq heb hB z2 hj
          go_upto_region 16 with fail
          rw [HWQ.out, HEB.out]
          clear d0 d1
          go_wp2_with fail
          go_region_held3 (fun W => Below wq.heap.size wq W ∧ W.cell? ⟨eb, 0, none⟩ = some (.int .i64 x) ∧ W.cell? ⟨eb, 1, none⟩ = some (.int .i64 y))
            (exact KS.out _ (by first | assumption | exact Below.refl _ _ | exact below_drewN' (Below.refl _ _) _ | exact below_drewN' (by assumption) _))
            (first
              | (go_at_call 24; refine (NX.out _ hBT).mono ?_; rintro e' wU ⟨rfl, hBU⟩)
              | (go_at_call 24; refine (NV.out _ (by first | assumption | exact below_drewN' (Below.refl _ _) _)).mono ?_; rintro e' wT ⟨rfl, hBT⟩))
          all_goals
            go_wp2_with fail
            go_roundg (m - (j + 1))
            case rel => exact ⟨j + 1, HLT.out, rfl, rfl, by rw [HRES.out], HBQ.out.trans (hBU.mono HBQ.out.size)⟩
            case measure => have := HLT.out; omega
        · have t7 : decide (j < m) = false := decide_eq_false hlt
          have t7' : decide ((j : Int) < m) = false := decide_eq_false (by omega)
          obtain rfl : m = j := by omega
          have HJV : Hid (sj = str (eLines (revS S))) := Lib.hid (by
            have h := HSJ.out
            rw [List.take_of_length_le (by rw [revS_len, HSL.out]; exact Nat.le_refl _)] at h
            exact h.symm)
          obtain ⟨w5, hw5⟩ : ∃ W, W = wr := ⟨_, rfl⟩
          subst hw5
          have HTT : Hid (ss ++ sj = str (graphT L (revS S))) := Lib.hid (by rw [HIV.out, HJV.out, str_append]; rfl)
          have hTL : (graphT L (revS S)).length ≤ 262144 := by
            have h1 := HLN.out n
            have h2 := HEN.out m
            rw [List.take_of_length_le (by rw [HN.out]; exact Nat.le_refl _)] at h1
            rw [List.take_of_length_le (by rw [revS_len, HSL.out]; exact Nat.le_refl _)] at h2
            unfold graphT
            rw [List.length_append]
            omega
          have hs1s : ss.size ≤ 1000 := hss
          have hs2s : sj.size ≤ 1000 := hs2
          have K1 := Lib.hid (LD.out _ hTL w5 hB)
          have n1 : ¬ 9223372036854775807 < ss.size + sj.size := by omega
          clear hlt hB hj hTL
          go_wp2_with fail
          rw [HTT.out]
          refine K1.out.mono ?_; rintro e w6 ⟨hb, ⟨p, u, hn, _⟩ | ⟨d, gx, hn, _, rfl, hgx⟩⟩
          · rw [HTX.out] at hn
            cases hn
          rw [HTX.out] at hn
          obtain rfl := Sum.inr.inj hn
          simp only at hgx
          rw [HRV.out] at hgx
          have H6 := Lib.hid (HBJ.out.trans (hb.mono HBJ.out.size))
          have HGX := Lib.hid (fun W (h : Below w6.heap.size w6 W) => hgx.below h (Nat.le_refl _))
          have hL10' := HL10.out
          have NV : Hid (Calls Tryz.prog 24 #[.int .i64 (n : Int)] w6 fun e w' => e = .returned (.string (str (decI (n : Int)))) ∧ Below w6.heap.size w6 w') := Lib.hid (num_I n (by omega) (by omega) w6)
          have l1 : (str (decI (n : Int))).size ≤ 7 := decI_len (by omega)
          obtain ⟨d1, hd1⟩ : ∃ s, str (decI (n : Int)) = s := ⟨_, rfl⟩
          rw [hd1] at NV l1
          have HT2 : Hid ((((ss ++ (⟨#[118, 32]⟩ : ByteArray)) ++ d1) ++ (⟨#[32, 55, 10]⟩ : ByteArray)) ++ sj = str (vLines 0 L ++ (pLine 118 (L.length : Int) 7 ++ eLines (revS S)))) := Lib.hid (by
            rw [HIV.out, HJV.out, ← hd1, HN.out, show (⟨#[118, 32]⟩ : ByteArray) = str [118, 32] from rfl, show (⟨#[32, 55, 10]⟩ : ByteArray) = str [32, 55, 10] from rfl, str_append, str_append, str_append, str_append]
            unfold pLine
            rw [show decI 7 = [55] by kernel_rfl]
            simp)
          have hTL2 : (vLines 0 L ++ (pLine 118 (L.length : Int) 7 ++ eLines (revS S))).length ≤ 262144 := by
            have h1 : (str (vLines 0 L ++ (pLine 118 (L.length : Int) 7 ++ eLines (revS S)))).size ≤ 262144 := by
              rw [← HT2.out, ByteArray.size_append, ByteArray.size_append, ByteArray.size_append, ByteArray.size_append]
              show ss.size + 2 + d1.size + 3 + sj.size ≤ _
              omega
            exact h1
          have K2 := Lib.hid (fun W (h : Below w6.heap.size w6 W) => LD.out _ hTL2 W (H6.out.trans (h.mono H6.out.size)))
          have z2 : (⟨#[118, 32]⟩ : ByteArray).size = 2 := rfl
          have z3 : (⟨#[32, 55, 10]⟩ : ByteArray).size = 3 := rfl
          have n1 : ¬ 9223372036854775807 < ss.size + 2 := by omega
          have n2 : ¬ 9223372036854775807 < ss.size + 2 + d1.size := by omega
          have n3 : ¬ 9223372036854775807 < ss.size + 2 + d1.size + 3 := by omega
          have n4 : ¬ 9223372036854775807 < ss.size + 2 + d1.size + 3 + sj.size := by omega
          have n5 : ¬ 9223372036854775807 < (ss ++ (⟨#[118, 32]⟩ : ByteArray)).size + d1.size := by rw [ByteArray.size_append, z2]; omega
          have n6 : ¬ 9223372036854775807 < ((ss ++ (⟨#[118, 32]⟩ : ByteArray)) ++ d1).size + 3 := by rw [ByteArray.size_append, ByteArray.size_append, z2]; omega
          have n7 : ¬ 9223372036854775807 < (((ss ++ (⟨#[118, 32]⟩ : ByteArray)) ++ d1) ++ (⟨#[32, 55, 10]⟩ : ByteArray)).size + sj.size := by rw [ByteArray.size_append, ByteArray.size_append, ByteArray.size_append, z2, z3]; omega
          clear hb hn hgx K1 n1 hd1 hTL2 z2 z3 hL10'
          go_wp2_with fail
          refine NV.out.mono ?_; rintro e w7 ⟨rfl, hb⟩
          have H67 := Lib.hid hb
          have K3 := Lib.hid (K2.out w7 hb)
          clear hb
          go_wp2_with fail
          rw [HT2.out]
          refine K3.out.mono ?_; rintro e w8 ⟨hb, ⟨p, u, hn, _⟩ | ⟨d, gy, hn, _, rfl, hgy⟩⟩
          · rw [HTO.out] at hn
            cases hn
          rw [HTO.out] at hn
          obtain rfl := Sum.inr.inj hn
          simp only at hgy
          rw [HRV.out] at hgy
          have H68 := Lib.hid (H67.out.trans (hb.mono H67.out.size))
          have H8 := Lib.hid (H6.out.trans (H68.out.mono H6.out.size))
          have GX := HGX.out w8 H68.out
          have GG := HGO.out w8 H8.out
          have GY := Lib.hid (fun W (h : Below w8.heap.size w8 W) => hgy.below h (Nat.le_refl _))
          have SX := Lib.hid (same_true GX GG (by rw [HN.out]; have := HL10.out; omega) (by rw [HSL.out]; have := HE30.out; omega))
          have GGS := Lib.hid (fun W (h : Below w8.heap.size w8 W) => HGO.out W (H8.out.trans (h.mono H8.out.size)))
          clear hb hn hgy GX GG n2 n3 n4 n5 n6 n7
          go_wp2_with fail
          refine SX.out.mono ?_; rintro e w9 ⟨rfl, hb⟩
          have H9 := Lib.hid hb
          have LY := Lib.hid (len_any (GY.out w9 hb))
          have LG := Lib.hid (len_any (GGS.out w9 hb))
          have SY := Lib.hid (size_any (GY.out w9 hb))
          have SG := Lib.hid (size_any (GGS.out w9 hb))
          have DY := Lib.hid (degree_ok (GY.out w9 hb) (v := n) (by rw [List.length_append, HN.out]; exact Nat.lt_succ_self n))
          rw [List.length_append, HN.out, show ([7] : List Int).length = 1 from rfl, Int.natCast_succ] at LY
          rw [HN.out] at LG
          rw [HSL.out] at SY SG
          have HNE := Lib.hid (near_out HS1.out)
          rw [HN.out] at HNE
          rw [HNE.out, show ([] : List Int).length = 0 from rfl] at DY
          clear hb
          go_wp2_with fail
          refine LY.out.mono ?_; rintro e w7 ⟨rfl, hw⟩; obtain rfl := hw.symm; clear hw
          go_wp2_with fail
          refine LG.out.mono ?_; rintro e w7 ⟨rfl, hw⟩; obtain rfl := hw.symm; clear hw
          have u3 : IntKind.i64.wrap ((n : Int) + 1) = (n : Int) + 1 := by have := HL10.out; rw [IntKind.wrap_i64]; omega
          go_wp2_with fail
          refine SY.out.mono ?_; rintro e w7 ⟨rfl, hw⟩; obtain rfl := hw.symm; clear hw
          go_wp2_with fail
          refine SG.out.mono ?_; rintro e w7 ⟨rfl, hw⟩; obtain rfl := hw.symm; clear hw
          go_wp2_with fail
          refine DY.out.mono ?_; rintro e w7 ⟨rfl, hw⟩; obtain rfl := hw.symm; clear hw
          have HB9 := Lib.hid (H8.out.trans (H9.out.mono H8.out.size))
          obtain ⟨c0, c1⟩ := HC.out _ HB9.out
          by_cases hm0 : m = 0
          · have t8 : ((m : Int) == 0) = true := by rw [hm0]; rfl
            have HFI := Lib.hid (HB3.out.trans (HB9.out.mono HB3.out.size))
            clear u3 hm0
            go_wp2_with fail
            go_ret
            exact ⟨rfl, HFI.out⟩
          · have t8 : ((m : Int) == 0) = false := by rw [beq_eq_false_iff_ne]; omega
            have hz1 : at' % m < m := Nat.mod_lt _ (by omega)
            have z1 : Int.tmod (at' : Int) (m : Int) = ((at' % m : Nat) : Int) := by rw [Int.tmod_eq_emod_of_nonneg (by omega)]; omega
            obtain ⟨z, hz⟩ : ∃ z, at' % m = z := ⟨_, rfl⟩
            rw [hz] at hz1 z1
            have hzS : z < S.length := by rw [HSL.out]; exact hz1
            obtain ⟨b, off, rfl, d0, d1⟩ := (HEV.out _ HB9.out).pos hzS
            obtain ⟨x, y, hx⟩ : ∃ x y, S.getD z (0, 0) = (x, y) := ⟨_, _, rfl⟩
            rw [hx] at d0 d1
            simp only at d0 d1
            have hxr := HSM.out.edge hzS
            rw [hx] at hxr
            simp only at hxr
            have hxm : (x, y) ∈ S := by rw [← hx]; simp only [List.getD, List.getElem?_eq_getElem hzS, Option.getD_some]; exact List.getElem_mem _
            have HTM := Lib.hid (text_more HS1.out (by rw [HSL.out]; have := HE30.out; omega) hxm)
            have HTL3 := Lib.hid (text_loop HS1.out (by rw [HSL.out]; have := HE30.out; omega))
            rw [HN.out, HSL.out] at HTM
            rw [HN.out] at HTL3
            obtain ⟨wq, hwq⟩ : ∃ W, (w9.alloc (.cells #[.int .i64 x, .int .i64 y] 56)).drew = W := ⟨_, rfl⟩
            obtain ⟨eb, heb⟩ : ∃ g, w9.heap.size = g := ⟨_, rfl⟩
            have hwn := (Whole.new w9 56 #[.int .i64 x, .int .i64 y]).drewN 1
            have hbq : Below w3.heap.size w3 (w9.alloc (.cells #[.int .i64 x, .int .i64 y] 56)).drew := below_drewN' (HB9.out.alloc HB9.out.size _) 1
            change Whole (w9.alloc (.cells #[.int .i64 x, .int .i64 y] 56)).drew _ _ _ at hwn
            rw [hwq] at hwn hbq
            rw [heb] at hwn
            have HBQ := Lib.hid hbq
            have hcc := HC.out wq hbq
            have KS := Lib.hid (fun (W : World) (hb : Below wq.heap.size wq W) => (show Below wq.heap.size wq W ∧ W.cell? ⟨eb, 0, none⟩ = some (.int .i64 x) ∧ W.cell? ⟨eb, 1, none⟩ = some (.int .i64 y) from ⟨hb, (hwn.below hb hwn.lt).cell 0, (hwn.below hb hwn.lt).cell 1⟩))
            have l1 : (str (decI x)).size ≤ 7 := decI_len (by omega)
            have l2 : (str (decI y)).size ≤ 7 := decI_len (by omega)
            have NV : Hid (∀ W, Below wq.heap.size wq W → Calls Tryz.prog 24 #[.int .i64 x] W fun e w' => e = .returned (.string (str (decI x))) ∧ Below wq.heap.size wq w') := Lib.hid (fun W hb => (num_I x (by omega) (by omega) W).mono fun e w' ⟨h1, h2⟩ => ⟨h1, hb.trans (h2.mono hb.size)⟩)
            have NX : Hid (∀ W, Below wq.heap.size wq W → Calls Tryz.prog 24 #[.int .i64 y] W fun e w' => e = .returned (.string (str (decI y))) ∧ Below wq.heap.size wq w') := Lib.hid (fun W hb => (num_I y (by omega) (by omega) W).mono fun e w' ⟨h1, h2⟩ => ⟨h1, hb.trans (h2.mono hb.size)⟩)
            obtain ⟨e1, he1⟩ : ∃ s, str (decI x) = s := ⟨_, rfl⟩
            obtain ⟨e2, he2⟩ : ∃ s, str (decI y) = s := ⟨_, rfl⟩
            rw [he1] at NV l1
            rw [he2] at NX l2
            have HT3 : Hid ((((((ss ++ sj) ++ (⟨#[101, 32]⟩ : ByteArray)) ++ e1) ++ (⟨#[32]⟩ : ByteArray)) ++ e2) ++ (⟨#[10]⟩ : ByteArray) = str (graphT L (revS S) ++ (eLine (x, y) ++ [10]))) := Lib.hid (by
              rw [HTT.out, ← he1, ← he2, show (⟨#[101, 32]⟩ : ByteArray) = str [101, 32] from rfl, show (⟨#[32]⟩ : ByteArray) = str [32] from rfl, show (⟨#[10]⟩ : ByteArray) = str [10] from rfl, str_append, str_append, str_append, str_append, str_append]
              unfold eLine
              simp)
            have HT4 : Hid ((ss ++ (⟨#[101, 32, 48, 32, 48, 10]⟩ : ByteArray)) ++ sj = str (vLines 0 L ++ ([101, 32, 48, 32, 48, 10] ++ eLines (revS S)))) := Lib.hid (by
              rw [HIV.out, HJV.out, show (⟨#[101, 32, 48, 32, 48, 10]⟩ : ByteArray) = str [101, 32, 48, 32, 48, 10] from rfl, str_append, str_append]
              simp)
            have hT3 : (graphT L (revS S) ++ (eLine (x, y) ++ [10])).length ≤ 262144 := by
              have h1 : (str (graphT L (revS S) ++ (eLine (x, y) ++ [10]))).size ≤ 262144 := by
                rw [← HT3.out]
                simp only [ByteArray.size_append]
                show ss.size + sj.size + 2 + e1.size + 1 + e2.size + 1 ≤ _
                omega
              exact h1
            have hT4 : (vLines 0 L ++ ([101, 32, 48, 32, 48, 10] ++ eLines (revS S))).length ≤ 262144 := by
              have h1 : (str (vLines 0 L ++ ([101, 32, 48, 32, 48, 10] ++ eLines (revS S)))).size ≤ 262144 := by
                rw [← HT4.out]
                simp only [ByteArray.size_append]
                show ss.size + 6 + sj.size ≤ _
                omega
              exact h1
            have LM := Lib.hid (fun W (h : Below wq.heap.size wq W) => (LD.out _ hT3 W (HBQ.out.trans (h.mono HBQ.out.size))).mono fun e w' h => load_no h HTM.out)
            have LQ := Lib.hid (fun W (h : Below wq.heap.size wq W) => (LD.out _ hT4 W (HBQ.out.trans (h.mono HBQ.out.size))).mono fun e w' h => load_no h HTL3.out)
            have z2 : (⟨#[101, 32]⟩ : ByteArray).size = 2 := rfl
            have z3 : (⟨#[32]⟩ : ByteArray).size = 1 := rfl
            have p1 : ¬ 9223372036854775807 < ss.size + sj.size := by omega
            have p2 : ¬ 9223372036854775807 < (ss ++ sj).size + 2 := by simp only [ByteArray.size_append]; omega
            have q2 : ¬ 9223372036854775807 < ss.size + sj.size + 2 := by omega
            have p3 : ¬ 9223372036854775807 < ((ss ++ sj) ++ (⟨#[101, 32]⟩ : ByteArray)).size + e1.size := by simp only [ByteArray.size_append, z2]; omega
            have q3 : ¬ 9223372036854775807 < ss.size + sj.size + 2 + e1.size := by omega
            have p4 : ¬ 9223372036854775807 < (((ss ++ sj) ++ (⟨#[101, 32]⟩ : ByteArray)) ++ e1).size + 1 := by simp only [ByteArray.size_append, z2]; omega
            have q4 : ¬ 9223372036854775807 < ss.size + sj.size + 2 + e1.size + 1 := by omega
            have p5 : ¬ 9223372036854775807 < ((((ss ++ sj) ++ (⟨#[101, 32]⟩ : ByteArray)) ++ e1) ++ (⟨#[32]⟩ : ByteArray)).size + e2.size := by simp only [ByteArray.size_append, z2, z3]; omega
            have q5 : ¬ 9223372036854775807 < ss.size + sj.size + 2 + e1.size + 1 + e2.size := by omega
            have p6 : ¬ 9223372036854775807 < (((((ss ++ sj) ++ (⟨#[101, 32]⟩ : ByteArray)) ++ e1) ++ (⟨#[32]⟩ : ByteArray)) ++ e2).size + 1 := by simp only [ByteArray.size_append, z2, z3]; omega
            have q6 : ¬ 9223372036854775807 < ss.size + sj.size + 2 + e1.size + 1 + e2.size + 1 := by omega
            have r1 : ¬ 9223372036854775807 < ss.size + 6 := by omega
            have r2 : ¬ 9223372036854775807 < (ss ++ (⟨#[101, 32, 48, 32, 48, 10]⟩ : ByteArray)).size + sj.size := by rw [ByteArray.size_append]; show ¬ _ < _ + 6 + _; omega
            have r3 : ¬ 9223372036854775807 < ss.size + 6 + sj.size := by omega
            have HWQ := Lib.hid hwq; have HEB := Lib.hid heb
            have i4 : (z : Int) < m := by omega
            have i5 : (0 : Int) ≤ z := by omega
            have i6 : ¬ (m : Int) = 0 := by omega
            have i7 : mb < w9.heap.size := World.block_lt_of_cell? _ _ c1
            have i8 : b < w9.heap.size := World.block_lt_of_cell? _ _ d0
            have u4 : IntKind.i64.wrap (at' : Int) = (at' : Int) := by have := HAT.out; rw [IntKind.wrap_i64]; omega
            clear he1 he2 hx hxr hxm hz hzS hwn hbq hwq heb hcc hT3 hT4 z2 z3
            go_wp2_with fail
            go_region
            go_wp2_with fail
            rw [HWQ.out, HEB.out]
            clear d0 d1 c0 c1 i7 i8
            go_region_held3 (fun W => Below wq.heap.size wq W ∧ W.cell? ⟨eb, 0, none⟩ = some (.int .i64 x) ∧ W.cell? ⟨eb, 1, none⟩ = some (.int .i64 y))
              (exact KS.out _ (by first | assumption | exact Below.refl _ _ | exact below_drewN' (Below.refl _ _) _ | exact below_drewN' (by assumption) _))
              (first
                | (go_at_call 16; rw [HT3.out]; refine (LM.out _ hBU).mono ?_; rintro e' wV ⟨fv, rfl, hfv, hV⟩; have HFV := Lib.hid hfv; clear hfv; have hBV := hBU.trans (hV.mono hBU.size); clear hV)
                | (go_at_call 24; refine (NX.out _ hBT).mono ?_; rintro e' wU ⟨rfl, hBU⟩)
                | (go_at_call 24; refine (NV.out _ (by first | assumption | exact below_drewN' (Below.refl _ _) _)).mono ?_; rintro e' wT ⟨rfl, hBT⟩))
            go_wp2_with fail
            have HBV := Lib.hid (HBQ.out.trans (hBV.mono HBQ.out.size))
            have HQV := Lib.hid hBV
            have K9 := Lib.hid (LQ.out wV hBV)
            clear hBV hBT hBU
            go_wp2_with fail
            rw [HT4.out]
            refine K9.out.mono ?_; rintro e wx ⟨fw, rfl, hfw, hb⟩
            have HX3 := Lib.hid (HBV.out.trans (hb.mono HBV.out.size))
            have HQX := Lib.hid (HQV.out.trans (hb.mono HQV.out.size))
            have FV := Lib.hid (fun W (h : Below wx.heap.size wx W) => HFV.out.below (hb.trans (h.mono hb.size)) (Nat.le_refl _))
            have FW := Lib.hid (fun W (h : Below wx.heap.size wx W) => hfw.below h (Nat.le_refl _))
            have ET := Lib.hid (fun W (h : Below wx.heap.size wx W) => (HG3.out W (HX3.out.trans (h.mono HX3.out.size))).et)
            have C1 : Hid (∀ W, Below wx.heap.size wx W → Calls Tryz.prog 10 #[.iface 60 (.pointer (some ⟨fv, 0, none⟩))] W fun e w' => e = .returned (.int .i64 11) ∧ Below wx.heap.size wx w') := Lib.hid (fun W h => (code_f7 (FV.out W h) (ET.out W h)).mono fun e w' ⟨h1, h2⟩ => ⟨h1, h.trans (h2.mono h.size)⟩)
            have C2 : Hid (∀ W, Below wx.heap.size wx W → Calls Tryz.prog 11 #[.iface 60 (.pointer (some ⟨fv, 0, none⟩))] W fun e w' => e = .returned (.int .i64 ((n : Int) + m)) ∧ Below wx.heap.size wx w') := Lib.hid (fun W h => (at_f (FV.out W h) (ET.out W h)).mono fun e w' ⟨h1, h2⟩ => ⟨by rw [h1, Int.natCast_add], h.trans (h2.mono h.size)⟩)
            have C3 : Hid (∀ W, Below wx.heap.size wx W → Calls Tryz.prog 10 #[.iface 60 (.pointer (some ⟨fw, 0, none⟩))] W fun e w' => e = .returned (.int .i64 11) ∧ Below wx.heap.size wx w') := Lib.hid (fun W h => (code_f7 (FW.out W h) (ET.out W h)).mono fun e w' ⟨h1, h2⟩ => ⟨h1, h.trans (h2.mono h.size)⟩)
            have C4 : Hid (∀ W, Below wx.heap.size wx W → Calls Tryz.prog 11 #[.iface 60 (.pointer (some ⟨fw, 0, none⟩))] W fun e w' => e = .returned (.int .i64 (n : Int)) ∧ Below wx.heap.size wx w') := Lib.hid (fun W h => (at_f (FW.out W h) (ET.out W h)).mono fun e w' ⟨h1, h2⟩ => ⟨h1, h.trans (h2.mono h.size)⟩)
            have KS := Lib.hid (fun W (h : Below wx.heap.size wx W) => (show Below wx.heap.size wx W ∧ W.cell? ⟨mb, 1, none⟩ = some (.slice (some ⟨b, off, none⟩) m cr) from ⟨h, (HC.out W (HX3.out.trans (h.mono HX3.out.size))).2⟩))
            have u9 : IntKind.i64.wrap ((n : Int) + m) = (n : Int) + m := by have := HL10.out; have := HE30.out; rw [IntKind.wrap_i64]; omega
            clear hb hfw K9 p1 p2 p3 p4 p5 p6 q2 q3 q4 q5 q6 r1 r2 r3
            go_wp2_with fail
            go_region_held3 (fun W => Below wx.heap.size wx W ∧ W.cell? ⟨mb, 1, none⟩ = some (.slice (some ⟨b, off, none⟩) m cr))
              (exact KS.out _ (by first | assumption | exact Below.refl _ _ | exact below_drewN' (Below.refl _ _) _ | exact below_drewN' (by assumption) _))
              (first
                | (go_at_call 11; refine (C4.out _ hb3).mono ?_; rintro e' wz ⟨rfl, hb4⟩)
                | (go_at_call 10; refine (C3.out _ hb2).mono ?_; rintro e' wz3 ⟨rfl, hb3⟩)
                | (go_at_call 11; refine (C2.out _ hb1).mono ?_; rintro e' wz2 ⟨rfl, hb2⟩)
                | (go_at_call 10; refine (C1.out _ (by first | assumption | exact Below.refl _ _ | exact below_drewN' (Below.refl _ _) _)).mono ?_; rintro e' wz1 ⟨rfl, hb1⟩))
            all_goals
              go_wp2_with fail
              go_ret
              exact ⟨rfl, HB3.out.trans ((HX3.out.trans (hb4.mono HX3.out.size)).mono HB3.out.size)⟩
end Go.Proofs.YtnjkjgmnnmgngaaGreatDoor
