/- GraphLarge: the law. -/
import Derived.Test.YtfngkbpoefapdaaDoorOf4
namespace Go.Proofs.YtfngkbpoefapdaaDoor
open Go.RowKit

/-- How many edges the rows ahead of a vertex have. -/
def fL : Nat → Nat
  | 0 => 0
  | a + 1 => fL a + (199 - a)
theorem fL_mono {a b : Nat} (h : a ≤ b) : fL a ≤ fL b := by
  induction h with
  | refl => exact Nat.le_refl _
  | step _ ih => exact Nat.le_trans ih (Nat.le_add_right _ _)
set_option maxRecDepth 100000 in
theorem fL_top : fL 199 = 19900 := by decide
/-- What the two loops have made so far. -/
structure Gen (a b : Int) (E : List (Int × Int)) : Prop where
  rising : RisingE (E.map ris)
  ends : ∀ e, e ∈ E → 0 ≤ e.2 ∧ e.2 < e.1 ∧ e.1 < 200 ∧ ltE (ris e) (a, b)
theorem Gen.later {a b c d : Int} {E : List (Int × Int)} (h : Gen a b E) (hl : ltE (a, b) (c, d) ∨ (a, b) = (c, d)) : Gen c d E :=
  ⟨h.rising, fun e he => by
    obtain ⟨h1, h2, h3, h4⟩ := h.ends e he
    refine ⟨h1, h2, h3, ?_⟩
    rcases hl with hl | hl
    · exact ltE_trans h4 hl
    · rw [← hl]; exact h4⟩
theorem Gen.snoc {a b : Int} {E : List (Int × Int)} (h : Gen a b E) (ha : 0 ≤ a) (hab : a < b) (hb : b < 200) : Gen a (b + 1) (E ++ [(b, a)]) := by
  have hr : ris (b, a) = (a, b) := by unfold ris; exact Prod.ext (by simp only; omega) (by simp only; omega)
  have hlt : ltE (a, b) (a, b + 1) := Or.inr ⟨rfl, by show b < b + 1; omega⟩
  refine ⟨?_, fun e he => ?_⟩
  · unfold RisingE
    rw [List.map_append, List.pairwise_append]
    refine ⟨h.rising, by simp, fun x hx y hy => ?_⟩
    obtain ⟨e, he, rfl⟩ := List.mem_map.1 hx
    have hy : y = (a, b) := by simpa [hr] using hy
    subst hy
    exact (h.ends e he).2.2.2
  · rcases List.mem_append.1 he with he | he
    · obtain ⟨h1, h2, h3, h4⟩ := h.ends e he
      exact ⟨h1, h2, h3, ltE_trans h4 hlt⟩
    · have he : e = (b, a) := by simpa using he
      subst he
      exact ⟨ha, hab, hb, by rw [hr]; exact hlt⟩
theorem Gen.good {a b : Int} {E : List (Int × Int)} (h : Gen a b E) : Good 200 E :=
  ⟨h.rising.nodup, fun e he => by have := h.ends e he; omega⟩
theorem Gen.in64 {a b : Int} {E : List (Int × Int)} (h : Gen a b E) : ∀ e, e ∈ E → In64 e.1 ∧ In64 e.2 := fun e he => by
  have := h.ends e he
  unfold In64; omega
theorem fault_zeros (k : Nat) {E : List (Int × Int)} (hE : E.length ≤ 16384) (hg : Good k E) (hk : k ≤ 4096) : newFault (List.replicate k 0) E = none :=
  newFault_none.2 ⟨by simpa using hk, hE, fun x hx => by rw [List.eq_of_mem_replicate hx]; omega, by simpa using hg⟩
theorem fault_large {L : List Int} {E : List (Int × Int)} (h : 4096 < L.length ∨ 16384 < E.length) : newFault L E = some (6, 0) := by unfold newFault; rw [if_pos h]
theorem good_nil (k : Int) : Good k [] := ⟨by simp, fun e he => by simp at he⟩
theorem zeros_seq (w : World) (t : TypeId) (k : Nat) (h0 : 0 < k) : SeqV (w.alloc (.cells (madeCells #[.int .i64 0] k) t)) (.slice (some ⟨w.heap.size, 0, none⟩) k k) (List.replicate k 0) := by
  have := seq_block (L := List.replicate k 0) (Whole.new w t (madeCells #[.int .i64 0] k)) (by rw [toList_madeCells_one]; simp [intCells]) (by simpa using h0) k
  rwa [List.length_replicate] at this

set_option maxRecDepth 100000 in
set_option maxHeartbeats 2000000 in
theorem large_law (n m : Int) (w : World) (hg : ErrT w) (hn : 0 ≤ n ∧ n ≤ 65535) (hm : 0 ≤ m ∧ m ≤ 65535) :
    Calls Tryd.prog 5 #[.int .u16 n, .int .u16 m] w fun e w' => e = .returned (.bool true) ∧ Below w.heap.size w w' := by
  obtain ⟨j1, hi1, ky0, ky1, ky2⟩ := info_parts Tryd.infoInt6
  obtain ⟨j0, hj0, hz0, hz1, hz2⟩ := info_parts Tryd.infoAE
  have mkI : ∀ (k : Nat) (V : World), k ≤ 5000 → (Instr.makeSlice 22 (.int .i64 (k : Nat)) (.int .i64 (k : Nat))).run Tryd.prog V = .ok (.slice (some ⟨V.heap.size, 0, none⟩) k k) (V.alloc (.cells (madeCells #[.int .i64 0] k) 3)) := by
    intro k V hk
    have h := run_make (P := Tryd.prog) V 22 3 j1 (.int .i64 0) Tryd.underlying22 hi1 ky0 .i64 .i64 (k : Int) (k : Int) (by omega) (by omega) (by rw [ky2]; omega) (by omega)
    rw [h, ky1, Int.toNat_natCast, Nat.mul_one]
    rfl
  have AL := Lib.hid (alive_ok w hg)
  have HG := Lib.hid hg
  obtain ⟨v, hv⟩ : ∃ v : Nat, 4090 + n % 12 = (v : Int) := ⟨(4090 + n % 12).toNat, by omega⟩
  obtain ⟨k, hk⟩ : ∃ v : Nat, 16380 + m % 8 = (v : Int) := ⟨(16380 + m % 8).toNat, by omega⟩
  have hv1 : 4090 ≤ v ∧ v ≤ 4101 := by omega
  have hk1 : 16380 ≤ k ∧ k ≤ 16387 := by omega
  have MK := fun V => mkI v V (by omega)
  have MK2 : ∀ V : World, (Instr.makeSlice 22 (.int .i64 200) (.int .i64 200)).run Tryd.prog V = .ok (.slice (some ⟨V.heap.size, 0, none⟩) 200 200) (V.alloc (.cells (madeCells #[.int .i64 0] 200) 3)) := fun V => mkI 200 V (by omega)
  clear hg mkI
  go_enter Tryd.func5, Tryd.ntmps5
  go_wp2_with fail
  refine AL.out.mono ?_; rintro e w1 ⟨rfl, hb1⟩
  have HB1 := Lib.hid hb1
  clear hb1
  have hb2 : Below w.heap.size w (w1.alloc (.cells (madeCells #[.int .i64 0] v) 3)) := HB1.out.alloc HB1.out.size _
  have hsv := zeros_seq w1 3 v (by omega)
  have HB2 := Lib.hid hb2
  by_cases hbig : 4096 < v
  · have NB := Lib.hid (new_bad (List.replicate v 0) [] _ (.slice none 0 0) _ hsv (Or.inl ⟨rfl, _, _, rfl⟩) (fun e he => by simp at he) (by simp; omega) (Nat.zero_le _) 6 0 (fault_large (Or.inl (by simpa using hbig))))
    have t1 : decide ((4096 : Int) < v) = true := decide_eq_true (by omega)
    have t1' : decide (4096 < v) = true := decide_eq_true hbig
    clear hsv hb2
    go_wp2_with fail
    refine NB.out.mono ?_; rintro e w3 ⟨u, rfl, hF, hb3⟩
    have CF := Lib.hid (code_f7 hF (HG.out.below (HB2.out.trans (hb3.mono HB2.out.size)) (Nat.le_refl _)))
    have HB3 := Lib.hid (HB2.out.trans (hb3.mono HB2.out.size))
    obtain ⟨fb, fs, rfl, _⟩ := hF
    clear hb3
    go_wp2_with fail
    refine CF.out.mono ?_; rintro e w4 ⟨rfl, hb4⟩
    have HB4 := Lib.hid (HB3.out.trans (hb4.mono HB3.out.size))
    clear hb4
    go_wp2_with fail
    go_ret
    exact ⟨rfl, HB4.out⟩
  · have NG := Lib.hid (new_good (List.replicate v 0) [] _ (.slice none 0 0) _ hsv (Or.inl ⟨rfl, _, _, rfl⟩) (fun e he => by simp at he) (fault_zeros v (Nat.zero_le _) (good_nil _) (by omega)))
    have t1 : decide ((4096 : Int) < v) = false := decide_eq_false (by omega)
    have t1' : decide (4096 < v) = false := decide_eq_false (by omega)
    have t2 : ((v : Int) != v) = false := by simp
    clear hsv hb2
    go_wp2_with fail
    refine NG.out.mono ?_; rintro e w3 ⟨g, rfl, hG, hb3⟩
    have LN := len_any hG
    rw [List.length_replicate] at LN
    have HLN := Lib.hid LN
    have HB3 := Lib.hid (HB2.out.trans (hb3.mono HB2.out.size))
    clear hb3 hG LN
    go_wp2_with fail
    refine HLN.out.mono ?_; rintro e w4 ⟨rfl, hw⟩; obtain rfl := hw.symm
    go_wp2_with fail
    go_loopg [9, 10] 200 (fun gh rv yv wr => ∃ (a : Nat) (E : List (Int × Int)), a ≤ 200 ∧ gh = 200 - a ∧ yv = .int .i64 (a : Nat) ∧ wr.ownsRow w.heap.size 47 2 rv E.length (eL E) ∧ Below w.heap.size w wr ∧ Gen (a : Int) ((a : Int) + 1) E ∧ E.length ≤ k ∧ (E.length = k ∨ E.length = fL a))
    case atStart => exact ⟨0, [], by omega, rfl, rfl, World.ownsRow_nil _ _ _ 2, HB3.out, ⟨List.Pairwise.nil, fun e he => by simp at he⟩, Nat.zero_le _, Or.inr rfl⟩
    case round =>
      obtain ⟨a, E, ha, rfl, rfl, hown, hB, hgen, hEk, hcnt⟩ := hrel
      obtain ⟨A, c, rfl⟩ := own_form hown
      by_cases hlt : E.length < k
      · have hcf : E.length = fL a := by omega
        have ha2 : a < 199 := by
          rcases Nat.lt_or_ge a 199 with h | h
          · exact h
          · have := fL_mono h; rw [fL_top] at this; omega
        obtain ⟨q, hq⟩ : ∃ q, E.length = q := ⟨_, rfl⟩
        have t3 : decide ((q : Int) < k) = true := decide_eq_true (by omega)
        have t3' : decide (q < k) = true := decide_eq_true (by omega)
        have HE := Lib.hid hown; have HBB := Lib.hid hB; have HGEN := Lib.hid hgen; have HCF := Lib.hid hcf; have HEK := Lib.hid hEk
        rw [hq] at HE ⊢
        have HQ := Lib.hid hq
        clear hown hB hgen hEk hcnt hlt hcf hq
        go_wp2_with fail
        go_loopg [9, 11] (200 - (a + 1)) (fun gh rv yv wr => ∃ (b : Nat) (F : List (Int × Int)), b ≤ 200 ∧ a < b ∧ gh = 200 - b ∧ yv = .int .i64 (b : Nat) ∧ wr.ownsRow w.heap.size 47 2 rv F.length (eL F) ∧ Below w.heap.size w wr ∧ Gen (a : Int) (b : Int) F ∧ F.length ≤ k ∧ F.length = fL a + (b - (a + 1)))
        case atStart => exact ⟨a + 1, E, by omega, by omega, rfl, by go_num, by rw [HQ.out]; exact HE.out, HBB.out, HGEN.out, HEK.out, by have := HCF.out; omega⟩
        case round =>
          obtain ⟨b, F, hb, hab, rfl, rfl, hown, hB, hgen, hFk, hcnt⟩ := hrel
          obtain ⟨A2, c2, rfl⟩ := own_form hown
          obtain ⟨r, hr⟩ : ∃ r, F.length = r := ⟨_, rfl⟩
          rw [hr] at hown hFk hcnt ⊢
          have HB := Lib.hid hB; have HGN := Lib.hid hgen; have HR := Lib.hid hr; have HC := Lib.hid hcnt
          by_cases hb2 : b < 200
          · have t4 : decide ((b : Int) < 200) = true := decide_eq_true (by omega)
            have t4' : decide (b < 200) = true := decide_eq_true hb2
            by_cases hrk : r < k
            · have t5 : decide ((r : Int) < k) = true := decide_eq_true (by omega)
              have t5' : decide (r < k) = true := decide_eq_true hrk
              have HOW := Lib.hid (hown.alloc (.cells #[.int .i64 b, .int .i64 a] 47))
              have hb3 : Below w.heap.size w (wr.alloc (.cells #[.int .i64 b, .int .i64 a] 47)) := hB.alloc hB.size _
              have hs2 := hb3.size
              have HB2' := Lib.hid hb3
              have HN2 := Lib.hid (edges_new wr 47 b a 1)
              have HGS := Lib.hid (hgen.snoc (by omega) (by omega) (by omega))
              have HRK := Lib.hid hrk; have HBL := Lib.hid hb2; have HABL := Lib.hid hab
              clear hown hB hgen hr hcnt hb3 hrk hb2
              go_wp2_with (at_builtin; refine wpList_appEdges _ rfl _ _ 30 47 rfl w.heap.size j0 (.agg #[.int .i64 0, .int .i64 0]) Tryd.underlying30 hj0 hz0 rfl hz1 hz2 _ r _ rfl HOW.out _ [((b : Int), (a : Int))] rfl HN2.out (by simp; omega) hs2 ?_)
              intro A3 c3 w7 hown3 hgrow3
              have HB3' := Lib.hid (hgrow3.below HOW.out HB2'.out (Nat.le_refl _) hs2)
              have HO3 := Lib.hid hown3
              clear hown3 hgrow3
              go_wp2_with fail
              go_roundg (200 - (b + 1))
              case rel =>
                have h1 := HRK.out; have h2 := HBL.out; have h3 := HABL.out; have h4 := HR.out; have h5 := HC.out
                exact ⟨b + 1, F ++ [((b : Int), (a : Int))], by omega, by omega, rfl, by go_num, by rw [List.length_append, eL_app, h4]; exact HO3.out, HB3'.out, by have := HGS.out; simpa using this, by simp; omega, by simp; omega⟩
              case measure => have := HBL.out; omega
            · have t5 : decide ((r : Int) < k) = false := decide_eq_false (by omega)
              have t5' : decide (r < k) = false := decide_eq_false hrk
              have HO := Lib.hid hown
              have hrk' : r = k := by omega
              have HRK := Lib.hid hrk'
              clear hown hB hgen hr hcnt hrk hrk'
              go_wp2_with fail
              go_roundg (200 - (a + 1))
              case rel =>
                have h4 := HR.out; have h5 := HRK.out
                exact ⟨a + 1, F, by omega, rfl, by go_num, by rw [h4]; exact HO.out, HB.out, HGN.out.later (Or.inl (Or.inl (by show (a : Int) < ((a + 1 : Nat) : Int); omega))), by omega, Or.inl (by omega)⟩
              case measure => omega
          · have hbe : b = 200 := by omega
            have t4 : decide ((b : Int) < 200) = false := decide_eq_false (by omega)
            have t4' : decide (b < 200) = false := decide_eq_false hb2
            have HO := Lib.hid hown; have HBE := Lib.hid hbe
            clear hown hB hgen hr hcnt hb2 hbe
            go_wp2_with fail
            go_roundg (200 - (a + 1))
            case rel =>
              have h4 := HR.out; have h5 := HC.out; have h6 := HBE.out
              exact ⟨a + 1, F, by omega, rfl, by go_num, by rw [h4]; exact HO.out, HB.out, HGN.out.later (Or.inl (Or.inl (by show (a : Int) < ((a + 1 : Nat) : Int); omega))), by omega, Or.inr (by rw [fL]; omega)⟩
            case measure => omega
      · have hek : E.length = k := by omega
        have t3 : decide ((k : Int) < k) = false := by simp
        have t3' : decide (k < k) = false := by simp
        rw [hek] at hown ⊢
        have hb5 : Below w.heap.size w (wr.alloc (.cells (madeCells #[.int .i64 0] 200) 3)) := hB.alloc hB.size _
        have hs5 := zeros_seq wr 3 200 (by omega)
        have hev : EdgesV (wr.alloc (.cells (madeCells #[.int .i64 0] 200) 3)) (.slice A k c) E := (own_edges hown).below ((Below.refl _ _).alloc (Nat.le_refl _) _) (Nat.le_refl _)
        have HB5 := Lib.hid hb5
        by_cases hk2 : 16384 < k
        · have NB := Lib.hid (new_bad (List.replicate 200 0) E _ _ _ hs5 hev hgen.in64 (by simp) (by omega) 6 0 (fault_large (Or.inr (by omega))))
          have t6 : decide ((16384 : Int) < k) = true := decide_eq_true (by omega)
          have t6' : decide (16384 < k) = true := decide_eq_true hk2
          clear hown hB hgen hEk hcnt hlt hek hb5 hs5 hev
          go_wp2_with fail
          refine NB.out.mono ?_; rintro e w6 ⟨u, rfl, hF, hb6⟩
          have CF := Lib.hid (code_f7 hF (HG.out.below (HB5.out.trans (hb6.mono HB5.out.size)) (Nat.le_refl _)))
          have HB6 := Lib.hid (HB5.out.trans (hb6.mono HB5.out.size))
          obtain ⟨fb, fs, rfl, _⟩ := hF
          clear hb6
          go_wp2_with fail
          refine CF.out.mono ?_; rintro e w7 ⟨rfl, hb7⟩
          have HB7 := Lib.hid (HB6.out.trans (hb7.mono HB6.out.size))
          clear hb7
          go_wp2_with fail
          go_ret
          exact ⟨rfl, HB7.out⟩
        · have NG2 := Lib.hid (new_good (List.replicate 200 0) E _ _ _ hs5 hev hgen.in64 (fault_zeros 200 (by omega) hgen.good (by omega)))
          have t6 : decide ((16384 : Int) < k) = false := decide_eq_false (by omega)
          have t6' : decide (16384 < k) = false := decide_eq_false hk2
          have t7 : ((k : Int) == k) = true := by simp
          have HEK := Lib.hid hek
          clear hown hB hgen hEk hcnt hlt hek hb5 hs5 hev
          go_wp2_with fail
          refine NG2.out.mono ?_; rintro e w6 ⟨g2, rfl, hG, hb6⟩
          have SZ := size_any hG
          rw [sortE_len, HEK.out] at SZ
          have HSZ := Lib.hid SZ
          have HB6 := Lib.hid (HB5.out.trans (hb6.mono HB5.out.size))
          have HCN := Lib.hid (code_nil w6)
          clear hb6 hG SZ
          go_wp2_with fail
          refine HCN.out.mono ?_; rintro e w7 ⟨rfl, hw⟩; obtain rfl := hw
          go_wp2_with fail
          refine HSZ.out.mono ?_; rintro e w7 ⟨rfl, hw⟩; obtain rfl := hw.symm
          go_wp2_with fail
          go_ret
          exact ⟨rfl, HB6.out⟩
end Go.Proofs.YtfngkbpoefapdaaDoor
