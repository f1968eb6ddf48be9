/- pat: Text. -/
import Derived.Test.YtgolcogigpnbeaaGreatDoorJoin
import Derived.Test.YtgolcogigpnbeaaGreatDoorPatRightP
import Derived.Test.YtgolcogigpnbeaaGreatDoorPairsV
import Derived.Laws.MakeOwn
import Derived.Laws.OwnMore
import Derived.Deep.RegionHeld3
import Derived.Deep.DrawnRows
namespace Go.Proofs.YtgolcogigpnbeaaGreatDoor
open Go.RowKit

theorem Tryz.infoStr : (Tryz.prog.info? 9).map (fun i => (i.zero, i.size, i.bytes)) = some (some (.string ⟨#[]⟩), 1, 16) := by kernel_rfl
/-- The first texts of a block of n. -/
def StrsTo (w : World) (g n k : Nat) (S : Nat → List UInt8) : Prop := ∃ cs, Whole w g 9 cs ∧ cs.size = n ∧ ∀ i, i < k → cs[i]? = some (.string (str (S i)))
theorem StrsTo.made (w : World) (n : Nat) (S : Nat → List UInt8) : StrsTo (w.alloc (.cells (madeCells #[.string ⟨#[]⟩] n) 9)) w.heap.size n 0 S :=
  ⟨_, Whole.new _ _ _, size_madeCells _ _, fun i h => absurd h (Nat.not_lt_zero i)⟩
theorem StrsTo.below {w w' : World} {g n k : Nat} {S : Nat → List UInt8} (h : StrsTo w g n k S) (hb : Below w.heap.size w w') : StrsTo w' g n k S := by
  obtain ⟨cs, h1, h2, h3⟩ := h
  exact ⟨cs, h1.below hb h1.lt, h2, h3⟩
theorem StrsTo.lt {w : World} {g n k : Nat} {S : Nat → List UInt8} (h : StrsTo w g n k S) : g < w.heap.size := by
  obtain ⟨cs, h1, _⟩ := h
  exact h1.lt
theorem StrsTo.put {w : World} {g n k : Nat} {S : Nat → List UInt8} (h : StrsTo w g n k S) (hk : k < n) {s : ByteArray} (hs : s = str (S k)) : StrsTo (w.setCell ⟨g, k, none⟩ (.string s)) g n (k + 1) S := by
  obtain ⟨cs, h1, h2, h3⟩ := h
  refine ⟨_, h1.put k _, by simpa using h2, fun i hi => ?_⟩
  rcases Nat.lt_or_ge i k with h | h
  · rw [Array.getElem?_setIfInBounds_ne (by omega)]
    exact h3 i h
  · obtain rfl : i = k := by omega
    rw [Array.getElem?_setIfInBounds_self_of_lt (by omega), hs]
theorem StrsTo.other {w : World} {g n k : Nat} {S : Nat → List UInt8} (h : StrsTo w g n k S) {p : Addr} (hp : g ≠ p.block) (u : Value) : StrsTo (w.setCell p u) g n k S := by
  obtain ⟨cs, h1, h2, h3⟩ := h
  exact ⟨cs, h1.other hp u, h2, h3⟩
theorem StrsTo.all {w : World} {g n : Nat} {S : Nat → List UInt8} (h : StrsTo w g n n S) : StrsL w (.slice (some ⟨g, 0, none⟩) n n) ((List.range n).map S) := by
  obtain ⟨cs, h1, h2, h3⟩ := h
  rcases Nat.eq_zero_or_pos n with h0 | h0
  · subst h0
    exact Or.inl ⟨rfl, _, _, rfl⟩
  · refine Or.inr ⟨by simpa using h0, g, 0, n, by simp, by simp, fun i hi => ?_⟩
    have hi' : i < n := by simpa using hi
    rw [Nat.zero_add, h1.cell, h3 i hi']
    simp [List.getD, hi']
theorem StrsTo.slot {w : World} {g n k : Nat} {S : Nat → List UInt8} (h : StrsTo w g n k S) {i : Nat} (hi : i < n) : (∃ u, w.cell? ⟨g, i, none⟩ = some u) ∧ w.frozen? ⟨g, i, none⟩ = false := by
  obtain ⟨cs, h1, h2, _⟩ := h
  exact ⟨⟨cs[i]'(by omega), by rw [h1.cell, Array.getElem?_eq_getElem (by omega)]⟩, h1.free i⟩
theorem make_strs (k : Nat) (V : World) (hk : k ≤ 1000000) : (Instr.makeSlice 71 (.int .i64 (k : Nat)) (.int .i64 (k : Nat))).run Tryz.prog V = .ok (.slice (some ⟨V.heap.size, 0, none⟩) k k) (V.alloc (.cells (madeCells #[.string ⟨#[]⟩] k) 9)) := by
  obtain ⟨j1, hi1, ky0, ky1, ky2⟩ := info_parts Tryz.infoStr
  have h := run_make (P := Tryz.prog) V 71 9 j1 (.string ⟨#[]⟩) Tryz.underlying71 hi1 ky0 .i64 .i64 (k : Int) (k : Int) (by omega) (by omega) (by rw [ky2]; omega) (by omega)
  rw [h, ky1, Int.toNat_natCast, Nat.mul_one]
  rfl
theorem range_map_getD {α β : Type _} (f : α → β) (d : α) (L : List α) : (List.range L.length).map (fun i => f (L.getD i d)) = L.map f := by
  apply List.ext_getElem
  · simp
  · intro i h1 h2
    simp at h1
    simp [List.getD, h1]
theorem dec_len6 {n : Nat} (h : n < 1000000) : (Lib.decDigits n).length ≤ 6 := (dec_len_iff n 6 (by decide)).2 (by omega)
theorem joinB_le {b : UInt8} {P : List (List UInt8)} {c : Nat} (h : ∀ p ∈ P, p.length ≤ c) : (joinB b P).length ≤ (c + 1) * P.length := by
  rcases P with _ | ⟨p, t⟩
  · simp [joinB]
  · have h1 := joinB_len (b := b) (P := p :: t) (by simp)
    have h2 : ∀ Q : List (List UInt8), (∀ q ∈ Q, q.length ≤ c) → (Q.map List.length).sum ≤ c * Q.length := fun Q => by
      induction Q with
      | nil => intro _; simp
      | cons q u ih =>
        intro hq
        have := ih (fun x hx => hq x (List.mem_cons_of_mem _ hx))
        have := hq q (by simp)
        rw [List.map_cons, List.sum_cons, List.length_cons, Nat.mul_succ]
        omega
    have := h2 _ h
    rw [Nat.succ_mul]
    omega

set_option maxRecDepth 100000 in
set_option maxHeartbeats 4000000 in
theorem text_any {w : World} {vl ve : Value} {L : List Int} {E : List (Int × Int)} (hg : GT w) (hl : SeqV w vl L) (he : EdgesV w ve E) (k1 : L.length ≤ 10000) (k2 : E.length ≤ 10000) (hs : SmallP L E) :
    Calls Tryz.prog 11 #[.agg #[vl, ve]] w fun e w' => e = .returned (.string (str (patT L E))) ∧ Below w.heap.size w w' := by
  have HG := Lib.hid hg; have HSM := Lib.hid hs
  obtain ⟨Al, cl, rfl⟩ := IntsV.form hl
  obtain ⟨Ae, ce, rfl⟩ := he.form
  obtain ⟨n, hn⟩ : ∃ n, L.length = n := ⟨_, rfl⟩
  obtain ⟨m, hm⟩ : ∃ m, E.length = m := ⟨_, rfl⟩
  have hl' : IntsV w (.slice Al L.length cl) L.length (fun i => L.getD i 0) := hl
  rw [hn] at hl' k1 ⊢
  rw [hm] at he k2 ⊢
  have hb1 : Below w.heap.size w (w.alloc (.cells #[.slice Al n cl, .slice Ae m ce] 31)) := (Below.refl _ _).alloc (Nat.le_refl _) _
  obtain ⟨w1, hw1⟩ : ∃ W, w.alloc (.cells #[.slice Al n cl, .slice Ae m ce] 31) = W := ⟨_, rfl⟩
  obtain ⟨xb, hxb⟩ : ∃ g, w.heap.size = g := ⟨_, rfl⟩
  have hx := Whole.new w 31 #[.slice Al n cl, .slice Ae m ce]
  rw [hw1] at hx hb1
  rw [hxb] at hx
  have hst := StrsTo.made w1 n (fun i => decI (L.getD i 0))
  have hb2 := hb1.alloc hb1.size (.cells (madeCells #[.string ⟨#[]⟩] n) 9)
  have hx2 := hx.alloc (.cells (madeCells #[.string ⟨#[]⟩] n) 9)
  have mk := make_strs n w1 (by omega)
  obtain ⟨w2, hw2⟩ : ∃ W, w1.alloc (.cells (madeCells #[.string ⟨#[]⟩] n) 9) = W := ⟨_, rfl⟩
  obtain ⟨sb, hsb⟩ : ∃ g, w1.heap.size = g := ⟨_, rfl⟩
  rw [hw2] at hst hb2 hx2 mk
  rw [hsb] at hst mk
  have hsx : xb < sb := by rw [← hsb]; exact hx.lt
  have HL := Lib.hid hl'; have HE := Lib.hid he; have HN := Lib.hid hn; have HM := Lib.hid hm; have HB2 := Lib.hid hb2; have HW1 := Lib.hid hw1; have HXB := Lib.hid hxb; have HX2 := Lib.hid hx2; have HST := Lib.hid hst; have HSX := Lib.hid hsx
  have hwx : w.heap.size = xb := hxb
  have c0 : w1.cell? ⟨xb, 0, none⟩ = some (.slice Al n cl) := hx.cell 0
  have c1 : w2.cell? ⟨xb, 0, none⟩ = some (.slice Al n cl) := hx2.cell 0
  clear hl hl' he hn hm hb1 hw1 hxb hx hg hs hst hb2 hx2 hw2 hsb hsx hwx
  go_enter Tryz.func11, Tryz.ntmps11
  go_upto_region 1 with fail
  rw [HW1.out, HXB.out]
  go_wp2_with fail
  go_loopg [16] n (fun g y wr => ∃ k, k ≤ n ∧ g = n - k ∧ y = .int .i64 (k : Nat) ∧ StrsTo wr sb n k (fun i => decI (L.getD i 0)) ∧ Below w.heap.size w wr ∧ Whole wr xb 31 #[.slice Al n cl, .slice Ae m ce])
  case atStart => exact ⟨0, Nat.zero_le _, rfl, rfl, HST.out, HB2.out, HX2.out⟩
  case round =>
    obtain ⟨k, hk, rfl, rfl, hS, hB, hX⟩ := hrel
    by_cases hlt : k < n
    · obtain ⟨b, off, rfl, hc⟩ := (HL.out.below hB (Nat.le_refl _)).pos hlt
      have d0 := hc k hlt
      have hsm := HSM.out.1 (L.getD k 0) (by rw [show L.getD k 0 = L[k]'(by rw [HN.out]; exact hlt) by simp [List.getD, HN.out, hlt]]; exact List.getElem_mem _)
      obtain ⟨x, hx⟩ : ∃ x : Nat, L.getD k 0 = x := ⟨(L.getD k 0).toNat, by omega⟩
      have hxd : decI (L.getD k 0) = Lib.decDigits x := by unfold decI; rw [hx, Int.toNat_natCast]
      rw [hx] at d0 hsm
      have t3 : decide (k < n) = true := decide_eq_true hlt
      have j1 : (k : Int) < n := by omega
      have j2 : (0 : Int) ≤ k := by omega
      have hIT := itoa_at x (by omega) wr (HG.out.below hB (Nat.le_refl _))
      obtain ⟨s, hs⟩ : ∃ s, str (Lib.decDigits x) = s := ⟨_, rfl⟩
      rw [hs] at hIT
      have HIT := Lib.hid hIT
      have HSS : Hid (s = str (decI (L.getD k 0))) := Lib.hid (by rw [hxd, hs])
      have HLT := Lib.hid hlt; have HS := Lib.hid hS; have HB := Lib.hid hB; have HX := Lib.hid hX
      clear hc hx hxd hs hIT hlt hS hB hX hsm
      go_wp2_with fail
      refine HIT.out.mono ?_; rintro e w4 ⟨rfl, hb4⟩
      have hS4 := HS.out.below hb4
      obtain ⟨⟨u0, cS⟩, fS⟩ := hS4.slot HLT.out
      have hB4 := HB.out.trans (hb4.mono HB.out.size)
      have HS5 := Lib.hid (hS4.put HLT.out HSS.out)
      have HB5 := Lib.hid (hB4.setCell (p := ⟨sb, k, none⟩) (by have := HSX.out; have := HXB.out; show w.heap.size ≤ sb; omega) (.string s))
      have HX5 := Lib.hid ((HX.out.below hb4 HX.out.lt).other (p := ⟨sb, k, none⟩) (by have := HSX.out; show xb ≠ sb; omega) (.string s))
      clear hS4 hB4 hb4
      go_wp2_with fail
      go_roundg (n - (k + 1))
      case rel => exact ⟨k + 1, HLT.out, rfl, by go_num, HS5.out, HB5.out, HX5.out⟩
      case measure => have := HLT.out; omega
    · obtain rfl : k = n := by omega
      have t3 : decide (k < k) = false := by simp
      have hst2 := StrsTo.made wr m (fun i => edgeT (E.getD i (0, 0)))
      have hb5 := hB.alloc hB.size (.cells (madeCells #[.string ⟨#[]⟩] m) 9)
      have hx5 := hX.alloc (.cells (madeCells #[.string ⟨#[]⟩] m) 9)
      have hS5 : StrsTo (wr.alloc (.cells (madeCells #[.string ⟨#[]⟩] m) 9)) sb k k (fun i => decI (L.getD i 0)) := hS.below ((Below.refl _ _).alloc (Nat.le_refl _) _)
      have mk2 := make_strs m wr (by omega)
      have hsb2 : sb < wr.heap.size := hS.lt
      obtain ⟨w5, hw5⟩ : ∃ W, wr.alloc (.cells (madeCells #[.string ⟨#[]⟩] m) 9) = W := ⟨_, rfl⟩
      obtain ⟨tb, htb⟩ : ∃ g, wr.heap.size = g := ⟨_, rfl⟩
      rw [hw5] at hst2 hb5 hx5 hS5 mk2
      rw [htb] at hst2 mk2 hsb2
      have x1 : wr.cell? ⟨xb, 1, none⟩ = some (.slice Ae m ce) := hX.cell 1
      have y1 : w5.cell? ⟨xb, 1, none⟩ = some (.slice Ae m ce) := hx5.cell 1
      have HS2 := Lib.hid hst2; have HB5 := Lib.hid hb5; have HX5 := Lib.hid hx5; have HS5 := Lib.hid hS5; have HTB := Lib.hid hsb2
      clear hst2 hb5 hx5 hS5 hw5 htb hsb2 hS hB hX hlt
      go_wp2_with fail
      go_loopg [34] m (fun g y wr => ∃ j, j ≤ m ∧ g = m - j ∧ y = .int .i64 (j : Nat) ∧ StrsTo wr tb m j (fun i => edgeT (E.getD i (0, 0))) ∧ StrsTo wr sb k k (fun i => decI (L.getD i 0)) ∧ Below w.heap.size w wr ∧ Whole wr xb 31 #[.slice Al k cl, .slice Ae m ce])
      case atStart => exact ⟨0, Nat.zero_le _, rfl, rfl, HS2.out, HS5.out, HB5.out, HX5.out⟩
      case round =>
        obtain ⟨j, hj, rfl, rfl, hS2, hS, hB, hX⟩ := hrel
        by_cases hlt : j < m
        · have hjE : j < E.length := by rw [HM.out]; exact hlt
          obtain ⟨b, off, rfl, d0, d1⟩ := (HE.out.below hB (Nat.le_refl _)).pos (i := j) hjE
          have hsm := HSM.out.2 _ (getD_memE hjE)
          obtain ⟨x, hx⟩ : ∃ x : Nat, (E.getD j (0, 0)).1 = x := ⟨(E.getD j (0, 0)).1.toNat, by omega⟩
          obtain ⟨q, hq⟩ : ∃ x : Nat, (E.getD j (0, 0)).2 = x := ⟨(E.getD j (0, 0)).2.toNat, by omega⟩
          have het : edgeT (E.getD j (0, 0)) = Lib.decDigits x ++ 45 :: Lib.decDigits q := by unfold edgeT decI; rw [hx, hq, Int.toNat_natCast, Int.toNat_natCast]
          rw [hx] at d0 hsm
          rw [hq] at d1 hsm
          have t5 : decide (j < m) = true := decide_eq_true hlt
          have j1 : (j : Int) < m := by omega
          have j2 : (0 : Int) ≤ j := by omega
          have hb6 : Below w.heap.size w (wr.alloc (.cells #[.int .i64 x, .int .i64 q] 62)) := hB.alloc hB.size _
          have hX6 := hX.alloc (.cells #[.int .i64 x, .int .i64 q] 62)
          have hG6 := Whole.new wr 62 #[.int .i64 x, .int .i64 q]
          have hba : Below wr.heap.size wr (wr.alloc (.cells #[.int .i64 x, .int .i64 q] 62)) := (Below.refl _ _).alloc (Nat.le_refl _) _
          have hS6 := hS.below hba
          have hT6 := hS2.below hba
          obtain ⟨w6, hw6⟩ : ∃ W, wr.alloc (.cells #[.int .i64 x, .int .i64 q] 62) = W := ⟨_, rfl⟩
          obtain ⟨gb, hgb⟩ : ∃ g, wr.heap.size = g := ⟨_, rfl⟩
          have htg : tb < gb := by rw [← hgb]; exact hS2.lt
          rw [hw6] at hb6 hX6 hG6 hS6 hT6
          rw [hgb] at hG6
          have e0 : w6.cell? ⟨gb, 0, none⟩ = some (.int .i64 x) := hG6.cell 0
          have e1 : w6.cell? ⟨gb, 1, none⟩ = some (.int .i64 q) := hG6.cell 1
          obtain ⟨D, hD⟩ : ∃ D : Nat → ByteArray, ∀ n, str (Lib.decDigits n) = D n := ⟨_, fun _ => rfl⟩
          have HIT : Hid (∀ (n : Nat) (W : World), n < 1000000 → Below w6.heap.size w6 W → Calls Tryz.prog 37 #[.int .i64 n] W fun e w' => e = .returned (.string (D n)) ∧ Below w6.heap.size w6 w') := Lib.hid (fun n W hn hb => by
            rw [← hD n]
            exact (itoa_at n (by omega) W ((HG.out.below hb6 (Nat.le_refl _)).below hb (Nat.le_refl _))).mono fun e w' ⟨h1, h2⟩ => ⟨h1, hb.trans (h2.mono hb.size)⟩)
          have z1 : (D x).size ≤ 6 := by rw [← hD, str_size]; exact dec_len6 (by omega)
          have z2 : (D q).size ≤ 6 := by rw [← hD, str_size]; exact dec_len6 (by omega)
          have HSS : Hid ((D x ++ ⟨#[45]⟩) ++ D q = str (edgeT (E.getD j (0, 0)))) := Lib.hid (by
            rw [het, ← hD, ← hD, show (⟨#[45]⟩ : ByteArray) = str [45] from rfl, str_append, str_append]; simp)
          have b1 : x < 1000000 := by omega
          have b2 : q < 1000000 := by omega
          have KS := Lib.hid (fun (W : World) (hb : Below w6.heap.size w6 W) => (show W.cell? ⟨gb, 0, none⟩ = some (.int .i64 x) ∧ W.cell? ⟨gb, 1, none⟩ = some (.int .i64 q) from
            ⟨(hb.cell (p := ⟨gb, 0, none⟩) hG6.lt).trans e0, (hb.cell (p := ⟨gb, 1, none⟩) hG6.lt).trans e1⟩))
          have HLT := Lib.hid hlt; have HS6 := Lib.hid hS6; have HT6 := Lib.hid hT6; have HB6 := Lib.hid hb6; have HX6 := Lib.hid hX6; have HG6 := Lib.hid hG6; have HW6 := Lib.hid hw6; have HGB := Lib.hid hgb; have HTG := Lib.hid htg
          clear hjE hsm hx hq het hb6 hX6 hG6 hba hS6 hT6 hw6 hgb htg hD hlt hS2 hS hB hX
          go_upto_region 11 with fail
          rw [HW6.out, HGB.out]
          have KS2 := Lib.hid (fun (W : World) (u : Value) (hb : Below w6.heap.size w6 W) => (show (W.setCell ⟨tb, j, none⟩ u).cell? ⟨gb, 0, none⟩ = some (.int .i64 x) ∧ (W.setCell ⟨tb, j, none⟩ u).cell? ⟨gb, 1, none⟩ = some (.int .i64 q) from
            have h := (HG6.out.below hb HG6.out.lt).other (p := ⟨tb, j, none⟩) (by have := HTG.out; show gb ≠ tb; omega) u
            ⟨h.cell 0, h.cell 1⟩))
          have KT : ∀ (W : World), Below w6.heap.size w6 W → (∃ u, W.cell? ⟨tb, j, none⟩ = some u) ∧ W.frozen? ⟨tb, j, none⟩ = false := fun W hb => (HT6.out.below hb).slot HLT.out
          have n1 : ¬ 9223372036854775807 < (D x).size + 1 := by omega
          have n2 : ¬ 9223372036854775807 < (D x).size + 1 + (D q).size := by omega
          have n3 : ¬ 9223372036854775807 < (D x ++ (⟨#[45]⟩ : ByteArray)).size + (D q).size := by rw [ByteArray.size_append]; show ¬ _ < _ + 1 + _; omega
          have n4 : ¬ 9223372036854775807 < (D x).size + (⟨#[45]⟩ : ByteArray).size := by show ¬ _ < _ + 1; omega
          have HKT := Lib.hid KT
          clear KT
          go_region_held3 (fun W => W.cell? ⟨gb, 0, none⟩ = some (.int .i64 x) ∧ W.cell? ⟨gb, 1, none⟩ = some (.int .i64 q))
            (first | exact KS.out _ (by first | assumption | exact below_drewN' (Below.refl _ _) _) | exact KS2.out _ _ (by assumption))
            (first
              | (go_at_call 37; refine (HIT.out q _ (by assumption) hb7).mono ?_; rintro e' w8 ⟨rfl, hb8⟩; obtain ⟨⟨u9, cS9⟩, fS9⟩ := HKT.out _ hb8)
              | (go_at_call 37; refine (HIT.out x _ (by assumption) (by first | assumption | exact below_drewN' (Below.refl _ _) _)).mono ?_; rintro e' w7 ⟨rfl, hb7⟩))
          have HT9 := Lib.hid ((HT6.out.below hb8).put HLT.out HSS.out)
          have HS9 := Lib.hid ((HS6.out.below hb8).other (p := ⟨tb, j, none⟩) (by have := HTB.out; show sb ≠ tb; omega) (.string (D x ++ ⟨#[45]⟩ ++ D q)))
          have HX9 := Lib.hid ((HX6.out.below hb8 HX6.out.lt).other (p := ⟨tb, j, none⟩) (by have := HTB.out; have := HSX.out; show xb ≠ tb; omega) (.string (D x ++ ⟨#[45]⟩ ++ D q)))
          have HB9 := Lib.hid ((HB6.out.trans (hb8.mono HB6.out.size)).setCell (p := ⟨tb, j, none⟩) (by have := HTB.out; have := HSX.out; have := HXB.out; show w.heap.size ≤ tb; omega) (.string (D x ++ ⟨#[45]⟩ ++ D q)))
          clear hb7 hb8 n1 n2 n3 n4 cS9 fS9 z1 z2 b1 b2 e0 e1 d0 d1
          go_wp2_with fail
          go_roundg (m - (j + 1))
          case rel => exact ⟨j + 1, HLT.out, rfl, by go_num, HT9.out, HS9.out, HB9.out, HX9.out⟩
          case measure => have := HLT.out; omega
        · obtain rfl : j = m := by omega
          have t5 : decide (j < j) = false := by simp
          have e1 : (List.range k).map (fun i => decI (L.getD i 0)) = L.map decI := by rw [← HN.out]; exact range_map_getD decI 0 L
          have e2 : (List.range j).map (fun i => edgeT (E.getD i (0, 0))) = E.map edgeT := by rw [← HM.out]; exact range_map_getD edgeT (0, 0) E
          have hA := hS.all
          have hC := hS2.all
          rw [e1] at hA
          rw [e2] at hC
          have l1 : (joinB 44 (L.map decI)).length ≤ 7 * k := by
            have := joinB_le (b := 44) (P := L.map decI) (c := 6) (fun p hp => by
              obtain ⟨x, hx, rfl⟩ := List.mem_map.1 hp
              exact dec_len6 (by have := HSM.out.1 x hx; omega))
            rw [List.length_map, HN.out] at this
            exact this
          have l2 : (joinB 44 (E.map edgeT)).length ≤ 14 * j := by
            have := joinB_le (b := 44) (P := E.map edgeT) (c := 13) (fun p hp => by
              obtain ⟨x, hx, rfl⟩ := List.mem_map.1 hp
              have h := HSM.out.2 x hx
              have h1 := dec_len6 (n := x.1.toNat) (by omega)
              have h2 := dec_len6 (n := x.2.toNat) (by omega)
              unfold edgeT decI
              rw [List.length_append, List.length_cons]
              omega)
            rw [List.length_map, HM.out] at this
            exact this
          have J1 := join_any (L.map decI) _ wr hA (by rw [List.length_map, HN.out]; omega) (by omega)
          have J2 : ∀ W, Below wr.heap.size wr W → Calls Tryz.prog 38 #[.slice (some ⟨tb, 0, none⟩) j j, .string ⟨#[44]⟩] W fun e w' => e = .returned (.string (str (joinB 44 (E.map edgeT)))) ∧ Below W.heap.size W w' := fun W hb => join_any (E.map edgeT) _ W (hC.below hb (Nat.le_refl _)) (by rw [List.length_map, HM.out]; omega) (by omega)
          obtain ⟨s1, hs1⟩ : ∃ s, str (joinB 44 (L.map decI)) = s := ⟨_, rfl⟩
          obtain ⟨s2, hs2⟩ : ∃ s, str (joinB 44 (E.map edgeT)) = s := ⟨_, rfl⟩
          have z1 : s1.size ≤ 70000 := by rw [← hs1, str_size]; omega
          have z2 : s2.size ≤ 140000 := by rw [← hs2, str_size]; omega
          have HR : Hid ((s1 ++ ⟨#[124]⟩) ++ s2 = str (patT L E)) := Lib.hid (by
            rw [← hs1, ← hs2, show (⟨#[124]⟩ : ByteArray) = str [124] from rfl, str_append, str_append]
            unfold patT
            simp)
          rw [hs1] at J1
          rw [hs2] at J2
          have z3 : (s1 ++ (⟨#[124]⟩ : ByteArray)).size ≤ 70001 := by rw [ByteArray.size_append]; show _ + 1 ≤ _; omega
          have n1 : ¬ 9223372036854775807 < s1.size + 1 := by omega
          have n2 : ¬ 9223372036854775807 < s1.size + 1 + s2.size := by omega
          have HJ1 := Lib.hid J1; have HJ2 := Lib.hid J2; have HB := Lib.hid hB
          clear e1 e2 hA hC l1 l2 J1 J2 hs1 hs2 hlt hS2 hS hB hX
          go_wp2_with fail
          refine HJ1.out.mono ?_; rintro e w7 ⟨rfl, hb7⟩
          have HJ := Lib.hid (HJ2.out w7 hb7)
          have HB7 := Lib.hid (HB.out.trans (hb7.mono HB.out.size))
          clear hb7
          go_wp2_with fail
          refine HJ.out.mono ?_; rintro e w8 ⟨rfl, hb8⟩
          have HB8 := Lib.hid (HB7.out.trans (hb8.mono HB7.out.size))
          clear hb8
          go_wp2_with fail
          go_ret
          exact ⟨by rw [HR.out]; rfl, HB8.out⟩
end Go.Proofs.YtgolcogigpnbeaaGreatDoor
