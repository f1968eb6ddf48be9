/- SetsPicks: the law. -/
import Derived.Test.YtocpjmjlmccolaaRefPicks
import Derived.Test.YtocpjmjlmccolaaCount
import Derived.Test.YtocpjmjlmccolaaPicks3
import Derived.Test.YtocpjmjlmccolaaSetsW
import Derived.Test.YtocpjmjlmccolaaAlive6
import Derived.Test.YtocpjmjlmccolaaViewU
import Derived.StillTailTactics
import Derived.Sort.LoopGhostIn
import Derived.Test.YtocpjmjlmccolaaOrder6Law
namespace Go.Proofs.Ytocpjmjlmccolaa
open Go.RowKit
attribute [local go_sem] Oper.semAt_some

theorem picks_itO {S : List Int} {k : Int} {O : List (List Int)} (h : Upto S k (2 ^ S.length) O) (hS : Rising S) (v : Value) (Bk Bo : Nat) (w : World) (hn : S.length ≤ 1000000) (hk : w.cell? ⟨Bk, 0, none⟩ = some (.int .i64 k)) (ho : w.cell? ⟨Bo, 0, none⟩ = some v) (hv : SeqV w v S) :
    IterOk Try.prog 34 #[.pointer (some ⟨Bk, 0, none⟩), .pointer (some ⟨Bo, 0, none⟩)] (CpOf Bk Bo S.length v) 3 O.length (fun r => O.getD r []) w := by
  by_cases hk0 : k < 0
  · obtain rfl := h.neg hk0
    exact picks_iter0 S.length k _ v Bk Bo w (Or.inl hk0) hk ho hv _
  · obtain ⟨m, rfl⟩ := Int.eq_ofNat_of_zero_le (show 0 ≤ k by omega)
    obtain rfl := h.all hS
    exact picks_itN S m v Bk Bo w hn hk ho hv
theorem count_O {S : List Int} {k : Int} {O : List (List Int)} (h : Upto S k (2 ^ S.length) O) (hS : Rising S) (hn : S.length ≤ 9) (hk : k ≤ 9223372036854775807) (w : World) :
    Calls Try.prog 27 #[.int .i64 (S.length : Nat), .int .i64 k] w fun e w' => e = .returned (.int .i64 (if k < 0 then -1 else (O.length : Nat))) ∧ Below w.heap.size w w' := by
  by_cases h0 : k < 0
  · rw [if_pos h0]; exact count_neg _ _ _ (by omega) h0
  · rw [if_neg h0]
    obtain ⟨m, rfl⟩ := Int.eq_ofNat_of_zero_le (show 0 ≤ k by omega)
    obtain rfl := h.all hS
    rw [picksL_R, picksR_bin]
    exact count_small _ _ _ hn (by omega)

/-- What stays while the first range goes round. -/
structure R1 (w4 : World) (Tb Rb Wb st : Nat) (vW : Value) (k : Nat) (W : World) : Prop where
  t : Whole W Tb 5 #[.int .u8 st]
  r : Whole W Rb 4 #[.bool false]
  w : Whole W Wb 33 #[vW]
  n : Whole W (Wb + 1) 3 #[.int .i64 k]
  bel : Below w4.heap.size w4 W
theorem R1.kept {w4 : World} {Tb Rb Wb st k r : Nat} {vW : Value} {A A' : World} (h : R1 w4 Tb Rb Wb st vW k A) (hg : A.grownBy A' (some r)) (h1 : Wb + 1 < r) (h2 : Tb < Wb) (h3 : Rb < Wb) (h4 : w4.heap.size ≤ Wb) : R1 w4 Tb Rb Wb st vW k A' :=
  ⟨h.t.grown hg (by simp; omega), h.r.grown hg (by simp; omega), h.w.grown hg (by simp; omega), h.n.grown hg (by simp; omega), h.bel.grown hg h.bel.size (fun j hj => by cases hj; omega)⟩
theorem R1.next {w4 : World} {Tb Rb Wb st k D g : Nat} {vW : Value} {W W3 : World} {Cp : Nat → Prop} (h : R1 w4 Tb Rb Wb st vW k W) (hb : Below (D + 2) W W3) (hgk : W3.heap[g]? = W.heap[g]?) (h4 : w4.heap.size ≤ Wb) (ht : Tb < Wb) (hr : Rb < Wb) (hD : Wb + 2 ≤ D) (hg : D + 2 ≤ g) (hcp : ∀ b, Cp b → Wb + 2 ≤ b ∧ b < D) :
    (W.heap.size ≤ (W3.setCell ⟨Wb + 1, 0, none⟩ (.int .i64 ((k : Int) + 1))).heap.size ∧ ∀ b, (b = D ∨ b = D + 1 ∨ b = g ∨ Cp b) → (W3.setCell ⟨Wb + 1, 0, none⟩ (.int .i64 ((k : Int) + 1))).heap[b]? = W.heap[b]?) ∧
    R1 w4 Tb Rb Wb st vW (k + 1) (W3.setCell ⟨Wb + 1, 0, none⟩ (.int .i64 ((k : Int) + 1))) := by
  have hs3 := hb.size
  refine ⟨⟨by simpa [World.setCell] using hs3, fun b hbb => ?_⟩, ?_⟩
  · rcases hbb with rfl | rfl | rfl | hc
    · rw [Below.heap_setCell _ _ _ _ (by show _ ≠ Wb + 1; omega), hb.block _ (by omega)]
    · rw [Below.heap_setCell _ _ _ _ (by show _ ≠ Wb + 1; omega), hb.block _ (by omega)]
    · rw [Below.heap_setCell _ _ _ _ (by show _ ≠ Wb + 1; omega), hgk]
    · have := hcp b hc
      rw [Below.heap_setCell _ _ _ _ (by show _ ≠ Wb + 1; omega), hb.block _ (by omega)]
  · exact ⟨(h.t.below hb (by omega)).other (by show Tb ≠ Wb + 1; omega) _, (h.r.below hb (by omega)).other (by show Rb ≠ Wb + 1; omega) _, (h.w.below hb (by omega)).other (by show Wb ≠ Wb + 1; omega) _, (h.n.below hb (by omega)).put 0 _,
      (h.bel.trans (hb.mono (by omega))).setCell (by show _ ≤ Wb + 1; omega) _⟩
/-- What the wiping of a slice leaves. -/
def Wiped (D g : Nat) (W : World) (A : Option Addr) (m : Nat) (w2 : World) : Prop :=
  Below (D + 2) W w2 ∧ w2.heap[g]? = W.heap[g]? ∧ (m = 0 ∨ ∃ (pb : Nat) (cs : Array Value), A = some ⟨pb, 0, none⟩ ∧ Whole w2 pb 3 cs ∧ m ≤ cs.size ∧ D + 2 ≤ pb ∧ pb ≠ g)
theorem Wiped.start {D g m c d : Nat} {W : World} {A : Option Addr} {xs : List Value} (h : W.ownsRow (D + 2) 3 1 (.slice A m c) m xs) (hne : (Value.slice A m c).ownBlock ≠ some g) : Wiped D g W A m (W.drewN d) := by
  refine ⟨below_drewN' (Below.refl _ _) d, rfl, ?_⟩
  rcases h.2 with ⟨h1, h2⟩ | ⟨pb, cap, cur, h1, h2, h3, h4, h5⟩
  · exact Or.inl h2
  · injection h1 with e1 e2 e3
    subst e1
    refine Or.inr ⟨pb, cur, rfl, h3, by omega, h2, fun e => hne (by rw [← e]; rfl)⟩
theorem Wiped.put {D g m i pb : Nat} {W w2 : World} {cs : Array Value} (hb : Below (D + 2) W w2) (hgk : w2.heap[g]? = W.heap[g]?) (hw : Whole w2 pb 3 cs) (hm : m ≤ cs.size) (hp : D + 2 ≤ pb) (hpg : pb ≠ g) (u : Value) : Wiped D g W (some ⟨pb, 0, none⟩) m (w2.setCell ⟨pb, i, none⟩ u) := by
  refine ⟨hb.setCell (by simpa using hp) _, ?_, Or.inr ⟨pb, _, rfl, hw.put i u, by simpa using hm, hp, hpg⟩⟩
  rw [Below.heap_setCell _ _ _ _ (by show g ≠ pb; omega), hgk]


set_option maxRecDepth 100000 in
set_option maxHeartbeats 16000000 in
theorem setsPicks_long (L : List Int) (k : Int) (st : Nat) (v : Value) (w : World) (hl : SeqV w v L) (hlL : L.length * 8 ≤ 140737488351232) (hlong : 9 < (ofR L).length) :
    Calls Try.prog 5 #[v, .int .i64 k, .int .u8 st] w fun e w' => e = .returned (.bool true) ∧ Below w.heap.size w w' := by
  obtain ⟨Al, cl, nl, rfl, hnl⟩ : ∃ A c k, v = .slice A k c ∧ L.length = k := by obtain ⟨A, c, rfl⟩ := IntsV.form hl; exact ⟨_, _, _, rfl, rfl⟩
  obtain ⟨w1, hw1⟩ : ∃ W, (w.alloc (.cells #[.int .u8 st] 5)).alloc (.cells #[.bool false] 4) = W := ⟨_, rfl⟩
  have hb0 : Below w.heap.size w w1 := by rw [← hw1]; exact ((Below.refl _ _).alloc (Nat.le_refl _) _).alloc (by simp) _
  have hT1 : Whole w1 w.heap.size 5 #[.int .u8 st] := by rw [← hw1]; exact (Whole.new _ _ _).alloc _
  have hR1 : Whole w1 (w.heap.size + 1) 4 #[.bool false] := by
    rw [← hw1]
    have := Whole.new (w.alloc (.cells #[.int .u8 st] 5)) 4 #[.bool false]
    rwa [World.size_alloc] at this
  have HL := Lib.hid (hl.below hb0 (Nat.le_refl _))
  have HB0 := Lib.hid hb0; have HT := Lib.hid hT1; have HR := Lib.hid hR1; have HW1 := Lib.hid hw1
  clear hl hb0 hT1 hR1 hw1 hnl
  refine (callsIn_wide (n := 6)).1 ?_
  refine callsIn_of_wp_marks Try.func5 rfl trivial ?_ rfl
  simp only [Try.ntmps5, List.size_toArray, List.length_cons, List.length_nil, Nat.reduceAdd, Nat.reduceSub, Array.replicate_succ, Array.replicate_zero, List.push_toArray, List.append_toArray, List.nil_append, List.cons_append]
  refine wpIn_wide.2 ?_
  have Q2 := Lib.hid (alive6_ok w1)
  go_wp2_with fail
  rw [HW1.out]
  clear HW1
  refine Q2.out.mono ?_; rintro e w2 ⟨rfl, hb⟩
  clear Q2
  have HL_2 := Lib.hid (HL.out.below hb (Nat.le_refl _))
  have BW_2 := Lib.hid hb
  clear hb HL
  have Q3 := Lib.hid (of_any L _ w2 HL_2.out hlL)
  go_wp2_with fail
  refine Q3.out.mono ?_; rintro e w3 ⟨v3, rfl, hs, hb⟩
  clear Q3
  have BW_3 := Lib.hid (BW_2.out.trans (hb.mono BW_2.out.size))
  clear hb HL_2 BW_2
  obtain ⟨AS, cS, kS, rfl, hkS⟩ := hs.form; have HKS := Lib.hid hkS; clear hkS
  have HS_3 := Lib.hid hs; clear hs
  have hT3 := HT.out.below BW_3.out HT.out.lt
  have hR3 := HR.out.below BW_3.out HR.out.lt
  have hb3 : Below w.heap.size w w3 := HB0.out.trans (BW_3.out.mono HB0.out.size)
  have HT3 := Lib.hid hT3; have HR3 := Lib.hid hR3; have HB3 := Lib.hid hb3
  have hwl : w.heap.size + 1 < w3.heap.size := hR3.lt
  have t1 : decide ((9 : Int) < kS) = true := decide_eq_true (by have := HKS.out; omega)
  have f3 := hR3.free 0
  have c3 : w3.cell? ⟨w.heap.size + 1, 0, none⟩ = some (.bool false) := hR3.cell 0
  have HF : Hid (Whole (w3.setCell ⟨w.heap.size + 1, 0, none⟩ (.bool true)) (w.heap.size + 1) 4 #[.bool true]) := Lib.hid (hR3.put 0 _)
  have HBF : Hid (Below w.heap.size w (w3.setCell ⟨w.heap.size + 1, 0, none⟩ (.bool true))) := Lib.hid (hb3.setCell (by simp) _)
  clear hT3 hR3 hb3 hlong
  go_wp2_with fail
  exact ⟨_, results_bool rfl _ _ _ _ rfl HF.out, rfl, HBF.out⟩

set_option maxRecDepth 100000 in
set_option maxHeartbeats 16000000 in
theorem setsPicks_law (L : List Int) (k : Int) (st : Nat) (v : Value) (w : World) (hl : SeqV w v L) (hst : st < 256) (hkr : k ≤ 9223372036854775807) (hlL : L.length * 8 ≤ 140737488351232) (hS9 : (ofR L).length ≤ 9) :
    Calls Try.prog 5 #[v, .int .i64 k, .int .u8 st] w fun e w' => e = .returned (.bool true) ∧ Below w.heap.size w w' := by
  obtain ⟨Al, cl, nl, rfl, hnl⟩ : ∃ A c k, v = .slice A k c ∧ L.length = k := by obtain ⟨A, c, rfl⟩ := IntsV.form hl; exact ⟨_, _, _, rfl, rfl⟩
  obtain ⟨w1, hw1⟩ : ∃ W, (w.alloc (.cells #[.int .u8 st] 5)).alloc (.cells #[.bool false] 4) = W := ⟨_, rfl⟩
  have hb0 : Below w.heap.size w w1 := by rw [← hw1]; exact ((Below.refl _ _).alloc (Nat.le_refl _) _).alloc (by simp) _
  have hT1 : Whole w1 w.heap.size 5 #[.int .u8 st] := by rw [← hw1]; exact (Whole.new _ _ _).alloc _
  have hR1 : Whole w1 (w.heap.size + 1) 4 #[.bool false] := by
    rw [← hw1]
    have := Whole.new (w.alloc (.cells #[.int .u8 st] 5)) 4 #[.bool false]
    rwa [World.size_alloc] at this
  have HL := Lib.hid (hl.below hb0 (Nat.le_refl _))
  have HB0 := Lib.hid hb0; have HT := Lib.hid hT1; have HR := Lib.hid hR1; have HW1 := Lib.hid hw1
  clear hl hb0 hT1 hR1 hw1 hnl
  refine (callsIn_wide (n := 6)).1 ?_
  refine callsIn_of_wp_marks Try.func5 rfl trivial ?_ rfl
  simp only [Try.ntmps5, List.size_toArray, List.length_cons, List.length_nil, Nat.reduceAdd, Nat.reduceSub, Array.replicate_succ, Array.replicate_zero, List.push_toArray, List.append_toArray, List.nil_append, List.cons_append]
  refine wpIn_wide.2 ?_
  have Q2 := Lib.hid (alive6_ok w1)
  go_wp2_with fail
  rw [HW1.out]
  clear HW1
  refine Q2.out.mono ?_; rintro e w2 ⟨rfl, hb⟩
  clear Q2
  have HL_2 := Lib.hid (HL.out.below hb (Nat.le_refl _))
  have BW_2 := Lib.hid hb
  clear hb HL
  have Q3 := Lib.hid (of_any L _ w2 HL_2.out hlL)
  go_wp2_with fail
  refine Q3.out.mono ?_; rintro e w3 ⟨v3, rfl, hs, hb⟩
  clear Q3
  have BW_3 := Lib.hid (BW_2.out.trans (hb.mono BW_2.out.size))
  clear hb HL_2 BW_2
  obtain ⟨AS, cS, kS, rfl, hkS⟩ := hs.form; have HKS := Lib.hid hkS; clear hkS
  have HS_3 := Lib.hid hs; clear hs
  have hT3 := HT.out.below BW_3.out HT.out.lt
  have hR3 := HR.out.below BW_3.out HR.out.lt
  have hb3 : Below w.heap.size w w3 := HB0.out.trans (BW_3.out.mono HB0.out.size)
  have HT3 := Lib.hid hT3; have HR3 := Lib.hid hR3; have HB3 := Lib.hid hb3
  have hwl : w.heap.size + 1 < w3.heap.size := hR3.lt
  obtain ⟨S, hS⟩ : ∃ X, ofR L = X := ⟨_, rfl⟩
  have hSr : Rising S := by rw [← hS]; exact (ofR_parts _ L rfl).1
  rw [hS] at HS_3 HKS hS9
  have HSR := Lib.hid hSr; have HSL := Lib.hid hS9; clear hS hSr
  have hk9 : kS ≤ 9 := by rw [← HKS.out]; exact hS9
  have t0 : decide ((9 : Int) < kS) = false := decide_eq_false (by omega)
  have RP := Lib.hid (refPicks_any S k _ w3 HS_3.out.1 HSR.out hS9)
  have HSC := HS_3
  clear hT3 hR3 hb3 hS9
  go_wp2_with fail
  refine RP.out.mono ?_; rintro e w4 ⟨v4, O, rfl, hup, hlist, hb⟩
  obtain ⟨AO, cO, rfl⟩ := hlist.form
  obtain ⟨q, hq⟩ : ∃ q, O.length = q := ⟨_, rfl⟩
  have HUP := Lib.hid hup; have HLI := Lib.hid hlist; have HB4 := Lib.hid hb; have HQ := Lib.hid hq
  rw [hq] at HLI ⊢
  clear hup hlist hb hq RP
  obtain ⟨w5, hw5⟩ : ∃ W, (w4.alloc (.cells #[.slice AO q cO] 33)).alloc (.cells #[.int .i64 0] 3) = W := ⟨_, rfl⟩
  obtain ⟨Wb, hWb⟩ : ∃ b, w4.heap.size = b := ⟨_, rfl⟩
  have hb5 : Below w4.heap.size w4 w5 := by rw [← hw5]; exact ((Below.refl _ _).alloc (Nat.le_refl _) _).alloc (by simp) _
  have hW5 : Whole w5 Wb 33 #[.slice AO q cO] := by rw [← hw5, ← hWb]; exact (Whole.new _ _ _).alloc _
  have hN5 : Whole w5 (Wb + 1) 3 #[.int .i64 0] := by
    rw [← hw5, ← hWb]
    have := Whole.new (w4.alloc (.cells #[.slice AO q cO] 33)) 3 #[.int .i64 0]
    rwa [World.size_alloc] at this
  have hsz5 : w5.heap.size = Wb + 2 := by rw [← hw5, ← hWb]; simp
  have h34 := HB4.out.size
  have H35 : Hid (Below w3.heap.size w3 w5) := Lib.hid (HB4.out.trans (hb5.mono HB4.out.size))
  have HW5 := Lib.hid hW5; have HN5 := Lib.hid hN5; have HB5 := Lib.hid hb5; have HWE := Lib.hid hw5; have HWB := Lib.hid hWb
  have hS5 := HS_3.out.below H35.out (Nat.le_refl _)
  have HS5 := Lib.hid hS5
  have P1 := Lib.hid (picks_any S k _ w5 hS5.1 (by have := HSL.out; omega))
  clear hw5 hb5 hW5 hN5 hWb hS5
  go_upto_region 8 with fail
  rw [HWE.out, HWB.out]
  clear HWE
  go_wp2_with fail
  refine P1.out.mono ?_; rintro e w6 ⟨Bk, Bo, v6, rfl, hk6, ho6, hs6, hBk, hBo, hfar, hb6⟩
  have HIT := Lib.hid (picks_itO HUP.out HSR.out v6 Bk Bo w6 (by have := HSL.out; omega) hk6 ho6 hs6)
  have HCP := Lib.hid (cp_range hk6 ho6 hs6 hBk hBo hfar)
  have HB6 := Lib.hid hb6
  clear hk6 ho6 hs6 hBk hBo hfar hb6 P1
  have hw6 := HB6.out.size
  rw [hsz5] at hw6
  have hwW : w4.heap.size = Wb := HWB.out
  have hI0 : R1 w4 w.heap.size (w.heap.size + 1) Wb st (.slice AO q cO) 0 w6 := by
    have h46 : Below w4.heap.size w4 w6 := HB5.out.trans (HB6.out.mono HB5.out.size)
    exact ⟨(HT3.out.below HB4.out HT3.out.lt).below h46 (by omega), (HR3.out.below HB4.out HR3.out.lt).below h46 (by omega), HW5.out.below HB6.out HW5.out.lt, HN5.out.below HB6.out HN5.out.lt, h46⟩
  have HI0 := Lib.hid hI0
  have hqI : Hid (q ≤ 65536) := Lib.hid (by
    rw [← HQ.out]
    by_cases hk0 : k < 0
    · rw [HUP.out.neg hk0]; simp
    · obtain ⟨m, rfl⟩ := Int.eq_ofNat_of_zero_le (show 0 ≤ k by omega)
      rw [HUP.out.all HSR.out]
      exact picksL_few (by have := HSL.out; omega) m)
  have hq5 := hqI.out
  rw [HQ.out] at HIT
  clear hI0 hqI
  go_wp2_with fail
  refine range_ints (gf := 34) (lb := #[.pointer (some ⟨Bk, 0, none⟩), .pointer (some ⟨Bo, 0, none⟩)]) rfl (enters_of Try.func34 (by kernel_rfl) rfl) HIT.out (fun b hb => (HCP.out b hb).2) rfl
    (fun g k W => R1 w4 w.heap.size (w.heap.size + 1) Wb st (.slice AO q cO) k W) (fun _ _ _ _ => False)
    (fun g k A A' r hg hr h hgr => h.kept hgr (by omega) (by omega) (by omega) (by omega)) (fun _ _ _ _ _ _ _ _ h _ => h) (fun _ _ => HI0.out) ?a1 ?assign ?body ?done ?stop
  case assign =>
    intro l v W K hK
    gi_wp2
    exact hK
  case stop =>
    rintro c g k W _ _ _ h _
    exact h.elim
  case body =>
    rintro l g j v W hg hj hR hsz hgl hrow hne
    rw [← HQ.out] at hj
    obtain ⟨b, off, u, rfl, hc', hu⟩ := (HLI.out.below hR.bel (Nat.le_refl _)).pos hj
    have e1 : O.getD j [] = O[j] := by simp [List.getD, hj]
    obtain ⟨T, hT⟩ : ∃ T, O[j] = T := ⟨_, rfl⟩
    rw [hT] at hu e1
    rw [e1] at hrow
    rw [HQ.out] at hj
    obtain ⟨Ap, cp, rfl⟩ := own_form hrow
    have hTl : T.length ≤ 9 := by
      obtain ⟨i, _, h2, h3⟩ := (HUP.out.mem T).1 (by rw [← hT]; exact List.getElem_mem _)
      have := (subR_sub S i).length_le
      rw [← h2] at this
      have := HSL.out
      omega
    obtain ⟨p, hp⟩ : ∃ p, T.length = p := ⟨_, rfl⟩
    have E1 := sameInts_any _ _ _ _ _ _ W (own_seqC hrow).1 hu.1 (by omega)
    rw [sameI_self, hp] at E1
    rw [hp] at hrow hTl hne ⊢
    have ST := fun d => Wiped.start (d := d) hrow hne
    have cW : W.cell? ⟨Wb, 0, none⟩ = some (.slice (some ⟨b, off, none⟩) q cO) := hR.w.cell 0
    have cN : W.cell? ⟨Wb + 1, 0, none⟩ = some (.int .i64 j) := hR.n.cell 0
    have j1 : decide ((q : Int) ≤ j) = false := decide_eq_false (by omega)
    have j1' : decide (q ≤ j) = false := decide_eq_false (by omega)
    have j2 : (j : Int) < q := by omega
    have j3 : (0 : Int) ≤ j := by omega
    have HJ := Lib.hid hj; have HRR := Lib.hid hR; have HE1 := Lib.hid E1; have HST := Lib.hid ST
    clear hj hR hu hT e1 E1 ST hrow hne hp
    gi_wp2_with fail
    refine ⟨trivial, ?_⟩
    refine (CallsIn.inRound l (callsIn_wide.2 HE1.out)).mono ?_
    rintro e W1 ⟨rfl, d, rfl⟩
    gi_wp2_with fail
    gi_loopg [11] p (fun g' y w2 => ∃ i, i ≤ p ∧ g' = p - i ∧ y = .int .i64 (i : Nat) ∧ Wiped w6.heap.size g W Ap p w2)
    case atStart => exact ⟨0, Nat.zero_le _, rfl, rfl, HST.out d⟩
    case round =>
      obtain ⟨i, hi, rfl, rfl, hwd⟩ := hrel
      obtain ⟨hb, hgk, hwp⟩ := hwd
      by_cases hip : i < p
      · rcases hwp with h0 | ⟨pb, cs, rfl, hw, hm, hpb, hpg⟩
        · omega
        obtain ⟨x, hx⟩ : ∃ x, wr.cell? ⟨pb, i, none⟩ = some x := ⟨cs[i]'(by omega), by rw [hw.cell i]; exact Array.getElem?_eq_getElem (by omega)⟩
        have hf := hw.free i
        have PUT := Lib.hid (Wiped.put (i := i) hb hgk hw hm hpb hpg (.int .i64 (-1)))
        have t5 : decide (i < p) = true := decide_eq_true hip
        have i1 : (i : Int) < p := by omega
        have i2 : (0 : Int) ≤ i := by omega
        have HIP := Lib.hid hip
        clear hb hgk hw hm hpb hpg hip
        gi_wp2_with fail
        gi_roundg (p - (i + 1))
        case rel => exact ⟨i + 1, HIP.out, rfl, by go_num, PUT.out⟩
        case measure => have := HIP.out; omega
      · obtain rfl : i = p := by omega
        have NX := Lib.hid (HRR.out.next (Cp := CpOf Bk Bo S.length v6) hb hgk (by omega) (by omega) (by omega) (by omega) hg (fun b hb => by have := HCP.out b hb; omega))
        have hn3 := HRR.out.n.below hb (by omega)
        have cN3 : wr.cell? ⟨Wb + 1, 0, none⟩ = some (.int .i64 j) := hn3.cell 0
        have fN3 := hn3.free 0
        have t5 : decide (i < i) = false := by simp
        clear hb hgk hwp hip hn3
        gi_wp2_with fail
        exact NX.out
  case done =>
    rintro g1 X1 hg1 hR hD1
    have HRX := Lib.hid hR; have HD1 := Lib.hid hD1
    obtain ⟨lim, hlim⟩ : ∃ x, st % 20 = x := ⟨_, rfl⟩
    have hlimI : (st : Int) % 20 = (lim : Nat) := by omega
    have hl20 : lim < 20 := by omega
    have hwX : Wb + 1 < X1.heap.size := hR.n.lt
    have hX4 := hR.bel.size
    have hDX : w6.heap.size < X1.heap.size := (Array.getElem?_eq_some_iff.1 hD1).1
    obtain ⟨x2, hx2⟩ : ∃ W, X1.alloc (.cells #[.int .i64 0] 3) = W := ⟨_, rfl⟩
    obtain ⟨Mb, hMb⟩ : ∃ b, X1.heap.size = b := ⟨_, rfl⟩
    have hb2 : Below X1.heap.size X1 x2 := by rw [← hx2]; exact (Below.refl _ _).alloc (Nat.le_refl _) _
    have hM2 : Whole x2 Mb 3 #[.int .i64 0] := by rw [← hx2, ← hMb]; exact Whole.new _ _ _
    have hsz2 : x2.heap.size = Mb + 1 := by rw [← hx2, ← hMb]; simp
    have h3X : Below w3.heap.size w3 X1 := HB4.out.trans (hR.bel.mono HB4.out.size)
    have hSX := (HSC.out.below h3X (Nat.le_refl _)).below hb2 (Nat.le_refl _)
    have P2 := Lib.hid (picks_any S k _ x2 hSX.1 (by have := HSL.out; omega))
    have HX2 := Lib.hid hx2; have HME := Lib.hid hMb; have HB2 := Lib.hid hb2; have HM2 := Lib.hid hM2; have H3X := Lib.hid h3X
    clear hR hD1 hlim hx2 hMb hb2 hM2 h3X hSX
    go_upto_region 18 with fail
    rw [HX2.out, HME.out]
    clear HX2
    go_wp2_with fail
    refine P2.out.mono ?_; rintro e x3 ⟨Bk2, Bo2, v3, rfl, hk3, ho3, hs3, hBk2, hBo2, hfar3, hb3⟩
    have HIT2 := Lib.hid (picks_itO HUP.out HSR.out v3 Bk2 Bo2 x3 (by have := HSL.out; omega) hk3 ho3 hs3)
    have HCP2 := Lib.hid (cp_range hk3 ho3 hs3 hBk2 hBo2 hfar3)
    rw [HQ.out] at HIT2
    have hx3 := hb3.size
    rw [hsz2] at hx3
    have hXM : X1.heap.size = Mb := HME.out
    have HI2 : Hid (Cnt X1 Mb 0 0 x3) := Lib.hid ⟨HM2.out.below hb3 HM2.out.lt, HB2.out.trans (hb3.mono HB2.out.size)⟩
    clear hk3 ho3 hs3 hBk2 hBo2 hfar3 hb3 P2
    go_wp2_with fail
    refine range_ints (gf := 34) (lb := #[.pointer (some ⟨Bk2, 0, none⟩), .pointer (some ⟨Bo2, 0, none⟩)]) rfl (enters_of Try.func34 (by kernel_rfl) rfl) HIT2.out (fun b hb => (HCP2.out b hb).2) rfl
      (fun g k W => Cnt X1 Mb g k W ∧ k ≤ lim) (fun c g k W => c = .exit 4 ∧ Cnt X1 Mb g k W ∧ k = lim + 1)
      (fun g k A A' r hg hr h hgr => ⟨h.1.kept hgr (by omega) (by omega), h.2⟩) (fun c g k A A' r hg hr h hgr => ⟨h.1, h.2.1.kept hgr (by omega) (by omega), h.2.2⟩) (fun _ _ => ⟨HI2.out, Nat.zero_le _⟩) ?a2 ?assign2 ?body2 ?done2 ?stop2
    case assign2 =>
      intro l v W K hK
      gi_wp2
      exact hK
    case body2 =>
      rintro l g j v W hg hj ⟨hcnt, hjl⟩ hsz hgl hrow hne
      obtain ⟨Av, cv, rfl⟩ := own_form hrow
      have cM : W.cell? ⟨Mb, 0, none⟩ = some (.int .i64 j) := hcnt.1.cell 0
      have fM := hcnt.1.free 0
      have nx := hcnt.round (D := x3.heap.size) (Cp := CpOf Bk2 Bo2 S.length v3) (j + 1) (by omega) hgl hg hsz (by omega) (fun b hb => by have := HCP2.out b hb; omega)
      have ej : ((j + 1 : Nat) : Int) = (j : Int) + 1 := rfl
      rw [ej] at nx
      have cM' := nx.2.1.cell 0
      have cT' := (HRX.out.t.below nx.2.2 HRX.out.t.lt).cell 0
      have NX := Lib.hid nx
      have HJL := Lib.hid hjl
      have j1 : (0 : Int) ≤ j := by omega
      have j2 : j < 100 := by omega
      have hc : (decide ((lim : Int) < (j : Int) + 1) = true ∧ j = lim) ∨ (decide ((lim : Int) < (j : Int) + 1) = false ∧ j + 1 ≤ lim) := by
        rcases (by omega : j = lim ∨ j + 1 ≤ lim) with h | h
        · exact Or.inl ⟨decide_eq_true (by omega), h⟩
        · exact Or.inr ⟨decide_eq_false (by omega), h⟩
      clear hcnt hjl hrow hne nx ej
      rcases hc with ⟨t6, t7⟩ | ⟨t6, t7⟩
      · have H7 := Lib.hid t7
        clear t7
        gi_wp2_with fail
        exact ⟨fun b hb => NX.out.1.2 b (by rcases hb with h | h; exact Or.inl h; exact Or.inr (Or.inl h)), rfl, NX.out.2, by rw [H7.out]⟩
      · have H7 := Lib.hid t7
        clear t7
        gi_wp2_with fail
        exact ⟨NX.out.1, NX.out.2, H7.out⟩
    case done2 =>
      rintro g2 X2 hg2 ⟨hcnt, hql⟩ hD2
      have hbel := hcnt.2
      have cM2 : X2.cell? ⟨Mb, 0, none⟩ = some (.int .i64 q) := hcnt.1.cell 0
      have cW2 := (HRX.out.w.below hbel HRX.out.w.lt).cell 0
      have cN2 : X2.cell? ⟨Wb + 1, 0, none⟩ = some (.int .i64 q) := (HRX.out.n.below hbel HRX.out.n.lt).cell 0
      have cT2 := (HRX.out.t.below hbel HRX.out.t.lt).cell 0
      have HR2 := Lib.hid (HRX.out.r.below hbel HRX.out.r.lt)
      have hMl := hcnt.1.lt
      have hx2s : x3.heap.size < X2.heap.size := (Array.getElem?_eq_some_iff.1 hD2).1
      have HD1' := Lib.hid ((hbel.block _ (by omega)).trans HD1.out)
      have HD2 := Lib.hid hD2
      have HBW : Hid (Below w.heap.size w X2) := Lib.hid (by
        have h1 : Below w.heap.size w X1 := HB3.out.trans (H3X.out.mono HB3.out.size)
        exact h1.trans (hbel.mono h1.size))
      have fin : ∀ (Y : World), Below X2.heap.size X2 Y → Below w.heap.size w (Y.setCell ⟨w.heap.size + 1, 0, none⟩ (.bool true)) ∧ Whole (Y.setCell ⟨w.heap.size + 1, 0, none⟩ (.bool true)) (w.heap.size + 1) 4 #[.bool true] ∧ (Y.setCell ⟨w.heap.size + 1, 0, none⟩ (.bool true)).heap[w6.heap.size]? = some (.deferred (some [])) ∧ (Y.setCell ⟨w.heap.size + 1, 0, none⟩ (.bool true)).heap[x3.heap.size]? = some (.deferred (some [])) := by
        intro Y hY
        refine ⟨(HBW.out.trans (hY.mono HBW.out.size)).setCell (by simp) _, (HR2.out.below hY HR2.out.lt).put 0 _, ?_, ?_⟩
        · rw [Below.heap_setCell _ _ _ _ (by show w6.heap.size ≠ w.heap.size + 1; omega), hY.block _ (by omega)]; exact HD1'.out
        · rw [Below.heap_setCell _ _ _ _ (by show x3.heap.size ≠ w.heap.size + 1; omega), hY.block _ hx2s]; exact HD2.out
      have FIN := Lib.hid fin
      have CT := fun d => count_O HUP.out HSR.out (by have := HSL.out; omega) hkr (X2.drewN d)
      rw [HQ.out, HKS.out] at CT
      have tq : ((q : Int) == q) = true := by simp
      have tn : decide (k < 0) = true ∨ decide (k < 0) = false := by cases decide (k < 0) <;> simp
      have HC := Lib.hid (CT 0)
      clear fin CT hD2 hcnt hbel
      have t8 : decide ((lim : Int) + 1 < q) = false := decide_eq_false (by omega)
      clear hql
      by_cases hk0 : k < 0
      all_goals
        first | rw [if_pos hk0] at HC | rw [if_neg hk0] at HC
        first | (have t9 : decide (k < 0) = true := decide_eq_true hk0) | (have t9 : decide (k < 0) = false := decide_eq_false hk0)
        go_wp2_with fail
        refine HC.out.mono ?_; rintro e Y ⟨rfl, hY⟩
        have hRY := HR2.out.below hY HR2.out.lt
        have cRY : Y.cell? ⟨w.heap.size + 1, 0, none⟩ = some (.bool false) := hRY.cell 0
        have fRY := hRY.free 0
        have HQF := Lib.hid (FIN.out Y hY)
        have HRY := Lib.hid hRY
        clear hY hRY
        go_wp2_with fail
        obtain ⟨q1, q2, q3, q4⟩ := HQF.out
        refine ⟨by simp, .inl ⟨_, _, rfl, run_takeDeferred q4, ?_⟩⟩
        refine ⟨by simp, .inl ⟨_, _, rfl, run_takeDeferred ((World.putObj_heap_other (by omega)).trans q3), ?_⟩⟩
        have r2 := (q2.grown (grownBy_putObj' _ x3.heap.size (.deferred none)) (by simp; omega)).grown (grownBy_putObj' _ w6.heap.size (.deferred none)) (by simp; omega)
        exact ⟨_, results_bool rfl _ _ _ _ rfl r2, rfl, (q1.grown (grownBy_putObj' _ x3.heap.size (.deferred none)) q1.size (fun j hj => by cases hj; omega)).grown (grownBy_putObj' _ w6.heap.size (.deferred none)) (by have := q1.size; simpa using this) (fun j hj => by cases hj; omega)⟩
    case stop2 =>
      rintro c g2 k2 X2 hg2 hk2 hkq ⟨rfl, hcnt, rfl⟩ hD2
      have hbel := hcnt.2
      have cM2 : X2.cell? ⟨Mb, 0, none⟩ = some (.int .i64 ((lim + 1 : Nat) : Int)) := hcnt.1.cell 0
      have cW2 := (HRX.out.w.below hbel HRX.out.w.lt).cell 0
      have cN2 : X2.cell? ⟨Wb + 1, 0, none⟩ = some (.int .i64 q) := (HRX.out.n.below hbel HRX.out.n.lt).cell 0
      have cT2 := (HRX.out.t.below hbel HRX.out.t.lt).cell 0
      have HR2 := Lib.hid (HRX.out.r.below hbel HRX.out.r.lt)
      have hMl := hcnt.1.lt
      have hx2s : x3.heap.size < X2.heap.size := (Array.getElem?_eq_some_iff.1 hD2).1
      have HD1' := Lib.hid ((hbel.block _ (by omega)).trans HD1.out)
      have HD2 := Lib.hid hD2
      have HBW : Hid (Below w.heap.size w X2) := Lib.hid (by
        have h1 : Below w.heap.size w X1 := HB3.out.trans (H3X.out.mono HB3.out.size)
        exact h1.trans (hbel.mono h1.size))
      have fin : ∀ (Y : World), Below X2.heap.size X2 Y → Below w.heap.size w (Y.setCell ⟨w.heap.size + 1, 0, none⟩ (.bool true)) ∧ Whole (Y.setCell ⟨w.heap.size + 1, 0, none⟩ (.bool true)) (w.heap.size + 1) 4 #[.bool true] ∧ (Y.setCell ⟨w.heap.size + 1, 0, none⟩ (.bool true)).heap[w6.heap.size]? = some (.deferred (some [])) ∧ (Y.setCell ⟨w.heap.size + 1, 0, none⟩ (.bool true)).heap[x3.heap.size]? = some (.deferred (some [])) := by
        intro Y hY
        refine ⟨(HBW.out.trans (hY.mono HBW.out.size)).setCell (by simp) _, (HR2.out.below hY HR2.out.lt).put 0 _, ?_, ?_⟩
        · rw [Below.heap_setCell _ _ _ _ (by show w6.heap.size ≠ w.heap.size + 1; omega), hY.block _ (by omega)]; exact HD1'.out
        · rw [Below.heap_setCell _ _ _ _ (by show x3.heap.size ≠ w.heap.size + 1; omega), hY.block _ hx2s]; exact HD2.out
      have FIN := Lib.hid fin
      have CT := fun d => count_O HUP.out HSR.out (by have := HSL.out; omega) hkr (X2.drewN d)
      rw [HQ.out, HKS.out] at CT
      have tq : ((q : Int) == q) = true := by simp
      have tn : decide (k < 0) = true ∨ decide (k < 0) = false := by cases decide (k < 0) <;> simp
      have HC := Lib.hid (CT 0)
      clear fin CT hD2 hcnt hbel
      have t8 : (decide ((lim : Int) + 1 < q) = false ∧ ((lim : Int) + 1 == q) = true) ∨ decide ((lim : Int) + 1 < q) = true := by
        rcases (by omega : lim + 1 = q ∨ lim + 1 < q) with h | h
        · exact Or.inl ⟨decide_eq_false (by omega), beq_iff_eq.2 (by omega)⟩
        · exact Or.inr (decide_eq_true (by omega))
      clear hkq
      rcases t8 with ⟨t8, t8'⟩ | t8
      all_goals
        by_cases hk0 : k < 0
        all_goals
          first | rw [if_pos hk0] at HC | rw [if_neg hk0] at HC
          first | (have t9 : decide (k < 0) = true := decide_eq_true hk0) | (have t9 : decide (k < 0) = false := decide_eq_false hk0)
          go_wp2_with fail
          refine HC.out.mono ?_; rintro e Y ⟨rfl, hY⟩
          have hRY := HR2.out.below hY HR2.out.lt
          have cRY : Y.cell? ⟨w.heap.size + 1, 0, none⟩ = some (.bool false) := hRY.cell 0
          have fRY := hRY.free 0
          have HQF := Lib.hid (FIN.out Y hY)
          have HRY := Lib.hid hRY
          clear hY hRY
          go_wp2_with fail
          obtain ⟨q1, q2, q3, q4⟩ := HQF.out
          refine ⟨by simp, .inl ⟨_, _, rfl, run_takeDeferred q4, ?_⟩⟩
          refine ⟨by simp, .inl ⟨_, _, rfl, run_takeDeferred ((World.putObj_heap_other (by omega)).trans q3), ?_⟩⟩
          have r2 := (q2.grown (grownBy_putObj' _ x3.heap.size (.deferred none)) (by simp; omega)).grown (grownBy_putObj' _ w6.heap.size (.deferred none)) (by simp; omega)
          exact ⟨_, results_bool rfl _ _ _ _ rfl r2, rfl, (q1.grown (grownBy_putObj' _ x3.heap.size (.deferred none)) q1.size (fun j hj => by cases hj; omega)).grown (grownBy_putObj' _ w6.heap.size (.deferred none)) (by have := q1.size; simpa using this) (fun j hj => by cases hj; omega)⟩

end Go.Proofs.Ytocpjmjlmccolaa
