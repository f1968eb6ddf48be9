/- vert.Grow. -/
import Derived.Test.YtploaffmhemjkaaVertA
import Derived.Test.YtploaffmhemjkaaLinked
import Derived.Test.YtploaffmhemjkaaShelfDel
import Derived.Shelf.SlicesE.DeleteFunc
namespace Go.Proofs.Ytploaffmhemjkaa
open Go.RowKit

/-- Those that may come behind a canonical list. -/
def growL (n : Nat) (b : Int → Int → Bool) (l : List Int) : List Int := if canL n b l then (nxtL n b l).filter (follows n b l) else []

set_option maxRecDepth 100000 in
set_option maxHeartbeats 1000000 in
theorem growClosure_any {W : World} {base m : Nat} {o : Option Addr} {S : List (Int × Int)} (hG : GF W base (.pointer o) m S) (l : List Int) (vl : Value) (hl : SeqV W vl l) (hn : l.length ≤ 1000000) (x : Int) (gb lb : Nat) (c0 : W.cell? ⟨gb, 0, none⟩ = some (.pointer o)) (c1 : W.cell? ⟨lb, 0, none⟩ = some vl) :
    Calls Try.prog 43 #[.int .i64 x, .pointer (some ⟨gb, 0, none⟩), .pointer (some ⟨lb, 0, none⟩)] W fun e w' => e = .returned (.bool (!follows m (adj S) l x)) ∧ ∃ q, w' = W.drewN q := by
  obtain ⟨A, c, rfl⟩ := IntsV.form hl
  have HF := Lib.hid (follows_any hG l x A l.length c rfl hl hn)
  obtain ⟨z, hz⟩ : ∃ z, follows m (adj S) l x = z := ⟨_, rfl⟩
  obtain ⟨n, hln⟩ : ∃ n, l.length = n := ⟨_, rfl⟩
  rw [hz] at HF ⊢
  rw [hln] at HF c1
  clear hG hl hz hn hln
  go_enter Try.func43, Try.ntmps43
  go_wp2_with fail
  refine HF.out.mono ?_; rintro e w1 ⟨rfl, d, hd⟩
  have HD := Lib.hid hd
  clear hd
  go_wp2_with fail
  go_ret
  exact ⟨rfl, d, HD.out⟩

set_option maxRecDepth 100000 in
theorem indexFunc_zero (A : Option Addr) (c : Nat) (p q : Value) (w : World) :
    Calls Try.prog 59 #[.slice A 0 c, .func (.func 43) #[] #[p, q]] w fun e w' => e = .returned (.int .i64 (-1)) ∧ w' = w := by
  go_enter Try.func59, Try.ntmps59
  go_wp2_with fail
  go_loopg [8] 0 (fun gh y wr => gh = 0 ∧ y = .int .i64 0 ∧ wr = w)
  case atStart => exact ⟨rfl, rfl, rfl⟩
  case round =>
    obtain ⟨rfl, rfl, hwr⟩ := hrel
    obtain rfl := hwr.symm
    go_wp2_with fail
    go_ret
    exact ⟨rfl, rfl⟩
set_option maxRecDepth 100000 in
theorem deleteFunc_zero (A : Option Addr) (c : Nat) (p q : Value) (w : World) :
    Calls Try.prog 42 #[.slice A 0 c, .func (.func 43) #[] #[p, q]] w fun e w' => e = .returned (.slice A 0 c) ∧ w' = w := by
  have H := Lib.hid (indexFunc_zero A c p q w)
  go_enter Try.func42, Try.ntmps42
  go_wp2_with fail
  refine H.out.mono ?_; rintro e w1 ⟨rfl, hw⟩; obtain rfl := hw.symm
  go_wp2_with fail
  go_ret
  exact ⟨rfl, rfl⟩

theorem deleteFunc_any (R : List Int) (f : Int → Bool) (v : Value) (base : Nat) (p q : Value) (w w0 : World) (hown : w.ownsRow base 3 1 v R.length (intCells R)) (hb : Below base w0 w) (hbs : base ≤ w.heap.size) (hR : R.length ≤ 1000000)
    (HF : ∀ W x, Below base w0 W → Calls Try.prog 43 #[.int .i64 x, p, q] W fun e w' => e = .returned (.bool (!f x)) ∧ ∃ q, w' = W.drewN q) :
    Calls Try.prog 42 #[v, .func (.func 43) #[] #[p, q]] w fun e w' => ∃ v', e = .returned v' ∧ SeqC w' v' (R.filter f) ∧ Below base w0 w' := by
  rcases Nat.eq_zero_or_pos R.length with h0 | h0
  · have hR0 : R = [] := List.eq_nil_of_length_eq_zero h0
    subst hR0
    obtain ⟨A, c, rfl⟩ := own_form hown
    refine (deleteFunc_zero A c p q w).mono ?_
    rintro e w' ⟨rfl, rfl⟩
    exact ⟨_, rfl, ⟨seqV_nil _ _ _, _, _, rfl, Nat.zero_le _⟩, hb⟩
  · rcases hown.2 with ⟨hnil, hz⟩ | ⟨b, cap, cur, rfl, hbase, hh, hncap, hcapm, _⟩
    · omega
    have hH := holds_row hown
    have hbl : b < w.heap.size := (Array.getElem?_eq_some_iff.1 hh).1
    have eg : ∀ args w, (callFunc 43 args).run Try.prog w = .ok (.enter 43 args) w := enters_of Try.func43 (by kernel_rfl) rfl
    have hfil : (R.toArray.toList.filter fun x => !(fun x => !f x) x) = R.filter f := by simp
    have D := AnyE.slices_DeleteFunc Try.delInts (Value.int .i64) (fun _ => rfl) (fun x => !f x) 43 #[p, q] eg 0 Try.zeroValue3 b 0 cap R.toArray w
      (fun W x hW => HF W x (hb.trans (hW.mono hbs)))
      (fun n os dk x _ => HF _ x (hb.grown (grown_put _) hbs (fun k hk => by cases hk; exact hbase)))
      hH (by simp; omega) (by simpa using hncap)
    rw [hfil] at D
    have e0 : R.toArray.size = R.length := by simp
    rw [e0] at D
    change Calls Try.prog 42 _ _ _ at D
    refine D.mono ?_
    rintro e w' ⟨rfl, k, hw'⟩
    have hle : (R.filter f).length ≤ R.length := List.length_filter_le _ _
    have hg : w.grownBy w' (some b) := by rw [hw']; exact grown_put0 _
    refine ⟨_, rfl, ⟨?_, _, _, rfl, by omega⟩, hb.grown hg hbs (fun k hk => by cases hk; exact hbase)⟩
    rcases Nat.eq_zero_or_pos (R.filter f).length with h1 | h1
    · exact Or.inl ⟨h1, _, _, by rw [h1]⟩
    · have hH3 : Go.Sort.Holds (Value.int .i64) w' b 0 (R.filter f ++ List.replicate (R.length - (R.filter f).length) 0).toArray := by
        rw [hw']
        exact Go.Sort.holds_putRow _ _ _ _ R.toArray _ (Go.Sort.holds_ahead _ _ _ _ _ _ hH) (by simp; omega)
      refine Or.inr ⟨h1, b, 0, cap, rfl, fun i hi => ?_⟩
      have := (hH3 i (by simp; omega)).1
      rw [this]
      simp [List.getD, List.getElem?_append_left hi]

set_option maxRecDepth 100000 in
set_option maxHeartbeats 1000000 in
theorem grow_any {w : World} {base m : Nat} {g : Value} {S : List (Int × Int)} (hG : GF w base g m S) (l : List Int) (vl : Value) (hlc : SeqC w vl l) (hn : l.length ≤ 1000) :
    Calls Try.prog 20 #[g, vl] w fun e w' => ∃ v', e = .returned v' ∧ SeqC w' v' (growL m (adj S) l) ∧ Below w.heap.size w w' := by
  obtain ⟨o, rfl⟩ := hG.ptr
  obtain ⟨_, A, c, rfl, _⟩ := id hlc
  have hb0 : Below w.heap.size w (w.alloc (.cells #[.pointer o] 25)) := (Below.refl _ _).alloc (Nat.le_refl _) _
  have hGB := Whole.new w 25 #[.pointer o]
  obtain ⟨w0, hw0⟩ : ∃ W, w.alloc (.cells #[.pointer o] 25) = W := ⟨_, rfl⟩
  rw [hw0] at hb0 hGB
  obtain ⟨n, hln⟩ : ∃ n, l.length = n := ⟨_, rfl⟩
  rw [hln] at hlc ⊢
  have hb1 : Below w.heap.size w (w0.alloc (.cells #[.slice A n c] 22)) := hb0.alloc hb0.size _
  have hLB := Whole.new w0 22 #[.slice A n c]
  have hGB1 := hGB.alloc (.cells #[.slice A n c] 22)
  obtain ⟨w1, hw1⟩ : ∃ W, w0.alloc (.cells #[.slice A n c] 22) = W := ⟨_, rfl⟩
  rw [hw1] at hb1 hLB hGB1
  obtain ⟨gb, hgb⟩ : ∃ b, w.heap.size = b := ⟨_, rfl⟩
  have hs0 : w0.heap.size = w.heap.size + 1 := by rw [← hw0, World.size_alloc]
  rw [hgb] at hs0
  obtain ⟨lb, hlb⟩ : ∃ b, gb + 1 = b := ⟨_, rfl⟩
  rw [hlb] at hs0
  rw [hgb] at hGB1
  rw [hs0] at hLB
  have hG1 := hG.below hb1
  have hl1 := hlc.below hb1 (Nat.le_refl _)
  have CA := Lib.hid (canonical_any hG1 l _ hl1 (by omega))
  have g0 : w1.cell? ⟨gb, 0, none⟩ = some (.pointer o) := hGB1.cell 0
  have l0 : w1.cell? ⟨lb, 0, none⟩ = some (.slice A n c) := hLB.cell 0
  have HG1 := Lib.hid hG1; have HL1 := Lib.hid hl1; have HB1 := Lib.hid hb1; have HW0 := Lib.hid hw0; have HW1 := Lib.hid hw1; have HGB := Lib.hid hGB1; have HLB := Lib.hid hLB; have HGN := Lib.hid hgb; have HLN := Lib.hid hlb
  obtain ⟨z, hz⟩ : ∃ z, canL m (adj S) l = z := ⟨_, rfl⟩
  have hgr : growL m (adj S) l = if z then (nxtL m (adj S) l).filter (follows m (adj S) l) else [] := by unfold growL; rw [hz]
  rw [hz] at CA
  have HGR := Lib.hid hgr
  clear hlc hb0 hGB hb1 hLB hGB1 hw0 hw1 hgb hlb hG1 hl1 hln hG hz hgr hs0
  go_enter Try.func20, Try.ntmps20
  go_upto_region 1 with fail
  rw [HW0.out, HW1.out, HGN.out, HLN.out]
  cases z with
  | false =>
    have HNIL : Hid (growL m (adj S) l = []) := Lib.hid HGR.out
    go_wp2_with fail
    refine CA.out.mono ?_; rintro e w2 ⟨rfl, d, hd⟩
    have HB2 := Lib.hid (show Below w.heap.size w w2 by rw [hd]; exact below_drewN' HB1.out d)
    clear hd
    go_wp2_with fail
    go_ret
    exact ⟨_, rfl, by rw [HNIL.out]; exact ⟨seqV_nil _ _ _, _, _, rfl, Nat.zero_le _⟩, HB2.out⟩
  | true =>
    have HYES : Hid (growL m (adj S) l = (nxtL m (adj S) l).filter (follows m (adj S) l)) := Lib.hid HGR.out
    go_wp2_with fail
    refine CA.out.mono ?_; rintro e w2 ⟨rfl, d, hd⟩
    have hb2 : Below w1.heap.size w1 w2 := by rw [hd]; exact below_drewN' (Below.refl _ _) d
    have hgc := HGB.out.below hb2 HGB.out.lt
    have hlc := HLB.out.below hb2 HLB.out.lt
    have g2 : w2.cell? ⟨gb, 0, none⟩ = some (.pointer o) := hgc.cell 0
    have l2 : w2.cell? ⟨lb, 0, none⟩ = some (.slice A n c) := hlc.cell 0
    have hG2 := HG1.out.below hb2
    have hl2 := HL1.out.below hb2 (Nat.le_refl _)
    have hgl := hgc.lt
    have hll := hlc.lt
    have NX := Lib.hid (next_any hG2 l _ hl2.1 hn)
    have HFC := Lib.hid (fun (W : World) (x : Int) (hW : Below w2.heap.size w2 W) => growClosure_any (hG2.below hW) l _ (hl2.1.below hW (Nat.le_refl _)) (by omega) x gb lb ((hW.cell (p := ⟨gb, 0, none⟩) hgl).trans g2) ((hW.cell (p := ⟨lb, 0, none⟩) hll).trans l2))
    have hB2 := HB1.out.trans (hb2.mono HB1.out.size)
    have HB2 := Lib.hid hB2
    have HSZ := Lib.hid hB2.size
    have hq := nxtL_len m (adj S) l
    have hlow := hG2.low
    obtain ⟨R, hR⟩ : ∃ R, nxtL m (adj S) l = R := ⟨_, rfl⟩
    rw [hR] at NX HYES hq
    have HQ := Lib.hid (show R.length ≤ 1000 by omega)
    clear hd hb2 hB2 hgc hlc hG2 hl2 hgl hll hR hq hlow
    go_wp2_with fail
    refine NX.out.mono ?_; rintro e w3 ⟨v3, rfl, ho3, hb3⟩
    have DF := Lib.hid (deleteFunc_any R (follows m (adj S) l) v3 w2.heap.size _ _ w3 w2 ho3 hb3 hb3.size (by have := HQ.out; omega) HFC.out)
    rw [← HYES.out] at DF
    obtain ⟨A3, c3, rfl⟩ := own_form ho3
    clear ho3 hb3
    go_wp2_with fail
    refine DF.out.mono ?_; rintro e w4 ⟨v4, rfl, hs4, hb4⟩
    have HS4 := Lib.hid hs4; have HB4 := Lib.hid (HB2.out.trans (hb4.mono HSZ.out))
    obtain ⟨_, A4, c4, rfl, _⟩ := id hs4
    clear hs4 hb4
    go_wp2_with fail
    go_ret
    exact ⟨_, rfl, HS4.out, HB4.out⟩
end Go.Proofs.Ytploaffmhemjkaa
