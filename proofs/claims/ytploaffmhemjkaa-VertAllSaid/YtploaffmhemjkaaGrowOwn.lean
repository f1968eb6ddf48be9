/- vert.Grow: where what it tells lies; one value appended at a step of a region that draws. -/
import Derived.Test.YtploaffmhemjkaaGrow
import Derived.Test.YtploaffmhemjkaaStepApp
namespace Go.Proofs.Ytploaffmhemjkaa
open Go.RowKit

theorem sameI_self (L : List Int) : sameI (fun i => L.getD i 0) L.length (fun i => L.getD i 0) L.length = true := by
  unfold sameI
  rw [Bool.and_eq_true, eqUpto_iff]
  exact ⟨by simp, fun i _ => rfl⟩
theorem sameI_iff {L M : List Int} : sameI (fun i => L.getD i 0) L.length (fun i => M.getD i 0) M.length = true ↔ L = M := by
  constructor
  · intro h
    unfold sameI at h
    rw [Bool.and_eq_true, eqUpto_iff, decide_eq_true_eq] at h
    apply List.ext_getElem h.1
    intro i h1 h2
    have := h.2 i h1
    simpa [List.getD, h1, h2] using this
  · rintro rfl
    exact sameI_self L
theorem same_dec {A B : List Int} {u v : Value} {w : World} (h : SeqV w u A) (k : SeqV w v B) (hl : A.length ≤ 1000000000) :
    Calls Try.prog 12 #[u, v] w fun e w' => e = .returned (.bool (decide (A = B))) ∧ Below w.heap.size w w' := by
  refine (sameInts_any A.length B.length _ _ u v w h k hl).mono ?_
  rintro e w' ⟨rfl, d, rfl⟩
  refine ⟨?_, below_drewN' (Below.refl _ _) d⟩
  congr 2
  rw [Bool.eq_iff_iff, sameI_iff, decide_eq_true_eq]
/-- One value appended at a step of a region that draws. -/
theorem step_app1 {P : Program} {ops : Array Oper} {o : Oper} {a : Act} {w : World} {K : Act → World → Prop} {Q : Exit → Act → World → Prop} {E : Prop} (hw : Region.wanted o (yielded ops a.tmps) = true) (s x : Operand) (t : TypeId)
    (ho : o.op = .call { callee := .builtin .append, args := #[s, x], argTypes := #[t, t] })
    (base : Nat) (e : TypeId) (i : TypeInfo) (z : Value) (bytes : Nat) (ht : P.underlying t = some (.slice e)) (hi : P.info? e = some i) (hz : i.zero = some z)
    (hsize : i.size = 1) (hby : i.bytes = bytes) (hzs : z.cells.size = 1) (v : Value) (n : Nat) (xs : List Value) (hs : a.eval s = v) (hown : w.ownsRow base e 1 v n xs)
    (u : Value) (hu : u.oneCell' = true) (b : Nat) (hx : a.eval x = .slice (some ⟨b, 0, none⟩) 1 1) (hc : w.cell? ⟨b, 0, none⟩ = some u) (hn : n ≤ 1000000000) (hbytes : bytes ≤ 128) (hbase : base ≤ w.heap.size)
    (h : ∀ A' c' w', w'.ownsRow base e 1 (.slice A' (n + 1) c') (n + 1) (xs ++ [u]) → Grew w v w' (.slice A' (n + 1) c') → K (a.put o.dst (.slice A' (n + 1) c')) w') :
    if Region.wanted o (yielded ops a.tmps) = true then Oper.wp P o a w K Q else E := by
  rw [if_pos hw]
  have hb2 : (n + 1) * bytes ≤ 140737488355328 := Nat.le_trans (Nat.mul_le_mul (show n + 1 ≤ 1000000001 by omega) hbytes) (by decide)
  obtain ⟨v', w', hr, h2, h3, _, h5⟩ := run_append_own_at (P := P) w base t o.type e i z 1 bytes ht hi hz hsize hby hzs (by decide) v n xs hown ⟨b, 0, none⟩ 1 1 [u] rfl
    (by
      intro j y hj
      match j, hj with
      | 0, hj =>
        simp at hj; subst hj
        exact hc) (by intro y hy; rw [List.mem_singleton] at hy; subst hy; exact hu) (by unfold maxLen; omega) hb2 hbase
  obtain ⟨A', c', rfl⟩ := own_form h2
  unfold Oper.wp execOp
  simp only [ho, resolve, invoke, builtin, Sem.run_bind, Sem.run_pure, Result.andThen_ok, List.map_toArray, List.map_cons, List.map_nil, hs, hx, hr]
  refine h A' c' w' h2 ⟨h3, ?_⟩
  rcases h5 with h5 | h5
  · exact Or.inl h5
  · exact Or.inr ⟨_, h5, Nat.le_refl _⟩

theorem deleteFunc_fresh (R : List Int) (f : Int → Bool) (v : Value) (base : Nat) (p q : Value) (w w0 : World) (hown : w.ownsRow base 3 1 v R.length (intCells R)) (hb : Below base w0 w) (hbs : base ≤ w.heap.size) (hR : R.length ≤ 1000000)
    (HF : ∀ W x, Below base w0 W → Calls Try.prog 43 #[.int .i64 x, p, q] W fun e w' => e = .returned (.bool (!f x)) ∧ ∃ q, w' = W.drewN q) :
    Calls Try.prog 42 #[v, .func (.func 43) #[] #[p, q]] w fun e w' => ∃ v', e = .returned v' ∧ SeqC w' v' (R.filter f) ∧ Below base w0 w' ∧ (∀ k, v'.ownBlock = some k → base ≤ k) := by
  rcases Nat.eq_zero_or_pos R.length with h0 | h0
  · have hR0 : R = [] := List.eq_nil_of_length_eq_zero h0
    subst hR0
    obtain ⟨A, c, rfl⟩ := own_form hown
    refine (deleteFunc_zero A c p q w).mono ?_
    rintro e w' ⟨rfl, rfl⟩
    exact ⟨_, rfl, ⟨seqV_nil _ _ _, _, _, rfl, Nat.zero_le _⟩, hb, fun k hk => (hown.lt k hk).1⟩
  · rcases hown.2 with ⟨hnil, hz⟩ | ⟨b, cap, cur, rfl, hbase, hh, hncap, hcapm, _⟩
    · omega
    have hH := holds_row hown
    have hbl : b < w.heap.size := (Array.getElem?_eq_some_iff.1 hh).1
    have eg : ∀ args w, (callFunc 43 args).run Try.prog w = .ok (.enter 43 args) w := enters_of Try.func43 (by kernel_rfl) rfl
    have hfil : (R.toArray.toList.filter fun x => !(fun x => !f x) x) = R.filter f := by simp
    have D := AnyE.slices_DeleteFunc Try.delInts (Value.int .i64) (fun _ => rfl) (fun x => !f x) 43 #[p, q] eg 0 Try.zeroValue3 b 0 cap R.toArray w
      (fun W x hW => HF W x (hb.trans (hW.mono hbs)))
      (fun n os dk x _ => HF _ x (hb.grown (grown_put _) hbs (fun k hk => by cases hk; exact hbase)))
      hH (by simp; omega) (by simpa using hncap)
    rw [hfil] at D
    have e0 : R.toArray.size = R.length := by simp
    rw [e0] at D
    change Calls Try.prog 42 _ _ _ at D
    refine D.mono ?_
    rintro e w' ⟨rfl, k, hw'⟩
    have hle : (R.filter f).length ≤ R.length := List.length_filter_le _ _
    have hg : w.grownBy w' (some b) := by rw [hw']; exact grown_put0 _
    refine ⟨_, rfl, ⟨?_, _, _, rfl, by omega⟩, hb.grown hg hbs (fun k hk => by cases hk; exact hbase), fun k hk => by cases hk; exact hbase⟩
    rcases Nat.eq_zero_or_pos (R.filter f).length with h1 | h1
    · exact Or.inl ⟨h1, _, _, by rw [h1]⟩
    · have hH3 : Go.Sort.Holds (Value.int .i64) w' b 0 (R.filter f ++ List.replicate (R.length - (R.filter f).length) 0).toArray := by
        rw [hw']
        exact Go.Sort.holds_putRow _ _ _ _ R.toArray _ (Go.Sort.holds_ahead _ _ _ _ _ _ hH) (by simp; omega)
      refine Or.inr ⟨h1, b, 0, cap, rfl, fun i hi => ?_⟩
      have := (hH3 i (by simp; omega)).1
      rw [this]
      simp [List.getD, List.getElem?_append_left hi]

set_option maxRecDepth 100000 in
set_option maxHeartbeats 1000000 in
theorem grow_fresh {w : World} {base m : Nat} {g : Value} {S : List (Int × Int)} (hG : GF w base g m S) (l : List Int) (vl : Value) (hlc : SeqC w vl l) (hn : l.length ≤ 1000) :
    Calls Try.prog 20 #[g, vl] w fun e w' => ∃ v', e = .returned v' ∧ SeqC w' v' (growL m (adj S) l) ∧ Below w.heap.size w w' ∧ (∀ k, v'.ownBlock = some k → w.heap.size ≤ k) := by
  obtain ⟨o, rfl⟩ := hG.ptr
  obtain ⟨_, A, c, rfl, _⟩ := id hlc
  have hb0 : Below w.heap.size w (w.alloc (.cells #[.pointer o] 25)) := (Below.refl _ _).alloc (Nat.le_refl _) _
  have hGB := Whole.new w 25 #[.pointer o]
  obtain ⟨w0, hw0⟩ : ∃ W, w.alloc (.cells #[.pointer o] 25) = W := ⟨_, rfl⟩
  rw [hw0] at hb0 hGB
  obtain ⟨n, hln⟩ : ∃ n, l.length = n := ⟨_, rfl⟩
  rw [hln] at hlc ⊢
  have hb1 : Below w.heap.size w (w0.alloc (.cells #[.slice A n c] 22)) := hb0.alloc hb0.size _
  have hLB := Whole.new w0 22 #[.slice A n c]
  have hGB1 := hGB.alloc (.cells #[.slice A n c] 22)
  obtain ⟨w1, hw1⟩ : ∃ W, w0.alloc (.cells #[.slice A n c] 22) = W := ⟨_, rfl⟩
  rw [hw1] at hb1 hLB hGB1
  obtain ⟨gb, hgb⟩ : ∃ b, w.heap.size = b := ⟨_, rfl⟩
  have hs0 : w0.heap.size = w.heap.size + 1 := by rw [← hw0, World.size_alloc]
  rw [hgb] at hs0
  obtain ⟨lb, hlb⟩ : ∃ b, gb + 1 = b := ⟨_, rfl⟩
  rw [hlb] at hs0
  rw [hgb] at hGB1
  rw [hs0] at hLB
  have hG1 := hG.below hb1
  have hl1 := hlc.below hb1 (Nat.le_refl _)
  have CA := Lib.hid (canonical_any hG1 l _ hl1 (by omega))
  have g0 : w1.cell? ⟨gb, 0, none⟩ = some (.pointer o) := hGB1.cell 0
  have l0 : w1.cell? ⟨lb, 0, none⟩ = some (.slice A n c) := hLB.cell 0
  have HG1 := Lib.hid hG1; have HL1 := Lib.hid hl1; have HB1 := Lib.hid hb1; have HW0 := Lib.hid hw0; have HW1 := Lib.hid hw1; have HGB := Lib.hid hGB1; have HLB := Lib.hid hLB; have HGN := Lib.hid hgb; have HLN := Lib.hid hlb
  obtain ⟨z, hz⟩ : ∃ z, canL m (adj S) l = z := ⟨_, rfl⟩
  have hgr : growL m (adj S) l = if z then (nxtL m (adj S) l).filter (follows m (adj S) l) else [] := by unfold growL; rw [hz]
  rw [hz] at CA
  have HGR := Lib.hid hgr
  clear hlc hb0 hGB hb1 hLB hGB1 hw0 hw1 hgb hlb hG1 hl1 hln hG hz hgr hs0
  go_enter Try.func20, Try.ntmps20
  go_upto_region 1 with fail
  rw [HW0.out, HW1.out, HGN.out, HLN.out]
  cases z with
  | false =>
    have HNIL : Hid (growL m (adj S) l = []) := Lib.hid HGR.out
    go_wp2_with fail
    refine CA.out.mono ?_; rintro e w2 ⟨rfl, d, hd⟩
    have HB2 := Lib.hid (show Below w.heap.size w w2 by rw [hd]; exact below_drewN' HB1.out d)
    clear hd
    go_wp2_with fail
    go_ret
    exact ⟨_, rfl, by rw [HNIL.out]; exact ⟨seqV_nil _ _ _, _, _, rfl, Nat.zero_le _⟩, HB2.out, fun k hk => by cases hk⟩
  | true =>
    have HYES : Hid (growL m (adj S) l = (nxtL m (adj S) l).filter (follows m (adj S) l)) := Lib.hid HGR.out
    go_wp2_with fail
    refine CA.out.mono ?_; rintro e w2 ⟨rfl, d, hd⟩
    have hb2 : Below w1.heap.size w1 w2 := by rw [hd]; exact below_drewN' (Below.refl _ _) d
    have hgc := HGB.out.below hb2 HGB.out.lt
    have hlc := HLB.out.below hb2 HLB.out.lt
    have g2 : w2.cell? ⟨gb, 0, none⟩ = some (.pointer o) := hgc.cell 0
    have l2 : w2.cell? ⟨lb, 0, none⟩ = some (.slice A n c) := hlc.cell 0
    have hG2 := HG1.out.below hb2
    have hl2 := HL1.out.below hb2 (Nat.le_refl _)
    have hgl := hgc.lt
    have hll := hlc.lt
    have NX := Lib.hid (next_any hG2 l _ hl2.1 hn)
    have HFC := Lib.hid (fun (W : World) (x : Int) (hW : Below w2.heap.size w2 W) => growClosure_any (hG2.below hW) l _ (hl2.1.below hW (Nat.le_refl _)) (by omega) x gb lb ((hW.cell (p := ⟨gb, 0, none⟩) hgl).trans g2) ((hW.cell (p := ⟨lb, 0, none⟩) hll).trans l2))
    have hB2 := HB1.out.trans (hb2.mono HB1.out.size)
    have HB2 := Lib.hid hB2
    have HSZ := Lib.hid hB2.size; have HSZ0 := Lib.hid hB2.size
    have hq := nxtL_len m (adj S) l
    have hlow := hG2.low
    obtain ⟨R, hR⟩ : ∃ R, nxtL m (adj S) l = R := ⟨_, rfl⟩
    rw [hR] at NX HYES hq
    have HQ := Lib.hid (show R.length ≤ 1000 by omega)
    clear hd hb2 hB2 hgc hlc hG2 hl2 hgl hll hR hq hlow
    go_wp2_with fail
    refine NX.out.mono ?_; rintro e w3 ⟨v3, rfl, ho3, hb3⟩
    have DF := Lib.hid (deleteFunc_fresh R (follows m (adj S) l) v3 w2.heap.size _ _ w3 w2 ho3 hb3 hb3.size (by have := HQ.out; omega) HFC.out)
    rw [← HYES.out] at DF
    obtain ⟨A3, c3, rfl⟩ := own_form ho3
    clear ho3 hb3
    go_wp2_with fail
    refine DF.out.mono ?_; rintro e w4 ⟨v4, rfl, hs4, hb4, hf4⟩
    have HF4 := Lib.hid (fun k hk => Nat.le_trans HSZ0.out (hf4 k hk)); have HS4 := Lib.hid hs4; have HB4 := Lib.hid (HB2.out.trans (hb4.mono HSZ.out))
    obtain ⟨_, A4, c4, rfl, _⟩ := id hs4
    clear hs4 hb4 hf4
    go_wp2_with fail
    go_ret
    exact ⟨_, rfl, HS4.out, HB4.out, HF4.out⟩
end Go.Proofs.Ytploaffmhemjkaa
