/- conf: (*Conf).set, of any word. -/
import Derived.Test.YtbbdammdiplagaaGreatDoorConf2
import Derived.Test.YtbbdammdiplagaaGreatDoorConfK
namespace Go.Proofs.YtbbdammdiplagaaGreatDoor
open Go.RowKit

/-- Tests in memory of the call's own, behind a block. -/
def KeepV (w : World) (cb : Nat) (v : Value) (O : List (Int × Int)) : Prop := w.ownsRow (cb + 1) 44 2 v O.length (eL O)
theorem own_apart {w : World} {b b' e e' s s' n n' : Nat} {v v' : Value} {xs xs' : List Value} (h : w.ownsRow b e s v n xs) (h' : w.ownsRow b' e' s' v' n' xs') (hne : e ≠ e') : v.ownBlock = none ∨ v.ownBlock ≠ v'.ownBlock := by
  rcases h.2 with ⟨rfl, _⟩ | ⟨g, cap, cur, rfl, _, hh, _⟩
  · exact Or.inl rfl
  · rcases h'.2 with ⟨rfl, _⟩ | ⟨g', cap', cur', rfl, _, hh', _⟩
    · exact Or.inr (by simp [Value.ownBlock])
    · refine Or.inr (fun e => ?_)
      have e1 : g = g' := by simpa [Value.ownBlock] using e
      subst e1
      rw [hh] at hh'
      injection hh' with hh'
      injection hh' with _ h2
      exact hne h2
theorem KeepV.set {w w' : World} {cb : Nat} {v : Value} {O : List (Int × Int)} (h : KeepV w cb v O) (hg : w.grownBy w' (some cb)) : KeepV w' cb v O :=
  World.ownsRow.kept h hg (by
    cases hv : v.ownBlock with
    | none => exact Or.inl rfl
    | some k => exact Or.inr (fun e => by have := (World.ownsRow.lt h k hv).1; injection e with e; omega))
/-- What set tells and leaves. -/
def SetK (x : CK) (cb : Nat) (wd v : List UInt8) (w : World) (e : Ending) (w' : World) : Prop :=
  w.grownBy w' (some cb) ∧ ((∃ x' kv', setK x wd v = some x' ∧ e = .returned (.bool true) ∧ Whole w' cb 29 (cV x'.c kv') ∧ KeepV w' cb kv' x'.o) ∨ (setK x wd v = none ∧ e = .returned (.bool false)))
set_option maxRecDepth 100000 in
set_option maxHeartbeats 4000000 in
theorem setK_any (x : CK) (kv : Value) (cb : Nat) (wd v : List UInt8) (hv : v.length ≤ 100000) (w : World) (hg : GT w) (hW : Whole w cb 29 (cV x.c kv)) (hK : KeepV w cb kv x.o) :
    Calls Tryz.prog 35 #[.pointer (some ⟨cb, 0, none⟩), .string (str wd), .string (str v)] w (SetK x cb wd v w) := by
  by_cases hk : wd = wKeep
  · subst hk
    have HPA := Lib.hid (progParse_any v hv w hg)
    have HW := Lib.hid hW
    have hlt := hW.lt
    obtain ⟨vs, hvs⟩ : ∃ s, str v = s := ⟨_, rfl⟩
    rw [hvs] at HPA ⊢
    have HX : Hid (setK x wKeep v = keepC x.c (keepV v)) := Lib.hid (by unfold setK; rw [if_pos rfl])
    have HLT := Lib.hid hlt
    clear hg hW hK hvs hlt
    show Calls _ _ #[.pointer (some ⟨cb, 0, none⟩), .string ⟨#[107, 101, 101, 112]⟩, .string vs] _ _
    go_enter Tryz.func35, Tryz.ntmps35
    go_wp2_with fail
    refine HPA.out.mono ?_; rintro e w1 ⟨hb1, ⟨v1, O, rfl, hE, hn, ht⟩ | ⟨c, p, u, P, rfl, hf, hs, hP, hj, hx, hor⟩⟩
    · obtain ⟨A1, c1, rfl⟩ := own_form hE
      have hW1 := HW.out.below hb1 HLT.out
      have hKV : Hid (keepV v = some O) := Lib.hid (by rw [← ht]; exact keepV_some hn)
      have k5 : ∃ y, w1.cell? ⟨cb, 5, none⟩ = some y := ⟨_, hW1.cell 5⟩
      obtain ⟨y5, k5⟩ := k5
      have f5 := hW1.free 5
      obtain ⟨n, hnn⟩ : ∃ n, O.length = n := ⟨_, rfl⟩
      rw [hnn] at hE ⊢
      have hgr : w.grownBy (w1.setCell ⟨cb, 5, none⟩ (.slice A1 n c1)) (some cb) := grown_set (grown_of_below hb1) _
      have hW2 := hW1.put 5 (.slice A1 n c1)
      have hE2 : KeepV (w1.setCell ⟨cb, 5, none⟩ (.slice A1 n c1)) cb (.slice A1 n c1) O :=
        KeepV.set (w := w1) (show w1.ownsRow (cb + 1) 44 2 _ O.length _ by rw [hnn]; exact own_baseP hE HLT.out) (grown_set (World.grownBy.refl _ _) _)
      have HGR := Lib.hid hgr; have HW2 := Lib.hid hW2; have HE2 := Lib.hid hE2; have HNN := Lib.hid hnn
      clear hb1 hE hn ht hW1 hgr hW2 hE2 hnn
      by_cases h0 : 0 < n
      · have t1 : decide (0 < n) = true := decide_eq_true h0
        have t1' : decide ((0 : Int) < (n : Int)) = true := decide_eq_true (by omega)
        by_cases h15 : n ≤ 15
        · have t2 : decide (n ≤ 15) = true := decide_eq_true h15
          have t2' : decide ((n : Int) ≤ 15) = true := decide_eq_true (by omega)
          have HS : Hid (setK x wKeep v = some ⟨x.c, O⟩) := Lib.hid (by rw [HX.out, hKV.out]; exact if_pos ⟨fun e => by rw [e] at HNN; have := HNN.out; simp at this; omega, by rw [HNN.out]; exact h15⟩)
          clear h0 h15
          go_wp2_with fail
          go_ret
          exact ⟨HGR.out, Or.inl ⟨⟨x.c, O⟩, _, HS.out, rfl, HW2.out, HE2.out⟩⟩
        · have t2 : decide (n ≤ 15) = false := decide_eq_false h15
          have t2' : decide ((n : Int) ≤ 15) = false := decide_eq_false (by omega)
          have HS : Hid (setK x wKeep v = none) := Lib.hid (by rw [HX.out, hKV.out]; exact if_neg (fun e => h15 (by rw [← HNN.out]; exact e.2)))
          clear h0 h15
          go_wp2_with fail
          go_ret
          exact ⟨HGR.out, Or.inr ⟨HS.out, rfl⟩⟩
      · have t1 : decide (0 < n) = false := decide_eq_false h0
        have t1' : decide ((0 : Int) < (n : Int)) = false := decide_eq_false (by omega)
        have HS : Hid (setK x wKeep v = none) := Lib.hid (by rw [HX.out, hKV.out]; exact if_neg (fun e => e.1 (List.eq_nil_of_length_eq_zero (by rw [HNN.out]; omega))))
        clear h0
        go_wp2_with fail
        go_ret
        exact ⟨HGR.out, Or.inr ⟨HS.out, rfl⟩⟩
    · have hW1 := HW.out.below hb1 HLT.out
      have k5 : ∃ y, w1.cell? ⟨cb, 5, none⟩ = some y := ⟨_, hW1.cell 5⟩
      obtain ⟨y5, k5⟩ := k5
      have f5 := hW1.free 5
      have HS : Hid (setK x wKeep v = none) := Lib.hid (by rw [HX.out, ParseTo.none hs hP hj hx hor]; rfl)
      have HGR : Hid (w.grownBy (w1.setCell ⟨cb, 5, none⟩ (.slice none 0 0)) (some cb)) := Lib.hid (grown_set (grown_of_below hb1) _)
      obtain ⟨fb, fs, rfl, hfw⟩ := hf
      clear hb1 hs hP hj hx hor hW1 hfw
      go_wp2_with fail
      go_ret
      exact ⟨HGR.out, Or.inr ⟨HS.out, rfl⟩⟩
  · refine (set_any x.c kv cb wd v hk (by omega) w hg hW).mono ?_
    have hX : setK x wd v = (setP x.c wd v).map fun c => ⟨c, x.o⟩ := by unfold setK; rw [if_neg hk]
    rintro e w' ⟨hgr, ⟨c', hc, rfl, hW'⟩ | ⟨hc, rfl⟩⟩
    · refine ⟨hgr, Or.inl ⟨⟨c', x.o⟩, kv, by rw [hX, hc]; rfl, rfl, hW', hK.set hgr⟩⟩
    · exact ⟨hgr, Or.inr ⟨by rw [hX, hc]; rfl, rfl⟩⟩
end Go.Proofs.YtbbdammdiplagaaGreatDoor
