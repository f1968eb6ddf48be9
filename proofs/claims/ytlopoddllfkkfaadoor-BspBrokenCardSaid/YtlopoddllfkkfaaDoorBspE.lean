/- A new machine. -/
import Derived.Test.YtlopoddllfkkfaaDoorBspD
import Derived.Deep.RegionWith
namespace Go.Proofs.YtlopoddllfkkfaaDoor
open Go.RowKit

theorem newk_b' {w : World} {base : Nat} (hbase : base ≤ w.heap.size) (k : Nat) (h1 : 1 ≤ k) (h2 : k ≤ 64) :
    Calls Tryd.prog 27 #[.int .i64 k] w fun e w' => ∃ b R, e = .returned (.tuple #[.pointer (some ⟨b, 0, none⟩), .nilIface]) ∧ NetB w' base 0 (freshP k) b R ∧ (∀ k, R k → w.heap.size ≤ k) ∧ Below w.heap.size w w' :=
  (newk_b hbase k h1 h2).mono fun e w' ⟨v, he, b, R, hv, h3, h4, h5⟩ => ⟨b, R, by rw [he, hv], h3, h4, h5⟩
/-- What New makes, ahead of going back. -/
structure NewRaw (base k : Nat) (X : List ByteArray) (job : Value) (b : Nat) (Rn : Nat → Prop) (W : World) (m ib : Nat) (sv : Value) (A : Option Addr) (c : Nat) : Prop where
  sve : sv = .slice A k c
  whole : Whole W m 68 #[job, .int .i64 0, sv, .slice (some ⟨ib, 0, none⟩) k k, .slice none 0 0, .slice none 0 0, .pointer (some ⟨b, 0, none⟩)]
  rows : Whole W ib 22 (List.replicate k (Value.slice none 0 0)).toArray
  st : ValsV W sv (txtC X)
  net : NetB W base 0 (freshP k) b Rn
  nm : ¬ Rn m
  bm : base ≤ m
  bi : base ≤ ib
  mi : m ≠ ib
  sb : ∀ g, sv.ownBlock = some g → base ≤ g ∧ g < W.heap.size ∧ g ≠ m ∧ g ≠ ib
theorem new_back {base k : Nat} {X : List ByteArray} {job : Value} {b : Nat} {Rn : Nat → Prop} {W : World} {m ib : Nat} {sv : Value} {A : Option Addr} {c : Nat} (h : NewRaw base k X job b Rn W m ib sv A c) (hX : X.length = k) (k1 : 1 ≤ k) (k2 : k ≤ 64) (hbase : base ≤ W.heap.size) :
    Calls Tryd.prog 30 #[.pointer (some ⟨m, 0, none⟩)] W fun e w' => e = .returned (.tuple #[]) ∧ ∃ R, MachB w' base 0 (startP k 0 X (List.replicate k [])) job m R ∧ (∀ g, R g → base ≤ g) ∧ Below base W w' := by
  have hw := h.whole
  rw [h.sve] at hw
  refine (back_any hw h.net h.nm hbase k2).mono ?_
  rintro e w' ⟨rfl, hB0⟩
  have hB : BackTo base k m k job (.int .i64 0) (.slice A k c) (.slice (some ⟨ib, 0, none⟩) k k) W w' := hB0
  have hfB := hB
  obtain ⟨_, _, _, _, _, _, _, _, hfB, _⟩ := hfB
  have hnil : ∀ (i : Nat) (u : Value), (List.replicate k (Value.slice none 0 0))[i]? = some u → u = .slice none 0 0 := fun i u hu => by
    rw [List.getElem?_replicate] at hu
    split at hu
    · exact (Option.some.inj hu).symm
    · cases hu
  obtain ⟨nb, wb, b', Rn', hM, hnew⟩ := mach_mk (st := X) (bx := List.replicate k []) (rd := 0) (us := List.replicate k (.slice none 0 0)) (sv := .slice A k c) hB h.bm h.whole.lt h.bi h.mi
    (fun g hg => by
      rcases hg with hg | ⟨i, u, hu, hg⟩
      · exact h.sb g (by rw [h.sve]; exact hg)
      · rw [hnil i u hu] at hg; cases hg)
    h.rows (by rw [← h.sve]; exact h.st)
    (fun i u Y hu hY => by
      rw [hnil i u hu]
      rw [List.getElem?_replicate] at hY
      split at hY
      · rw [← Option.some.inj hY]; exact Or.inl ⟨rfl, none, 0, rfl⟩
      · cases hY)
    hX (by simp) (by simp) k1 k2
  refine ⟨rfl, _, ⟨nb, wb, ib, b', _, _, Rn', hM, rfl⟩, fun g hg => ?_, hfB.below hbase (fun g hg => by rw [hg]; exact h.bm)⟩
  rcases hg with rfl | rfl | rfl | rfl | hg | hg | ⟨i, u, hu, hg⟩
  · exact h.bm
  · have := hnew _ (Or.inl rfl); omega
  · have := hnew _ (Or.inr (Or.inl rfl)); omega
  · exact h.bi
  · have := hnew _ (Or.inr (Or.inr hg)); omega
  · exact (h.sb g (by rw [h.sve]; exact hg)).1
  · rw [hnil i u hu] at hg; cases hg
theorem made_rows (k : Nat) : madeCells #[.slice none 0 0] k = (List.replicate k (Value.slice none 0 0)).toArray := madeOne _ _
set_option maxRecDepth 100000 in
set_option maxHeartbeats 4000000 in
theorem mnew_good (X : List ByteArray) (T : TypeId) (jv : Value) (v : Value) (w : World) (hv : ValsV w v (txtC X)) (h1 : 1 ≤ X.length) (h2 : X.length ≤ 64) :
    Calls Tryd.prog 10 #[.iface T jv, v] w fun e w' => ∃ m R, e = .returned (.tuple #[.pointer (some ⟨m, 0, none⟩), .nilIface]) ∧ MachB w' w.heap.size 0 (startP X.length 0 X (List.replicate X.length [])) (.iface T jv) m R ∧ (∀ g, R g → w.heap.size ≤ g) ∧ Below w.heap.size w w' := by
  obtain ⟨A, c, rfl⟩ := txt_form hv
  obtain ⟨k, hk⟩ : ∃ k, X.length = k := ⟨_, rfl⟩
  rw [hk] at hv h1 h2 ⊢
  have NN := Lib.hid (newk_b' (base := w.heap.size) (Nat.le_refl _) k h1 h2)
  have CL : Hid (∀ W, Below w.heap.size w W → Calls Tryd.prog 29 #[.slice A k c] W fun e w' => ∃ A' c', e = .returned (.slice A' k c') ∧ w'.ownsRow W.heap.size 9 1 (.slice A' k c') k (txtC X) ∧ Below W.heap.size W w') := Lib.hid (fun W hb => (clone_txt X _ W (hv.below hb (Nat.le_refl _)) (by omega)).mono fun e w' ⟨v, h1, h2, h3⟩ => by
    rw [hk] at h2
    obtain ⟨A', c', rfl⟩ := own_form h2
    exact ⟨A', c', h1, h2, h3⟩)
  have mk1 := fun V => make_rows k V (by omega)
  have HK := Lib.hid hk; have H1 := Lib.hid h1; have H2 := Lib.hid h2
  clear hv hk h1 h2
  go_enter Tryd.func10, Tryd.ntmps10
  go_wp2_with fail
  refine NN.out.mono ?_; rintro e w1 ⟨b, Rn, rfl, hn, hr, hb1⟩
  have HB1 := Lib.hid hb1; have HNB := Lib.hid hn; have HRR := Lib.hid hr
  have CL1 := Lib.hid (fun W (h : Below w1.heap.size w1 W) => CL.out W (hb1.trans (h.mono hb1.size)))
  clear hb1 hn hr
  go_wp2_with fail
  go_region_with (go_at_call 29; refine (CL1.out _ (by first | exact Below.refl _ _ | exact below_drewN' (Below.refl _ _) _ | exact (below_drewN' (Below.refl _ _) _).alloc (Nat.le_refl _) _ | exact below_drewN' ((Below.refl _ _).alloc (Nat.le_refl _) _) _)).mono ?_; rintro e' wC ⟨Ac, cc, rfl, hoC, hBC⟩)
  · have hs1 := HB1.out.size
    have hsC : w1.heap.size ≤ wC.heap.size := hBC.size
    obtain ⟨W, hW⟩ : ∃ W, ((wC.alloc (.cells (madeCells #[.slice none 0 0] k) 22)).alloc (.cells #[.iface T jv, .int .i64 0, .slice Ac k cc, .slice (some ⟨wC.heap.size, 0, none⟩) k k, .slice none 0 0, .slice none 0 0, .pointer (some ⟨b, 0, none⟩)] 68)) = W := ⟨_, rfl⟩
    have hb2 : Below wC.heap.size wC W := by rw [← hW]; exact ((Below.refl _ _).alloc (Nat.le_refl _) _).alloc (by rw [World.size_alloc]; omega) _
    have hbC1 : Below w1.heap.size w1 wC := (below_drewN' (Below.refl _ _) 1).trans hBC
    have hbw : Below w.heap.size w W := HB1.out.trans ((hbC1.trans (hb2.mono hsC)).mono hs1)
    have q1 := Whole.new (wC.alloc (.cells (madeCells #[.slice none 0 0] k) 22)) 68 #[.iface T jv, .int .i64 0, .slice Ac k cc, .slice (some ⟨wC.heap.size, 0, none⟩) k k, .slice none 0 0, .slice none 0 0, .pointer (some ⟨b, 0, none⟩)]
    have q2 := (Whole.new wC 22 (madeCells #[.slice none 0 0] k)).alloc (.cells #[.iface T jv, .int .i64 0, .slice Ac k cc, .slice (some ⟨wC.heap.size, 0, none⟩) k k, .slice none 0 0, .slice none 0 0, .pointer (some ⟨b, 0, none⟩)] 68)
    rw [World.size_alloc] at q1
    rw [hW] at q1 q2
    have hsW : wC.heap.size ≤ W.heap.size := hb2.size
    have hraw : NewRaw w.heap.size k X (.iface T jv) b Rn W (wC.heap.size + 1) wC.heap.size (.slice Ac k cc) Ac cc := {
      sve := rfl
      whole := q1
      rows := by rw [← made_rows]; exact q2
      st := (own_vals hoC).below hb2 (Nat.le_refl _)
      net := HNB.out.below (hbC1.trans (hb2.mono hsC))
      nm := fun hr => by have := (HNB.out.foot hr).2; omega
      bm := by omega
      bi := by omega
      mi := by omega
      sb := fun g hg => by
        have h9 := hoC.lt g hg
        have h8 : w1.heap.size ≤ g := h9.1
        exact ⟨by omega, by omega, by omega, by omega⟩ }
    clear q1 q2 hb2 hbC1
    have HRAW := Lib.hid hraw
    have BK := Lib.hid (new_back hraw HK.out H1.out H2.out (by omega))
    have HW := Lib.hid hW
    have HBW := Lib.hid hbw
    clear hraw hW hbw hoC hBC
    go_wp2_with fail
    rw [HW.out]
    refine BK.out.mono ?_; rintro e w8 ⟨rfl, R, hM, hR, hb⟩
    have HM := Lib.hid hM; have HR := Lib.hid hR; have HB := Lib.hid (HBW.out.trans hb)
    clear hM hR hb
    go_wp2_with fail
    go_ret2
    exact ⟨_, R, rfl, HM.out, HR.out, HB.out⟩
  · have hs1 := HB1.out.size
    have hsC0 : (w1.alloc (.cells (madeCells #[.slice none 0 0] k) 22)).drew.heap.size ≤ wC.heap.size := hBC.size
    have hsA : (w1.alloc (.cells (madeCells #[.slice none 0 0] k) 22)).drew.heap.size = w1.heap.size + 1 := World.size_alloc _ _
    have hsC : w1.heap.size + 1 ≤ wC.heap.size := by omega
    obtain ⟨W, hW⟩ : ∃ W, (wC.alloc (.cells #[.iface T jv, .int .i64 0, .slice Ac k cc, .slice (some ⟨w1.heap.size, 0, none⟩) k k, .slice none 0 0, .slice none 0 0, .pointer (some ⟨b, 0, none⟩)] 68)) = W := ⟨_, rfl⟩
    have hb2 : Below wC.heap.size wC W := by rw [← hW]; exact (Below.refl _ _).alloc (Nat.le_refl _) _
    have hbA : Below w1.heap.size w1 (w1.alloc (.cells (madeCells #[.slice none 0 0] k) 22)).drew := below_drewN' ((Below.refl _ _).alloc (Nat.le_refl _) _) 1
    have hbC1 : Below w1.heap.size w1 wC := hbA.trans (hBC.mono (by omega))
    have hbw : Below w.heap.size w W := HB1.out.trans ((hbC1.trans (hb2.mono (by omega))).mono hs1)
    have q1 := Whole.new wC 68 #[.iface T jv, .int .i64 0, .slice Ac k cc, .slice (some ⟨w1.heap.size, 0, none⟩) k k, .slice none 0 0, .slice none 0 0, .pointer (some ⟨b, 0, none⟩)]
    have q2 := (((Whole.new w1 22 (madeCells #[.slice none 0 0] k)).drewN 1).below hBC (by omega)).below hb2 (by omega)
    rw [hW] at q1
    have hsW : wC.heap.size ≤ W.heap.size := hb2.size
    have hraw : NewRaw w.heap.size k X (.iface T jv) b Rn W wC.heap.size w1.heap.size (.slice Ac k cc) Ac cc := {
      sve := rfl
      whole := q1
      rows := by rw [← made_rows]; exact q2
      st := (own_vals hoC).below hb2 (Nat.le_refl _)
      net := HNB.out.below (hbC1.trans (hb2.mono (by omega)))
      nm := fun hr => by have := (HNB.out.foot hr).2; omega
      bm := by omega
      bi := by omega
      mi := by omega
      sb := fun g hg => by
        have h9 := hoC.lt g hg
        exact ⟨by omega, by omega, by omega, by omega⟩ }
    clear q1 q2 hb2 hbC1 hbA
    have HRAW := Lib.hid hraw
    have BK := Lib.hid (new_back hraw HK.out H1.out H2.out (by omega))
    have HW := Lib.hid hW
    have HBW := Lib.hid hbw
    clear hraw hW hbw hoC hBC
    go_wp2_with fail
    rw [HW.out]
    refine BK.out.mono ?_; rintro e w8 ⟨rfl, R, hM, hR, hb⟩
    have HM := Lib.hid hM; have HR := Lib.hid hR; have HB := Lib.hid (HBW.out.trans hb)
    clear hM hR hb
    go_wp2_with fail
    go_ret2
    exact ⟨_, R, rfl, HM.out, HR.out, HB.out⟩
end Go.Proofs.YtlopoddllfkkfaaDoor
