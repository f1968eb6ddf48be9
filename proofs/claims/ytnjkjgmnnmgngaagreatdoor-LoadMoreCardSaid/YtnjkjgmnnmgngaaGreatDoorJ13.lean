/- load.Text. load: the graph of a parcel. load.unpack. load: Bytes, Any. -/
import Derived.Test.YtnjkjgmnnmgngaaGreatDoorJ12
import Derived.Test.YtnjkjgmnnmgngaaGreatDoorJ7
import Derived.Test.YtnjkjgmnnmgngaaGreatDoorJ11
import Derived.Test.YtnjkjgmnnmgngaaGreatDoorJ8
import Derived.Test.YtnjkjgmnnmgngaaGreatDoorJ6
import Derived.Deep.RegionHeld3
import Derived.Lib.SlBytesConst
namespace Go.Proofs.YtnjkjgmnnmgngaaGreatDoor
section
open Go.RowKit

theorem newFault_range {L : List Int} {E : List (Int × Int)} {c p : Int} (h : newFault L E = some (c, p)) : 0 ≤ p ∧ p ≤ 16384 := by
  unfold newFault at h
  split at h
  · injection h with h
    injection h with h1 h2
    omega
  · rename_i hs
    split at h
    · rename_i i hi
      injection h with h
      injection h with h1 h2
      have := List.mem_range.1 (List.mem_of_find?_eq_some hi)
      omega
    · split at h
      · rename_i i hi
        injection h with h
        injection h with h1 h2
        have := List.mem_range.1 (List.mem_of_find?_eq_some hi)
        omega
      · cases h
theorem takeL_len {d d' : Dr} {s : List UInt8} (h : takeL d s = some d') : d'.l.length ≤ d.l.length + 1 ∧ d'.e.length ≤ d.e.length + 1 := by
  unfold takeL takeW at h
  split at h
  · split at h
    · split at h
      · split at h
        · injection h with h
          rw [← h]; simp
        · cases h
      · split at h
        · injection h with h
          rw [← h]; simp
        · cases h
    · cases h
  · cases h
theorem DraftAt.below {w w' : World} {base db : Nat} {d : Dr} (h : DraftAt w base db d) {B : Nat} (hb : Below B w w') (hB : w.heap.size ≤ B) : DraftAt w' base db d := by
  obtain ⟨hbd, Al, cl, Ae, ce, hw, ho1, ho2⟩ := h
  exact ⟨hbd, Al, cl, Ae, ce, hw.below hb (by have := hw.lt; omega), own_below ho1 hb hB, own_below ho2 hb hB⟩
theorem GraphOwn.base {w : World} {base base' g : Nat} {L : List Int} {S : List (Int × Int)} (h : GraphOwn w base g L S) (hb : base' ≤ base) : GraphOwn w base' g L S := by
  obtain ⟨A, c, eb, nb, ab, us, h1, h2, h3, h4, h5, h6, k1, k2, k3, k4⟩ := h
  exact ⟨A, c, eb, nb, ab, us, h1, own_base h2 hb, h3, h4, h5, ⟨h6.len, fun i x M hx hM => own_base (h6.row i x M hx hM) hb, h6.apart⟩, by omega, by omega, by omega, by omega⟩
theorem runD_line {d : Dr} {i : Nat} {s : List UInt8} (hs : s ≠ []) (h : endsF s = false ∨ takeL d (lineF s) = none) : runD s.length d i s = .inl i := by
  obtain ⟨n, hn⟩ : ∃ n, s.length = n + 1 := ⟨s.length - 1, by have := List.length_pos_iff.2 hs; omega⟩
  rw [hn, runD, if_neg hs]
  rcases h with h | h
  · rw [if_pos h]
  · rw [h]
    split <;> rfl
/-- What Text tells of a text. -/
def LoadTo (s : List UInt8) (w : World) (e : Ending) (w' : World) : Prop :=
  Below w.heap.size w w' ∧ ((∃ p u, loadT s = .inl p ∧ e = .returned (.tuple #[.pointer none, u]) ∧ FaultAt 11 p w' u) ∨
    (∃ d g, loadT s = .inr d ∧ newFault d.l d.e = none ∧ e = .returned (.tuple #[.pointer (some ⟨g, 0, none⟩), .nilIface]) ∧ GraphOwn w' w.heap.size g d.l (sortE d.e)))
set_option maxRecDepth 100000 in
set_option maxHeartbeats 4000000 in
theorem load_any (s : List UInt8) (hs : s.length ≤ 262144) (w : World) (hg : GT w) :
    Calls Tryz.prog 16 #[.string (str s)] w (LoadTo s w) := by
  have HG := Lib.hid hg
  obtain ⟨n, hn⟩ : ∃ n, s.length = n := ⟨_, rfl⟩
  have hsz : (str s).size = n := hn
  have HN := Lib.hid hn
  rw [hn] at hs
  have HNB := Lib.hid hs
  obtain ⟨S, hS⟩ : ∃ S, str s = S := ⟨_, rfl⟩
  rw [hS] at hsz ⊢
  have HS := Lib.hid hS
  clear hg hn hS
  have t1 : decide ((262144 : Int) < (S.size : Int)) = false := decide_eq_false (by omega)
  have t1' : decide (262144 < S.size) = false := decide_eq_false (by omega)
  clear hsz hs
  go_enter Tryz.func16, Tryz.ntmps16
  go_wp2_with fail
  go_loopg [0, 5] n (fun g sv lv wr => ∃ (d : Dr) (i : Nat) (r : List UInt8), Runs ⟨[], []⟩ 0 s d i r ∧ r.length = g ∧ i + r.length ≤ n ∧ d.l.length ≤ i ∧ d.e.length ≤ i ∧ sv = .string (str r) ∧ lv = .int .i64 (i : Nat) ∧ DraftAt wr w.heap.size w.heap.size d ∧ Below w.heap.size w wr)
  case atStart =>
    refine ⟨⟨[], []⟩, 0, s, Runs.refl _ _ _, HN.out, by rw [HN.out]; omega, Nat.le_refl _, Nat.le_refl _, by rw [HS.out], rfl, ⟨Nat.le_refl _, none, 0, none, 0, Whole.new _ _ _, World.ownsRow_nil _ _ _ 1, World.ownsRow_nil _ _ _ 2⟩, (Below.refl _ _).alloc (Nat.le_refl _) _⟩
  case round =>
    obtain ⟨d, i, r, hrun, hrg, hin, hdl, hde, rfl, rfl, hd, hB⟩ := hrel
    have HNB2 := HNB.out
    have HRUN := Lib.hid hrun; have HRG := Lib.hid hrg; have HDL := Lib.hid hdl; have HDE := Lib.hid hde; have HD := Lib.hid hd; have HB := Lib.hid hB
    have hi' : i ≤ 262144 := by omega
    have hrn : r.length ≤ 262144 := by omega
    have HIN := Lib.hid hin; have HI := Lib.hid hi'; have HRN := Lib.hid hrn
    clear hrun hdl hde hd hin
    obtain ⟨rs, hrs⟩ : ∃ s, str r = s := ⟨_, rfl⟩
    rw [hrs]
    have HRS := Lib.hid hrs
    by_cases hr : r = []
    · have te : (rs.toList == []) = true := by rw [← hrs, str_toList, hr]; rfl
      have HTD : Hid (textD s = .inr d) := Lib.hid (by rw [textD_runs HRUN.out, hr]; rfl)
      obtain ⟨hbd, Al, cl, Ae, ce, hw, ho1, ho2⟩ := HD.out
      obtain ⟨L, E⟩ := d
      simp only at hw ho1 ho2
      have hE64 : ∀ e, e ∈ E → In64 e.1 ∧ In64 e.2 := fun e he => by
        have := textD_small HTD.out e he
        exact ⟨⟨by omega, by omega⟩, by omega, by omega⟩
      have hL1 := HDL.out
      have hE1 := HDE.out
      simp only at hL1 hE1
      have NW := Lib.hid (graph_new L E _ _ wr (own_seq ho1) (own_edges ho2) hE64 (by omega) (by omega))
      obtain ⟨x1, hx1⟩ : ∃ x, L.length = x := ⟨_, rfl⟩
      obtain ⟨x2, hx2⟩ : ∃ x, E.length = x := ⟨_, rfl⟩
      rw [hx1] at NW hw hL1
      rw [hx2] at NW hw hE1
      have d0 : wr.cell? ⟨w.heap.size, 0, none⟩ = some (.slice Al x1 cl) := hw.cell 0
      have d1 : wr.cell? ⟨w.heap.size, 1, none⟩ = some (.slice Ae x2 ce) := hw.cell 1
      have HX1 := Lib.hid hx1
      have hwl := hw.lt
      clear hrs hr hrg hw ho1 ho2 hE64 hx1 hx2 hbd hL1 hE1
      go_wp2_with fail
      refine NW.out.mono ?_; rintro e w1 ⟨hb1, ⟨hnf, g, rfl, hgo⟩ | ⟨c, p, u, hnf, rfl, hfa⟩⟩
      · have HB1 := Lib.hid (HB.out.trans (hb1.mono hB.size)); have HNF := Lib.hid hnf; have HGO := Lib.hid (hgo.base hB.size)
        clear hb1 hnf hgo d0 d1
        go_wp2_with fail
        go_ret2
        refine ⟨HB1.out, Or.inr ⟨⟨L, E⟩, g, ?_, HNF.out, rfl, HGO.out⟩⟩
        unfold loadT
        rw [HTD.out]
        simp only
        rw [HNF.out]
      · have HB1 := Lib.hid (HB.out.trans (hb1.mono hB.size)); have HNF := Lib.hid hnf; have HFA := Lib.hid hfa
        have HD1 := Lib.hid (HD.out.below hb1 (Nat.le_refl _))
        have hpr := newFault_range hnf
        have HPR := Lib.hid hpr
        obtain ⟨ub, rfl⟩ := hfa.form
        have LN := Lib.hid (line_any w.heap.size w.heap.size ⟨L, E⟩ c p _ w1 (HG.out.below HB1.out (Nat.le_refl _)).et HD1.out (by show L.length ≤ _; have := HDL.out; have := HI.out; omega) (by omega) HFA.out)
        have HLT : Hid (loadT s = .inl (lineErr ⟨L, E⟩ c p)) := Lib.hid (by
          unfold loadT
          rw [HTD.out]
          simp only
          rw [HNF.out])
        obtain ⟨q, hq⟩ : ∃ q, lineErr ⟨L, E⟩ c p = q := ⟨_, rfl⟩
        rw [hq] at LN HLT
        clear hb1 hnf hfa d0 d1 hpr hq
        go_wp2_with fail
        refine LN.out.mono ?_; rintro e w2 ⟨rfl, hb2⟩
        have HB2 := Lib.hid (HB1.out.trans (hb2.mono HB1.out.size))
        have HFA2 := Lib.hid (HFA.out.below hb2 (Nat.le_refl _))
        clear hb2
        have FT := Lib.hid (faultText_any HFA2.out (HG.out.below HB2.out (Nat.le_refl _)).et)
        go_wp2_with fail
        refine FT.out.mono ?_; rintro e w3 ⟨⟨fs, rfl, hfs⟩, hb3⟩
        have HB3 := Lib.hid (HB2.out.trans (hb3.mono HB2.out.size)); have HFS := Lib.hid hfs
        clear hb3 hfs
        go_wp2_with fail
        refine (new_any _ _ _ _).mono ?_; rintro e w4 ⟨rfl, rfl⟩
        go_wp2_with fail
        go_ret2
        exact ⟨HB3.out.alloc HB3.out.size _, Or.inl ⟨q, _, HLT.out, rfl, _, _, rfl, Whole.new _ _ _, HFS.out⟩⟩
    · have te : (rs.toList == []) = false := by rw [← hrs, str_toList, beq_eq_false_iff_ne]; exact hr
      have HR := Lib.hid hr
      have HCUT := Lib.hid (cut_at r 10 wr (HG.out.below HB.out (Nat.le_refl _)) (by have := HRN.out; omega))
      rw [HRS.out] at HCUT
      obtain ⟨p, q, z, hc, hcase⟩ : ∃ p q z, Lib.cut r [10] = (p, q, z) ∧ ((z = true ∧ (10 : UInt8) ∉ p ∧ r = p ++ 10 :: q) ∨ (z = false ∧ (10 : UInt8) ∉ r ∧ p = r ∧ q = [])) := by
        rcases cut_cases r 10 with h | ⟨p, q, e, h⟩
        · exact ⟨r, [], false, cut_no h, Or.inr ⟨rfl, h, rfl, rfl⟩⟩
        · refine ⟨p, q, true, ?_, Or.inl ⟨rfl, h, e⟩⟩
          rw [e]
          exact cut_yes h
      have HEND : Hid (endsF r = z) := Lib.hid (by unfold endsF; rw [hc])
      have HLIN : Hid (lineF r = p) := Lib.hid (by unfold lineF; rw [hc])
      rw [hc] at HCUT
      simp only at HCUT
      have hp : p.length ≤ 1000000 := by
        rcases hcase with ⟨_, _, e⟩ | ⟨_, _, e, _⟩
        · rw [e] at hrn; simp at hrn; omega
        · rw [e]; omega
      have HCASE := Lib.hid hcase
      have HTAKE := Lib.hid (fun (W : World) (h : Below wr.heap.size wr W) => take_any w.heap.size w.heap.size d p W (HG.out.below (HB.out.trans (h.mono HB.out.size)) (Nat.le_refl _)) (HD.out.below h (Nat.le_refl _)) hp (by have := HDL.out; have := HI.out; omega) (by have := HDE.out; have := HI.out; omega) (HB.out.trans (h.mono HB.out.size)).size)
      have HBAD : Hid (z = false ∨ takeL d p = none → loadT s = .inl (i : Int)) := Lib.hid (fun h => by
        unfold loadT
        rw [textD_runs HRUN.out, runD_line HR.out (by rw [HEND.out, HLIN.out]; exact h)])
      clear hp hcase hc hrs hr hrg
      obtain ⟨ps, hps⟩ : ∃ s, str p = s := ⟨_, rfl⟩
      obtain ⟨qs, hqs⟩ : ∃ s, str q = s := ⟨_, rfl⟩
      rw [hps, hqs] at HCUT
      rw [hps] at HTAKE
      have HQS := Lib.hid hqs
      clear hps hqs
      go_wp2_with fail
      refine HCUT.out.mono ?_; rintro e w2 ⟨rfl, hb2⟩
      have HTW := Lib.hid (HTAKE.out w2 hb2)
      have HB2 := Lib.hid (HB.out.trans (hb2.mono HB.out.size))
      have HIT := Lib.hid (fun W (h : Below w.heap.size w W) => itoa_at i (by omega) W (HG.out.below h (Nat.le_refl _)))
      have hds : (str (Lib.decDigits i)).size ≤ 20 := by
        show (Lib.decDigits i).length ≤ 20
        exact (dec_len_iff i 20 (by decide)).2 (by omega)
      have HDS := Lib.hid hds
      obtain ⟨ds, hd2⟩ : ∃ x, str (Lib.decDigits i) = x := ⟨_, rfl⟩
      rw [hd2] at HIT HDS hds
      clear hb2 hd2
      cases z with
      | false =>
        have HL := Lib.hid (HBAD.out (Or.inl rfl))
        have HI1 := Lib.hid (HIT.out w2 HB2.out)
        go_wp2_with fail
        refine HI1.out.mono ?_; rintro e w3 ⟨rfl, hb3⟩
        have HB3 := Lib.hid (HB2.out.trans (hb3.mono HB2.out.size))
        clear hb3
        go_wp2_with fail
        refine (new_any _ _ _ _).mono ?_; rintro e w4 ⟨rfl, rfl⟩
        go_wp2_with fail
        go_ret2
        exact ⟨HB3.out.alloc HB3.out.size _, Or.inl ⟨i, _, HL.out, rfl, _, _, rfl, Whole.new _ _ _, by have := HDS.out; simp [ByteArray.size_append]; first | omega | (show 5 + ds.size ≤ 100; omega)⟩⟩
      | true =>
        go_wp2_with fail
        refine HTW.out.mono ?_; rintro e w3 ⟨hb3, hs3, ⟨d', htk, rfl, hd3⟩ | ⟨htk, rfl⟩⟩
        · have HB3 := Lib.hid (show Below w.heap.size w w3 from HB2.out.trans hb3)
          have HTK := Lib.hid htk; have HD3 := Lib.hid hd3
          clear hb3 hs3 htk hd3 hds
          go_wp2_with fail
          rcases HCASE.out with ⟨_, hp10, er⟩ | ⟨h, _⟩
          case inr => cases h
          have hql : r.length = p.length + (q.length + 1) := by rw [er]; simp
          go_roundg q.length
          case rel =>
            have hl := takeL_len HTK.out
            have h1 := HDL.out; have h2 := HDE.out; have h3 := HIN.out
            refine ⟨d', i + 1, q, ?_, rfl, by omega, by omega, by omega, by rw [HQS.out], rfl, HD3.out, HB3.out⟩
            have := HRUN.out.trans (runs_line (i := i) (r := q) hp10 HTK.out |> fun h => er ▸ h)
            exact this
          case measure => rw [← HRG.out]; omega
        · have HB3 := Lib.hid (show Below w.heap.size w w3 from HB2.out.trans hb3)
          have HL := Lib.hid (HBAD.out (Or.inr htk))
          have HI1 := Lib.hid (HIT.out w3 HB3.out)
          clear hb3 hs3 htk
          go_wp2_with fail
          refine HI1.out.mono ?_; rintro e w5 ⟨rfl, hb5⟩
          have HB5 := Lib.hid (HB3.out.trans (hb5.mono HB3.out.size))
          clear hb5
          go_wp2_with fail
          refine (new_any _ _ _ _).mono ?_; rintro e w4 ⟨rfl, rfl⟩
          go_wp2_with fail
          go_ret2
          exact ⟨HB5.out.alloc HB5.out.size _, Or.inl ⟨i, _, HL.out, rfl, _, _, rfl, Whole.new _ _ _, by have := HDS.out; simp [ByteArray.size_append]; first | omega | (show 5 + ds.size ≤ 100; omega)⟩⟩
end

section
open Go.RowKit

/-- The list that stands at a place, and the place behind it. -/
def listAt (l : List UInt8) (p most : Nat) : Option (List Int × Nat) :=
  if p + 4 ≤ l.length ∧ num (sub l p 4) ≤ most ∧ p + 4 + 4 * num (sub l p 4) ≤ l.length then some ((List.range (num (sub l p 4))).map (fun i => ((num (sub l (p + 4 + 4 * i) 4) : Nat) : Int)), p + 4 + 4 * num (sub l p 4)) else none
def pairsL (X : List Int) : List (Int × Int) := (List.range (X.length / 2)).map fun i => (X.getD (2 * i) 0, X.getD (2 * i + 1) 0)
theorem pairsL_len (X : List Int) : (pairsL X).length = X.length / 2 := by simp [pairsL]
theorem pairsL_at {X : List Int} {i : Nat} (h : i < X.length / 2) : (pairsL X).getD i (0, 0) = (X.getD (2 * i) 0, X.getD (2 * i + 1) 0) := by
  simp [pairsL, List.getD, h]
def bodyG (l : List UInt8) : Option Dr := match listAt l 0 4096 with
  | none => none
  | some (L, p) => match listAt l p 32768 with
    | none => none
    | some (X, q) => if q = l.length ∧ X.length % 2 = 0 ∧ newFault L (pairsL X) = none then some ⟨L, pairsL X⟩ else none
/-- The graph of a parcel. -/
def bytesG (b : List UInt8) : Option Dr := match up b with
  | some _ => none
  | none => if b.getD 4 0 = 1 then bodyG ((b.take (b.length - 4)).drop 9) else none
def filledP (E : List (Int × Int)) (k : Nat) : List (Int × Int) := E.take k ++ List.replicate (E.length - k) (0, 0)
theorem filledP_len {E : List (Int × Int)} {k : Nat} (h : k ≤ E.length) : (filledP E k).length = E.length := by simp [filledP]; omega
theorem filledP_zero (E : List (Int × Int)) : filledP E 0 = List.replicate E.length (0, 0) := by simp [filledP]
theorem filledP_all (E : List (Int × Int)) : filledP E E.length = E := by simp [filledP]
theorem filledP_set {E : List (Int × Int)} {k : Nat} (h : k < E.length) : (filledP E k).set k E[k] = filledP E (k + 1) := by
  unfold filledP
  have hl : (E.take k).length = k := by simp; omega
  obtain ⟨m, hm⟩ : ∃ m, E.length - k = m + 1 := ⟨E.length - k - 1, by omega⟩
  rw [List.set_append_right _ _ (by omega), hl, Nat.sub_self, hm, List.replicate_succ, List.set_cons_zero, show E.length - (k + 1) = m by omega, List.take_succ_eq_append_getElem h, List.append_assoc]
  rfl
theorem below_grown_g {B g : Nat} {a w w' : World} (h : Below B a w) (k : w.grownBy w' (some g)) (hg : B ≤ g) (hB : B ≤ w.heap.size) : Below B a w' :=
  ⟨k.os.trans h.os, k.tape.trans h.tape, k.output.trans h.output, Nat.le_trans h.size k.size, fun i hi => (k.block i (by omega) (fun e => by injection e with e; omega)).trans (h.block i hi)⟩
theorem IntsV.grown {w w' : World} {b g c n : Nat} {Z : Nat → Int} (h : IntsV w (.slice (some ⟨b, 0, none⟩) n c) n Z) (k : w.grownBy w' (some g)) (hne : b ≠ g) : IntsV w' (.slice (some ⟨b, 0, none⟩) n c) n Z := by
  rcases h with h | ⟨h0, b', off, c', e, hc⟩
  · exact Or.inl h
  · injection e with e1 e2 e3
    injection e1 with e1
    injection e1 with e1 e4 e5
    subst e1 e4
    refine Or.inr ⟨h0, b, 0, c, rfl, fun i hi => ?_⟩
    rw [cell_grown k (World.block_lt_of_cell? _ _ (hc i hi)) hne]
    exact hc i hi
theorem listAt_bound {l : List UInt8} {p most q : Nat} {L : List Int} (h : listAt l p most = some (L, q)) : L.length ≤ most ∧ (∀ x ∈ L, 0 ≤ x ∧ x < 4294967296) ∧ q ≤ l.length := by
  unfold listAt at h
  split at h
  · rename_i hc
    injection h with h
    injection h with h1 h2
    subst h1 h2
    refine ⟨by simp; omega, fun x hx => ?_, hc.2.2⟩
    obtain ⟨i, hi, rfl⟩ := List.mem_map.1 hx
    have hi := List.mem_range.1 hi
    have := num_lt 4 (sub l (p + 4 + 4 * i) 4) (sub_len _ _ _ (by omega))
    omega
  · cases h
theorem pairsL_small {X : List Int} (h : ∀ x ∈ X, 0 ≤ x ∧ x < 4294967296) : ∀ e ∈ pairsL X, In64 e.1 ∧ In64 e.2 := by
  intro e he
  obtain ⟨i, hi, rfl⟩ := List.mem_map.1 he
  have hi := List.mem_range.1 hi
  have hh : ∀ j, j < X.length → In64 (X.getD j 0) := fun j hj => by
    have e : X.getD j 0 = X[j] := by simp [List.getD, hj]
    rw [e]
    have := h _ (List.getElem_mem hj)
    exact ⟨by omega, by omega⟩
  exact ⟨hh _ (by omega), hh _ (by omega)⟩
theorem FaultAt.ofR {w : World} {v : Value} {c : Int} {p : Nat} (h : RErr w v (some (c, p))) : FaultAt c (p : Int) w v := h
theorem FaultAt.ofO {w : World} {v : Value} {c : Int} (h : FaultOf c w v) : ∃ a, FaultAt c a w v := by
  obtain ⟨b, e, a, s, hw, hs⟩ := h
  exact ⟨a, b, s, e, hw, hs⟩
/-- What unpack tells. -/
def UnpG (b : List UInt8) (w : World) (e : Ending) (w' : World) : Prop :=
  Below w.heap.size w w' ∧ ((bytesG b = none ∧ ∃ c p u, e = .returned (.tuple #[.pointer none, u]) ∧ FaultAt c p w' u) ∨ (∃ d g, bytesG b = some d ∧ e = .returned (.tuple #[.pointer (some ⟨g, 0, none⟩), .nilIface]) ∧ GraphOwn w' w.heap.size g d.l (sortE d.e)))
end

section
open Go.RowKit

/-- What List does to a reader, told in one form. -/
def LR (w w' : World) (g p most : Nat) (E : Option (Int × Nat)) (l : List UInt8) (A : Option Addr) (n c p' : Nat) (E' : Option (Int × Nat)) : Prop :=
  RdAt w' g l p' E' ∧ g < w.heap.size ∧ w.grownBy w' (some g) ∧ ((∃ L b, E = none ∧ E' = none ∧ listAt l p most = some (L, p') ∧ n = L.length ∧ n = c ∧ A = some ⟨b, 0, none⟩ ∧ w.heap.size ≤ b ∧ SeqV w' (.slice A n c) L) ∨ (E' ≠ none ∧ ¬ (E = none ∧ listAt l p most ≠ none)))
theorem list_lr (g p most : Nat) (E : Option (Int × Nat)) (l : List UInt8) (w : World) (h : RdAt w g l p E) (hM : most ≤ 1000000000) (hl : l.length ≤ 1000000000) :
    Calls Tryz.prog 54 #[.pointer (some ⟨g, 0, none⟩), .int .i64 most] w fun e w' => ∃ A n c p' E', e = .returned (.slice A n c) ∧ LR w w' g p most E l A n c p' E' := by
  refine (rlist_any g p most E l w h hM hl).mono ?_
  rintro e w' ⟨hg, ⟨rfl, ⟨x, hx⟩, hno⟩ | ⟨hE, n, b, hn, h1, h2, rfl, hb, hI, hR⟩⟩
  · refine ⟨none, 0, 0, p, some x, rfl, hx, h.lt, hg, Or.inr ⟨by simp, ?_⟩⟩
    rintro ⟨hE, hL⟩
    apply hno
    unfold listAt at hL
    split at hL
    · rename_i hc
      exact ⟨hE, hc.1, hc.2.1, hc.2.2⟩
    · exact absurd rfl hL
  · subst hn
    refine ⟨some ⟨b, 0, none⟩, num (sub l p 4), num (sub l p 4), _, none, rfl, hR, h.lt, hg, Or.inl ⟨_, b, hE, rfl, by unfold listAt; rw [if_pos ⟨by omega, h1, h2⟩], by simp, rfl, rfl, hb, ?_⟩⟩
    have k := seqV_of hI
    exact k
/-- What the two lists tell of a body. -/
theorem body_bad {w w1 w2 : World} {g p1 p2 n1 c1 n2 c2 : Nat} {l : List UInt8} {A1 A2 : Option Addr} {E1 E2 : Option (Int × Nat)} (h1 : LR w w1 g 0 4096 none l A1 n1 c1 p1 E1) (h2 : LR w1 w2 g p1 32768 E1 l A2 n2 c2 p2 E2) (he : endE E2 p2 l.length ≠ none) : bodyG l = none := by
  unfold bodyG
  rcases h1 with ⟨_, _, _, ⟨L, b, _, rfl, hL, _⟩ | ⟨_, hno⟩⟩
  · rw [hL]
    simp only
    rcases h2 with ⟨_, _, _, ⟨X, b', _, rfl, hX, _⟩ | ⟨_, hno⟩⟩
    · rw [hX]
      simp only
      rw [if_neg]
      rintro ⟨hq, _⟩
      apply he
      unfold endE
      simp only
      rw [if_neg (by omega)]
    · have : listAt l p1 32768 = none := by
        cases hX : listAt l p1 32768 with
        | none => rfl
        | some x => exact absurd ⟨rfl, by rw [hX]; simp⟩ hno
      rw [this]
  · have : listAt l 0 4096 = none := by
      cases hX : listAt l 0 4096 with
      | none => rfl
      | some x => exact absurd ⟨rfl, by rw [hX]; simp⟩ hno
    rw [this]
theorem body_good {w w1 w2 : World} {g p1 p2 n1 c1 n2 c2 : Nat} {l : List UInt8} {A1 A2 : Option Addr} {E1 E2 : Option (Int × Nat)} (h1 : LR w w1 g 0 4096 none l A1 n1 c1 p1 E1) (h2 : LR w1 w2 g p1 32768 E1 l A2 n2 c2 p2 E2) (he : endE E2 p2 l.length = none) :
    ∃ L X, n1 = L.length ∧ n2 = X.length ∧ n1 ≤ 4096 ∧ n2 ≤ 32768 ∧ (∀ x ∈ L, 0 ≤ x ∧ x < 4294967296) ∧ (∀ x ∈ X, 0 ≤ x ∧ x < 4294967296) ∧ SeqV w2 (.slice A1 n1 c1) L ∧ SeqV w2 (.slice A2 n2 c2) X ∧ bodyG l = if X.length % 2 = 0 ∧ newFault L (pairsL X) = none then some ⟨L, pairsL X⟩ else none := by
  rcases h2 with ⟨_, _, hg2, ⟨X, b', hE1, hE2, hX, hn2, hc2, hA2, hb2, hs2⟩ | ⟨hE2, _⟩⟩
  · rcases h1 with ⟨_, hgl, _, ⟨L, b, _, _, hL, hn1, hc1, hA1, hb1, hs1⟩ | ⟨hE, _⟩⟩
    · have q1 := listAt_bound hL
      have q2 := listAt_bound hX
      refine ⟨L, X, hn1, hn2, by omega, by omega, q1.2.1, q2.2.1, ?_, hs2, ?_⟩
      · subst hA1
        subst hn1
        refine IntsV.grown hs1 hg2 ?_
        omega
      · unfold bodyG
        rw [hL]
        simp only
        rw [hX]
        simp only
        have hp : p2 = l.length := by
          subst hE2
          unfold endE at he
          simp only at he
          split at he
          · cases he
          · have := q2.2.2
            omega
        rw [hp]
        simp
    · exact absurd hE1 hE
  · subst_vars
    cases hx : E2 with
    | none => exact absurd hx hE2
    | some x => rw [hx] at he; simp [endE] at he
theorem SeqV.all {w : World} {A : Option Addr} {n c : Nat} {L : List Int} (h : SeqV w (.slice A n c) L) (hi : 0 < L.length) : ∃ b off, A = some ⟨b, off, none⟩ ∧ ∀ i, i < L.length → w.cell? ⟨b, off + i, none⟩ = some (.int .i64 (L.getD i 0)) := by
  rcases h with ⟨h0, _⟩ | ⟨_, b, off, c', e, hc⟩
  · omega
  · injection e with e1 _ _
    exact ⟨b, off, e1, hc⟩
theorem tmod_two (n : Nat) : Int.tmod (n : Int) 2 = ((n % 2 : Nat) : Int) := (Int.ofNat_tmod n 2).symm
theorem tdiv_two (n : Nat) : Int.tdiv (n : Int) 2 = ((n / 2 : Nat) : Int) := (Int.ofNat_tdiv n 2).symm
set_option maxRecDepth 100000 in
set_option maxHeartbeats 8000000 in
theorem unpackG_any (b : List UInt8) (v : Value) (w : World) (hv : BytesV w v b) (hb : b.length ≤ 100000000) :
    Calls Tryz.prog 26 #[v] w (UnpG b w) := by
  obtain ⟨j0, hi0, hz0, hz1, hz2⟩ := info_parts Tryz.infoAE
  have UP := Lib.hid (unpack_any b v w hv hb)
  obtain ⟨Ab, cb, rfl, _⟩ := hv.form
  have HBL := Lib.hid hb
  obtain ⟨bl, hbl⟩ : ∃ n, b.length = n := ⟨_, rfl⟩
  rw [hbl] at UP ⊢
  clear hv hb hbl
  go_enter Tryz.func26, Tryz.ntmps26
  go_wp2_with fail
  refine UP.out.mono ?_; rintro e w1 ⟨hu1, hu2, hb1⟩
  have HB1 := Lib.hid hb1
  clear hb1
  cases hup : up b with
  | some c =>
    obtain ⟨u, rfl, hf⟩ := hu1 c hup
    have HN : Hid (bytesG b = none) := Lib.hid (by unfold bytesG; rw [hup])
    have hfo := hf
    obtain ⟨fb, rfl, _⟩ := hfo
    have HF := Lib.hid hf
    clear hu1 hu2 hup hf
    go_wp2_with fail
    go_ret2
    obtain ⟨a, hfa⟩ := FaultAt.ofO HF.out
    exact ⟨HB1.out, Or.inl ⟨HN.out, c, a, _, rfl, hfa⟩⟩
  | none =>
    obtain ⟨u, rfl, ho⟩ := hu2 hup
    obtain ⟨Au, cu, rfl⟩ := own_form ho
    obtain ⟨l, hl⟩ : ∃ l, (b.take (b.length - 4)).drop 9 = l := ⟨_, rfl⟩
    rw [hl] at ho
    have hll : l.length ≤ 100000000 := by rw [← hl, List.length_drop, List.length_take]; have := HBL.out; omega
    have HG : Hid (bytesG b = if b.getD 4 0 = 1 then bodyG l else none) := Lib.hid (by unfold bytesG; rw [hup, hl])
    have HV := Lib.hid (own_bytesV ho)
    obtain ⟨ul, hul⟩ : ∃ n, b.length - 13 = n := ⟨_, rfl⟩
    rw [hul] at HV ⊢
    obtain ⟨kd, hkd⟩ : ∃ k : Nat, (b.getD 4 0).toNat = k := ⟨_, rfl⟩
    rw [hkd]
    have HKD := Lib.hid hkd
    clear hu1 hu2 hup ho hl hul hkd
    by_cases hk : kd = 1
    case neg =>
      have t1 : ((kd : Int) != 1) = true := by simpa using (show ¬ (kd : Int) = 1 by omega)
      have HN : Hid (bytesG b = none) := Lib.hid (by
        rw [HG.out, if_neg]
        intro h
        have h2 := HKD.out
        rw [h] at h2
        exact hk h2.symm)
      clear hk
      go_wp2_with fail
      refine (new_any _ _ _ _).mono ?_; rintro e w2 ⟨rfl, rfl⟩
      go_wp2_with fail
      go_ret2
      exact ⟨HB1.out.alloc HB1.out.size _, Or.inl ⟨HN.out, _, _, _, rfl, _, _, rfl, Whole.new _ _ _, by decide⟩⟩
    case pos =>
      subst hk
      have HG1 : Hid (bytesG b = bodyG l) := Lib.hid (by
        rw [HG.out, if_pos]
        have h2 := HKD.out
        exact UInt8.toNat_inj.1 h2)
      have RN := Lib.hid (reader_new l _ w1 HV.out (by omega))
      have HLL := Lib.hid hll
      clear hll
      go_wp2_with fail
      refine RN.out.mono ?_; rintro e w2 ⟨g, rfl, hg1, hr, hb2⟩
      have HB2 := Lib.hid (HB1.out.trans (hb2.mono HB1.out.size))
      have HGG := Lib.hid (Nat.le_trans HB1.out.size hg1)
      have L1 := Lib.hid (list_lr g 0 4096 none l w2 ⟨.nilIface, hr, rfl⟩ (by decide) (by have := HLL.out; omega))
      clear hg1 hr hb2
      go_wp2_with fail
      refine L1.out.mono ?_; rintro e w3 ⟨A1, n1, c1, p1, E1, rfl, h1⟩
      have HB3 := Lib.hid (below_grown_g HB2.out h1.2.2.1 HGG.out HB2.out.size)
      have L2 := Lib.hid (list_lr g p1 32768 E1 l w3 h1.1 (by decide) (by have := HLL.out; omega))
      have H1 := Lib.hid h1
      clear h1
      go_wp2_with fail
      refine L2.out.mono ?_; rintro e w4 ⟨A2, n2, c2, p2, E2, rfl, h2⟩
      have HB4 := Lib.hid (below_grown_g HB3.out h2.2.2.1 HGG.out HB3.out.size)
      have EN := Lib.hid (rend_any g p2 E2 l w4 h2.1 (by have := HLL.out; omega))
      have H2 := Lib.hid h2
      clear h2
      go_wp2_with fail
      refine EN.out.mono ?_; rintro e w5 ⟨u, rfl, hu, hb5⟩
      have HB5 := Lib.hid (HB4.out.trans (hb5.mono HB4.out.size))
      have HX5 := Lib.hid hb5
      cases hen : endE E2 p2 l.length with
      | some x =>
        obtain ⟨c, p⟩ := x
        rw [hen] at hu
        have hf := FaultAt.ofR hu
        have HN : Hid (bytesG b = none) := Lib.hid (by rw [HG1.out]; exact body_bad H1.out H2.out (by rw [hen]; simp))
        obtain ⟨fb, rfl⟩ := hf.form
        have HF := Lib.hid hf
        clear hu hf hen hb5
        go_wp2_with fail
        go_ret2
        exact ⟨HB5.out, Or.inl ⟨HN.out, _, _, _, rfl, HF.out⟩⟩
      | none =>
        rw [hen] at hu
        obtain rfl : u = .nilIface := hu
        obtain ⟨L, X, e1, e2, hn1, hn2, hLs, hXs, hs1, hs2, hbod⟩ := body_good H1.out H2.out hen
        have HS1 := Lib.hid (hs1.below hb5 (Nat.le_refl _)); have HS2 := Lib.hid (hs2.below hb5 (Nat.le_refl _))
        have HBD : Hid (bytesG b = if X.length % 2 = 0 ∧ newFault L (pairsL X) = none then some ⟨L, pairsL X⟩ else none) := Lib.hid (by rw [HG1.out, hbod])
        have HE1 := Lib.hid e1; have HE2 := Lib.hid e2; have HLS := Lib.hid hLs; have HXS := Lib.hid hXs; have HN1 := Lib.hid hn1
        have tm := tmod_two n2
        have td := tdiv_two n2
        clear hen hb5 e1 e2 hLs hXs hs1 hs2 hbod hn1
        by_cases hodd : n2 % 2 = 0
        case neg =>
          have z1 : n2 % 2 = 1 := by omega
          rw [z1] at tm
          have tm' : Int.tmod (n2 : Int) 2 = 1 := tm
          have HN : Hid (bytesG b = none) := Lib.hid (by rw [HBD.out, if_neg]; rw [← HE2.out]; exact fun h => hodd h.1)
          clear tm td hodd z1
          go_wp2_with fail
          refine (new_any _ _ _ _).mono ?_; rintro e w6 ⟨rfl, rfl⟩
          go_wp2_with fail
          go_ret2
          exact ⟨HB5.out.alloc HB5.out.size _, Or.inl ⟨HN.out, _, _, _, rfl, _, _, rfl, Whole.new _ _ _, by decide⟩⟩
        case pos =>
          rw [hodd] at tm
          have tm' : Int.tmod (n2 : Int) 2 = 0 := tm
          obtain ⟨m, hm⟩ : ∃ m, n2 / 2 = m := ⟨_, rfl⟩
          rw [hm] at td
          have hm2 : n2 = 2 * m := by omega
          have hm3 : m ≤ 16384 := by omega
          have mkE : ∀ V : World, (Instr.makeSlice 72 (.int .i64 (m : Nat)) (.int .i64 (m : Nat))).run Tryz.prog V = .ok (.slice (some ⟨V.heap.size, 0, none⟩) m m) (V.alloc (.cells (madeCells #[.int .i64 0, .int .i64 0] (m * 2)) 64)) := by
            intro V
            have h := run_make (P := Tryz.prog) V 72 64 j0 (.agg #[.int .i64 0, .int .i64 0]) Tryz.underlying72 hi0 hz0 .i64 .i64 (m : Int) (m : Int) (by omega) (by omega) (by rw [hz2]; omega) (by omega)
            rw [h, hz1, Int.toNat_natCast]
            rfl
          have HD : Hid (n2 % 2 = 0) := Lib.hid hodd
          clear tm hodd hm
          go_wp2_with fail
          subst hm2
          have hPL : (pairsL X).length = m := by rw [pairsL_len, ← HE2.out]; omega
          have HPL := Lib.hid hPL
          have hz : madeCells #[.int .i64 0, .int .i64 0] (m * 2) = ecells (filledP (pairsL X) 0) := by rw [filledP_zero, hPL, zero_ecells]
          have h0 := Whole.new w5 64 (madeCells #[.int .i64 0, .int .i64 0] (m * 2))
          rw [hz] at h0
          have hb0 := HB5.out.alloc HB5.out.size (.cells (madeCells #[.int .i64 0, .int .i64 0] (m * 2)) 64)
          rw [hz] at hb0
          rw [hz]
          obtain ⟨w6, hw6⟩ : ∃ W, w5.alloc (.cells (ecells (filledP (pairsL X) 0)) 64) = W := ⟨_, rfl⟩
          obtain ⟨eb, heb⟩ : ∃ g, w5.heap.size = g := ⟨_, rfl⟩
          have hebw : w.heap.size ≤ eb := by rw [← heb]; exact HB5.out.size
          have HB5W : Hid (∀ W, Below eb w6 W → Below w5.heap.size w5 W) := Lib.hid (fun W hW => ((Below.refl w5.heap.size w5).alloc (Nat.le_refl _) _).trans (by rw [hw6, heb]; exact hW))
          have hs2b : 0 < m → ∃ b2 off, A2 = some ⟨b2, off, none⟩ ∧ b2 < eb ∧ ∀ W, Below eb w6 W → ∀ i, i < 2 * m → W.cell? ⟨b2, off + i, none⟩ = some (.int .i64 (X.getD i 0)) := fun hm0 => by
            obtain ⟨b2, off, e, hc⟩ := SeqV.all HS2.out (by rw [← HE2.out]; omega)
            have hl : b2 < w5.heap.size := World.block_lt_of_cell? _ _ (hc 0 (by rw [← HE2.out]; omega))
            refine ⟨b2, off, e, by rw [← heb]; exact hl, fun W hW i hi => ?_⟩
            have h5 : Below w5.heap.size w5 W := ((Below.refl w5.heap.size w5).alloc (Nat.le_refl _) _).trans (by rw [hw6, heb]; exact hW)
            exact (h5.cell (p := ⟨b2, off + i, none⟩) hl).trans (hc i (by rw [← HE2.out]; exact hi))
          rw [hw6] at h0 hb0 ⊢
          rw [heb] at h0 ⊢
          have H0 := Lib.hid h0; have HB0 := Lib.hid hb0; have HBB := Lib.hid hs2b; have HEW := Lib.hid hebw
          have h6s : w6.heap.size = eb + 1 := by rw [← hw6, ← heb]; simp
          have H6S := Lib.hid h6s
          clear h0 hb0 hw6 heb hs2b hPL mkE hebw h6s hz
          go_loopg [47] m (fun g y wr => ∃ k, k ≤ m ∧ g = m - k ∧ y = .int .i64 (k : Nat) ∧ Whole wr eb 64 (ecells (filledP (pairsL X) k)) ∧ Below eb w6 wr)
          case atStart => exact ⟨0, Nat.zero_le _, rfl, rfl, H0.out, Below.refl _ _⟩
          case round =>
            obtain ⟨k, hk, rfl, rfl, hW, hB⟩ := hrel
            have HW := Lib.hid hW; have HB := Lib.hid hB
            by_cases hlt : k < m
            · obtain ⟨b2, off, rfl, hbe, hcl⟩ := HBB.out (by omega)
              obtain ⟨x, hx⟩ : ∃ x, X.getD (2 * k) 0 = x := ⟨_, rfl⟩
              obtain ⟨y, hy⟩ : ∃ y, X.getD (2 * k + 1) 0 = y := ⟨_, rfl⟩
              have c0 : wr.cell? ⟨b2, off + 2 * k, none⟩ = some (.int .i64 x) := by rw [hcl wr hB (2 * k) (by omega), hx]
              have c1 : wr.cell? ⟨b2, off + (2 * k + 1), none⟩ = some (.int .i64 y) := by rw [hcl wr hB (2 * k + 1) (by omega), hy]
              obtain ⟨p, hp⟩ : ∃ p, 2 * k = p := ⟨_, rfl⟩
              obtain ⟨q, hq⟩ : ∃ q, 2 * k + 1 = q := ⟨_, rfl⟩
              rw [hq] at c1
              rw [hp] at c0
              have sw0 : IntKind.i64.wrap (2 * (k : Int)) = (p : Int) := by rw [IntKind.wrap_i64] <;> omega
              have sw1 : IntKind.i64.wrap ((p : Int) + 1) = (q : Int) := by rw [IntKind.wrap_i64] <;> omega
              have hfl := ecells_at (S := filledP (pairsL X) k) (i := k) (by rw [filledP_len (by rw [HPL.out]; exact hk), HPL.out]; exact hlt)
              have y0 := (hW.cell (k * 2)).trans hfl.1
              have y1 := (hW.cell (k * 2 + 1)).trans hfl.2
              have f0 := hW.free (k * 2)
              have f1 := hW.free (k * 2 + 1)
              have HX := Lib.hid hx; have HY := Lib.hid hy; have HLT := Lib.hid hlt
              have t7 : decide (k < m) = true := decide_eq_true hlt
              have i1 : (k : Int) < m := by omega
              have i2 : (0 : Int) ≤ k := by omega
              have i3 : (p : Int) < 2 * (m : Int) := by omega
              have i4 : (q : Int) < 2 * (m : Int) := by omega
              have i5 : (0 : Int) ≤ p := by omega
              have i6 : (0 : Int) ≤ q := by omega
              have hne : b2 ≠ eb := by omega
              clear hx hy hlt hcl hW hB hp hq hfl
              go_wp2_with fail
              have HRW : Hid (Whole (((wr.setCell ⟨eb, k * 2, none⟩ (.int .i64 x)).setCell ⟨eb, k * 2 + 1, none⟩ (.int .i64 y)).drewN 1) eb 64 (ecells (filledP (pairsL X) (k + 1))) ∧ Below eb w6 (((wr.setCell ⟨eb, k * 2, none⟩ (.int .i64 x)).setCell ⟨eb, k * 2 + 1, none⟩ (.int .i64 y)).drewN 1)) := Lib.hid (by
                have h5 := (HW.out.put (k * 2) (.int .i64 x)).put (k * 2 + 1) (.int .i64 y)
                have hkl : k < (pairsL X).length := by rw [HPL.out]; exact HLT.out
                have hset := ecells_set (filledP (pairsL X) k) k (x, y) (by rw [filledP_len (Nat.le_of_lt hkl)]; exact hkl)
                have hxy : (x, y) = (pairsL X)[k] := by
                  have h := pairsL_at (X := X) (i := k) (by rw [← pairsL_len]; exact hkl)
                  rw [HX.out, HY.out] at h
                  rw [← h]
                  simp [List.getD, hkl]
                rw [hxy, filledP_set hkl, ← hxy] at hset
                simp only at hset
                rw [hset] at h5
                exact ⟨h5.drewN 1, below_drewN' ((HB.out.setCell (p := ⟨eb, k * 2, none⟩) (Nat.le_refl _) _).setCell (p := ⟨eb, k * 2 + 1, none⟩) (Nat.le_refl _) _) 1⟩)
              go_region
              all_goals
                go_wp2_with fail
                go_roundg (m - (k + 1))
                case rel => exact ⟨k + 1, HLT.out, rfl, rfl, HRW.out.1, HRW.out.2⟩
                case measure => have := HLT.out; omega
            · have t7 : decide (k < m) = false := decide_eq_false hlt
              have t7' : decide ((k : Int) < m) = false := decide_eq_false (by omega)
              obtain rfl : k = m := by omega
              have hWA : Whole wr eb 64 (ecells (pairsL X)) := by
                have h := hW
                rw [← HPL.out, filledP_all] at h
                exact h
              have hB6 : Below w.heap.size w wr := HB0.out.trans (hB.mono HEW.out)
              have hB6' : Below w5.heap.size w5 wr := HB5W.out wr hB
              have NW := Lib.hid (graph_new L (pairsL X) (.slice A1 n1 c1) _ wr (HS1.out.below hB6' (Nat.le_refl _)) (whole_edges hWA k k HPL.out.symm) (pairsL_small HXS.out) (by have := HN1.out; have := HE1.out; omega) (by rw [HPL.out]; omega))
              have HB6 := Lib.hid hB6
              clear hlt hk hW hB hWA hB6 hB6'
              go_wp2_with fail
              refine NW.out.mono ?_; rintro e w7 ⟨hb7, ⟨hnf, gg, rfl, hgo⟩ | ⟨c, p, u, hnf, rfl, hfa⟩⟩
              · have HB7 := Lib.hid (HB6.out.trans (hb7.mono HB6.out.size)); have HNF := Lib.hid hnf; have HGO := Lib.hid (hgo.base HB6.out.size)
                clear hb7 hnf hgo
                go_wp2_with fail
                go_ret2
                refine ⟨HB7.out, Or.inr ⟨⟨L, pairsL X⟩, gg, ?_, rfl, HGO.out⟩⟩
                rw [HBD.out, if_pos ⟨by rw [← HE2.out]; exact HD.out, HNF.out⟩]
              · have HB7 := Lib.hid (HB6.out.trans (hb7.mono HB6.out.size)); have HNF := Lib.hid hnf; have HFA := Lib.hid hfa
                obtain ⟨ub, rfl⟩ := hfa.form
                clear hb7 hnf hfa
                go_wp2_with fail
                go_ret2
                refine ⟨HB7.out, Or.inl ⟨?_, _, _, _, rfl, HFA.out⟩⟩
                rw [HBD.out, if_neg]
                rintro ⟨_, h⟩
                rw [HNF.out] at h
                cases h
end

section
open Go.RowKit

/-- What Bytes tells. -/
def BytesTo (b : List UInt8) (w : World) (e : Ending) (w' : World) : Prop :=
  Below w.heap.size w w' ∧ ((bytesG b = none ∧ ∃ u, e = .returned (.tuple #[.pointer none, u]) ∧ FaultAt 11 0 w' u) ∨ (∃ d g, bytesG b = some d ∧ e = .returned (.tuple #[.pointer (some ⟨g, 0, none⟩), .nilIface]) ∧ GraphOwn w' w.heap.size g d.l (sortE d.e)))
set_option maxRecDepth 100000 in
set_option maxHeartbeats 4000000 in
theorem bytes_any (b : List UInt8) (v : Value) (w : World) (hg : ErrT w) (hv : BytesV w v b) (hb : b.length ≤ 100000000) :
    Calls Tryz.prog 8 #[v] w (BytesTo b w) := by
  have UP := Lib.hid (unpackG_any b v w hv hb)
  obtain ⟨Ab, cb, rfl, _⟩ := hv.form
  have HG := Lib.hid hg
  obtain ⟨bl, hbl⟩ : ∃ n, b.length = n := ⟨_, rfl⟩
  rw [hbl] at UP ⊢
  clear hv hb hbl hg
  go_enter Tryz.func8, Tryz.ntmps8
  go_wp2_with fail
  refine UP.out.mono ?_; rintro e w1 ⟨hb1, ⟨hn, c, p, u, rfl, hf⟩ | ⟨d, g, hn, rfl, hgo⟩⟩
  · have HB1 := Lib.hid hb1; have HN := Lib.hid hn
    have FT := Lib.hid (faultText_any hf (HG.out.below hb1 (Nat.le_refl _)))
    obtain ⟨fb, rfl⟩ := hf.form
    clear hb1 hn hf
    go_wp2_with fail
    refine FT.out.mono ?_; rintro e w3 ⟨⟨fs, rfl, hfs⟩, hb3⟩
    have HB3 := Lib.hid (HB1.out.trans (hb3.mono HB1.out.size)); have HFS := Lib.hid hfs
    clear hb3 hfs
    go_wp2_with fail
    refine (new_any _ _ _ _).mono ?_; rintro e w4 ⟨rfl, rfl⟩
    go_wp2_with fail
    go_ret2
    exact ⟨HB3.out.alloc HB3.out.size _, Or.inl ⟨HN.out, _, rfl, _, _, rfl, Whole.new _ _ _, HFS.out⟩⟩
  · have HB1 := Lib.hid hb1; have HN := Lib.hid hn; have HGO := Lib.hid hgo
    clear hb1 hn hgo
    go_wp2_with fail
    go_ret2
    exact ⟨HB1.out, Or.inr ⟨d, g, HN.out, rfl, HGO.out⟩⟩
set_option maxRecDepth 100000 in
theorem convert_bytesV {w : World} {A : Option Addr} {n c : Nat} {l : List UInt8} (h : BytesV w (.slice A n c) l) : (convert 22 9 (.slice A n c)).run Tryz.prog w = .ok (.string (str l)) w := by
  obtain ⟨A', c', e, _, hr⟩ := h
  injection e with e1 e2 e3
  subst e1 e2 e3
  rcases Nat.eq_zero_or_pos l.length with h0 | h0
  · obtain rfl := List.eq_nil_of_length_eq_zero h0
    cases A with
    | none => exact run_convert_bytes_nil w 22 5 Tryz.underlying22 Tryz.underlying5 0 c 9 Tryz.underlying9
    | some a => exact run_convert_bytes_back (P := Tryz.prog) w 22 9 5 a c [] Tryz.underlying22 Tryz.underlying5 Tryz.underlying9 (fun j hj => absurd hj (Nat.not_lt_zero j))
  · obtain ⟨b, off, rfl, hc⟩ := hr h0
    exact run_convert_bytes_back (P := Tryz.prog) w 22 9 5 ⟨b, off, none⟩ c l Tryz.underlying22 Tryz.underlying5 Tryz.underlying9 (fun j hj => by
      have e2 : (⟨b, off, none⟩ : Addr).add j = ⟨b, off + j, none⟩ := by unfold Addr.add; split <;> simp_all
      rw [e2, hc j hj]
      simp [List.getD, hj])
def markB : List UInt8 := [70, 87, 82, 75]
theorem bytesOf_nums (l : List UInt8) : Lib.bytesOf (l.map fun x => (x.toNat : Int)) = l := by
  unfold Lib.bytesOf
  rw [List.map_map]
  conv => rhs; rw [← List.map_id l]
  refine List.map_congr_left fun x _ => ?_
  simp
theorem prefix_any (b : List UInt8) (A : Option Addr) (n c : Nat) (w : World) (hv : BytesV w (.slice A n c) b) (g : Nat) (hw : ∀ i, w.cell? ⟨g, i, none⟩ = (#[.int .u8 70, .int .u8 87, .int .u8 82, .int .u8 75] : Array Value)[i]?) :
    Calls Tryz.prog 29 #[.slice A n c, .slice (some ⟨g, 0, none⟩) 4 4] w fun e w' => e = .returned (.bool (markB.isPrefixOf b)) ∧ w' = w := by
  obtain ⟨A', c', e, hc, hr⟩ := hv
  injection e with e1 e2 e3
  subst e1 e2 e3
  refine (Tryz.bytes_HasPrefix_all A (some ⟨g, 0, none⟩) b.length c 4 4 (b.map fun x => (x.toNat : Int)) [70, 87, 82, 75] w (by simp) rfl hc (fun h0 => ?_) (fun _ => ⟨g, 0, rfl, fun i hi => ?_⟩)).mono ?_
  · obtain ⟨b', off, rfl, hcell⟩ := hr h0
    refine ⟨b', off, rfl, fun i hi => ?_⟩
    rw [hcell i hi]
    simp [List.getD, hi]
  · rw [Nat.zero_add, hw]
    match i, hi with
    | 0, _ => rfl
    | 1, _ => rfl
    | 2, _ => rfl
    | 3, _ => rfl
  · rintro e w' ⟨rfl, rfl⟩
    refine ⟨?_, rfl⟩
    rw [bytesOf_nums]
    rfl
set_option maxRecDepth 100000 in
set_option maxHeartbeats 4000000 in
theorem any_any (b : List UInt8) (v : Value) (w : World) (hg : GT w) (hv : BytesV w v b) (hb : b.length ≤ 262144) :
    Calls Tryz.prog 9 #[v] w (fun e w' => if markB.isPrefixOf b = true then BytesTo b w e w' else LoadTo b w e w') := by
  have hbw := (Below.refl w.heap.size w).alloc (Nat.le_refl _) (.cells #[.int .u8 70, .int .u8 87, .int .u8 82, .int .u8 75] 5 (4, 5))
  obtain ⟨Ab, cb, rfl, _⟩ := hv.form
  have PX := Lib.hid (prefix_any b Ab b.length cb (w.alloc (.cells #[.int .u8 70, .int .u8 87, .int .u8 82, .int .u8 75] 5 (4, 5))) (hv.below hbw (Nat.le_refl _)) w.heap.size (fun i => World.cell?_alloc_mark w _ _ _ i))
  have BY := Lib.hid (bytes_any b (.slice Ab b.length cb) (w.alloc (.cells #[.int .u8 70, .int .u8 87, .int .u8 82, .int .u8 75] 5 (4, 5))) (hg.et.below hbw (Nat.le_refl _)) (hv.below hbw (Nat.le_refl _)) (by omega))
  have TX := Lib.hid (load_any b hb (w.alloc (.cells #[.int .u8 70, .int .u8 87, .int .u8 82, .int .u8 75] 5 (4, 5))) (hg.below hbw (Nat.le_refl _)))
  have CV := convert_bytesV (hv.below hbw (Nat.le_refl _))
  have HBW := Lib.hid hbw
  have kc := fun (w : World) (C : Array Value) (n c : Nat) => Lib.run_convert_bytes_const (P := Tryz.prog) w 22 5 C n c Tryz.underlying22 Tryz.underlying5
  obtain ⟨n, hn⟩ : ∃ n, b.length = n := ⟨_, rfl⟩
  rw [hn] at PX BY CV ⊢
  obtain ⟨s, hs⟩ : ∃ s, str b = s := ⟨_, rfl⟩
  rw [hs] at CV TX
  obtain ⟨z, hz⟩ : ∃ z, markB.isPrefixOf b = z := ⟨_, rfl⟩
  rw [hz] at PX ⊢
  clear hg hv hb hbw hn hs hz
  cases z with
  | true =>
    go_enter Tryz.func9, Tryz.ntmps9
    go_wp2_with fail
    refine PX.out.mono ?_; rintro e w1 ⟨rfl, rfl⟩
    go_wp2_with fail
    refine BY.out.mono ?_; rintro e w2 ⟨hb2, ⟨hn, u, rfl, hf⟩ | ⟨d, g, hn, rfl, hgo⟩⟩
    · have HR : Hid (BytesTo b w (.returned (.tuple #[.pointer none, u])) w2) := Lib.hid ⟨HBW.out.trans (hb2.mono HBW.out.size), Or.inl ⟨hn, u, rfl, hf⟩⟩
      obtain ⟨fb, rfl⟩ := hf.form
      clear hb2 hn hf
      go_wp2_with fail
      go_ret2
      exact HR.out
    · have HR : Hid (BytesTo b w (.returned (.tuple #[.pointer (some ⟨g, 0, none⟩), .nilIface])) w2) := Lib.hid ⟨HBW.out.trans (hb2.mono HBW.out.size), Or.inr ⟨d, g, hn, rfl, hgo.base HBW.out.size⟩⟩
      clear hb2 hn hgo
      go_wp2_with fail
      go_ret2
      exact HR.out
  | false =>
    go_enter Tryz.func9, Tryz.ntmps9
    go_wp2_with fail
    refine PX.out.mono ?_; rintro e w1 ⟨rfl, rfl⟩
    go_wp2_with fail
    refine TX.out.mono ?_; rintro e w2 ⟨hb2, ⟨p, u, hn, rfl, hf⟩ | ⟨d, g, hn, hnf, rfl, hgo⟩⟩
    · have HR : Hid (LoadTo b w (.returned (.tuple #[.pointer none, u])) w2) := Lib.hid ⟨HBW.out.trans (hb2.mono HBW.out.size), Or.inl ⟨p, u, hn, rfl, hf⟩⟩
      obtain ⟨fb, rfl⟩ := hf.form
      clear hb2 hn hf
      go_wp2_with fail
      go_ret2
      exact HR.out
    · have HR : Hid (LoadTo b w (.returned (.tuple #[.pointer (some ⟨g, 0, none⟩), .nilIface])) w2) := Lib.hid ⟨HBW.out.trans (hb2.mono HBW.out.size), Or.inr ⟨d, g, hn, hnf, rfl, hgo.base HBW.out.size⟩⟩
      clear hb2 hn hgo hnf
      go_wp2_with fail
      go_ret2
      exact HR.out
end
end Go.Proofs.YtnjkjgmnnmgngaaGreatDoor
