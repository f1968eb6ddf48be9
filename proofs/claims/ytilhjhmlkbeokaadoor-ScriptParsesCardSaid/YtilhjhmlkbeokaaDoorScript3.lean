/- script: the acts of a text. -/
import Derived.Test.YtilhjhmlkbeokaaDoorScript2
namespace Go.Proofs.YtilhjhmlkbeokaaDoor
open Go.RowKit

theorem Tryd.infoAct : (Tryd.prog.info? 36).map (fun i => (i.zero, i.size, i.bytes)) = some (some (.agg #[.int .i64 0, .int .i64 0]), 2, 16) := by kernel_rfl
theorem textB_len (A : List (Int × Int)) : A.length ≤ (textB A).length := by
  induction A with
  | nil => exact Nat.le_refl _
  | cons a t ih =>
    rw [textB_cons, List.length_append, List.length_cons, List.length_cons]
    omega
/-- What Parse tells of a text. -/
def ParseTo (l : List UInt8) (w : World) (e : Ending) (w' : World) : Prop :=
  Below w.heap.size w w' ∧ ∃ A r, Parses l A r ∧ ((r = [] ∧ ∃ v, e = .returned (.tuple #[v, .nilIface]) ∧ w'.ownsRow w.heap.size 36 2 v A.length (eL A)) ∨ (r ≠ [] ∧ ∃ u, e = .returned (.tuple #[.slice none 0 0, u]) ∧ FaultAt 14 A.length w' u))
set_option maxRecDepth 100000 in
set_option maxHeartbeats 4000000 in
theorem textParse_any (l : List UInt8) (hl : l.length ≤ 200000) (w : World) (hg : GT w) :
    Calls Tryd.prog 8 #[.string (str l)] w (ParseTo l w) := by
  obtain ⟨j0, hj0, hz0, hz1, hz2⟩ := info_parts Tryd.infoAct
  have HG := Lib.hid hg
  obtain ⟨n, hn⟩ : ∃ n, l.length = n := ⟨_, rfl⟩
  have hsz : (str l).size = n := hn
  have HN := Lib.hid hn
  rw [hn] at hl
  obtain ⟨s, hs⟩ : ∃ s, str l = s := ⟨_, rfl⟩
  rw [hs] at hsz ⊢
  have HS := Lib.hid hs
  clear hg hn hs
  have t1 : decide ((262144 : Int) < (s.size : Int)) = false := decide_eq_false (by omega)
  have t1' : decide (262144 < s.size) = false := decide_eq_false (by omega)
  clear hsz
  go_enter Tryd.func8, Tryd.ntmps8
  go_wp2_with fail
  go_loopg [0, 4] n (fun g sv lv wr => ∃ (A : List (Int × Int)) (r : List UInt8), l = textB A ++ r ∧ (∀ a ∈ A, goodA a = true) ∧ r.length = g ∧ sv = .string (str r) ∧ wr.ownsRow w.heap.size 36 2 lv A.length (eL A) ∧ Below w.heap.size w wr)
  case atStart => exact ⟨[], l, rfl, fun a h => (by cases h), HN.out, by rw [HS.out], World.ownsRow_nil _ _ _ 2, Below.refl _ _⟩
  case round =>
    obtain ⟨A, r, hlr, hA, hrg, rfl, hown, hB⟩ := hrel
    obtain ⟨ao, co, rfl⟩ := own_form hown
    obtain ⟨k, hk⟩ : ∃ k, A.length = k := ⟨_, rfl⟩
    have hkn : k ≤ n := by
      have h1 := textB_len A
      have h2 := congrArg List.length hlr
      rw [HN.out, List.length_append] at h2
      omega
    have hrn : r.length ≤ n := by
      have h2 := congrArg List.length hlr
      rw [HN.out, List.length_append] at h2
      omega
    rw [hk] at hown ⊢
    have HLR := Lib.hid hlr; have HA := Lib.hid hA; have HRG := Lib.hid hrg; have HOWN := Lib.hid hown; have HB := Lib.hid hB; have HK := Lib.hid hk; have HRN := Lib.hid hrn
    have hbs := hB.size
    clear hlr hA hown hB hk hrn
    obtain ⟨rs, hrs⟩ : ∃ s, str r = s := ⟨_, rfl⟩
    rw [hrs]
    have HRS := Lib.hid hrs
    by_cases hr : r = []
    · have te : (rs.toList == []) = true := by rw [← hrs, str_toList, hr]; rfl
      have HR := Lib.hid hr
      clear hrs hr hrg
      go_wp2_with fail
      go_ret2
      exact ⟨HB.out, A, r, ⟨HLR.out, HA.out, by rw [HR.out]; exact noLine_nil⟩, Or.inl ⟨HR.out, _, rfl, by rw [HK.out]; exact HOWN.out⟩⟩
    · have te : (rs.toList == []) = false := by rw [← hrs, str_toList, beq_eq_false_iff_ne]; exact hr
      have HR := Lib.hid hr
      have HCUT := Lib.hid (cut_at r 10 wr (HG.out.below HB.out (Nat.le_refl _)) (by have := HRN.out; omega))
      rw [HRS.out] at HCUT
      obtain ⟨p, q, z, hc, hcase⟩ : ∃ p q z, Lib.cut r [10] = (p, q, z) ∧ ((z = true ∧ (10 : UInt8) ∉ p ∧ r = p ++ 10 :: q) ∨ (z = false ∧ (10 : UInt8) ∉ r ∧ p = r ∧ q = [])) := by
        rcases cut_cases r 10 with h | ⟨p, q, e, h⟩
        · exact ⟨r, [], false, cut_no h, Or.inr ⟨rfl, h, rfl, rfl⟩⟩
        · refine ⟨p, q, true, ?_, Or.inl ⟨rfl, h, e⟩⟩
          rw [e]
          exact cut_yes h
      rw [hc] at HCUT
      simp only at HCUT
      have hp : p.length ≤ 1000000 := by
        have h1 := HRN.out
        rcases hcase with ⟨_, _, e⟩ | ⟨_, _, e, _⟩
        · rw [e] at h1; simp at h1; omega
        · rw [e]; omega
      have HP := Lib.hid hp; have HCASE := Lib.hid hcase
      have HPARSE := Lib.hid (fun (W : World) (h : Below wr.heap.size wr W) => parse_any p hp W (HG.out.below (HB.out.trans (h.mono HB.out.size)) (Nat.le_refl _)))
      clear hp hcase hc hrs hr hrg
      obtain ⟨ps, hps⟩ : ∃ s, str p = s := ⟨_, rfl⟩
      obtain ⟨qs, hqs⟩ : ∃ s, str q = s := ⟨_, rfl⟩
      rw [hps, hqs] at HCUT
      rw [hps] at HPARSE
      have HQS := Lib.hid hqs
      clear hps hqs
      go_wp2_with fail
      refine HCUT.out.mono ?_; rintro e w2 ⟨rfl, hb2⟩
      have HPW := HPARSE.out w2 hb2
      have HPW := Lib.hid HPW
      have HB2 := Lib.hid (HB.out.trans (hb2.mono HB.out.size)); have HO2 := Lib.hid (own_below HOWN.out hb2 (Nat.le_refl _))
      clear hb2
      go_wp2_with fail
      refine HPW.out.mono ?_; rintro e w3 ⟨hb3, x, y, ok, rfl, hok⟩
      have hb3' := HB2.out.trans (hb3.mono HB2.out.size)
      have HB3 := Lib.hid hb3'; have HO3 := Lib.hid (own_below HO2.out hb3 (Nat.le_refl _)); have HOK := Lib.hid hok
      have hs3 := hb3'.size
      have hb4 := hb3'.alloc hs3 (.cells #[.int .i64 x, .int .i64 y] 36)
      have HB4 := Lib.hid hb4
      have HIT := Lib.hid (itoa_at k (by omega) _ (HG.out.below hb4 (Nat.le_refl _)))
      clear hb3 hok hb3'
      by_cases hgo : z = true ∧ ok = true
      · obtain ⟨rfl, rfl⟩ := hgo
        have hn2 := edges_new (w3.alloc (.cells #[.int .i64 x, .int .i64 y] 36)) 36 x y 1
        have ho5 := (HO3.out.alloc (.cells #[.int .i64 x, .int .i64 y] 36)).alloc (.cells #[.int .i64 x, .int .i64 y] 36)
        have hb5 := hb4.alloc hb4.size (.cells #[.int .i64 x, .int .i64 y] 36)
        rw [World.size_alloc] at hn2
        have hs5 := hb5.size
        have HN2 := Lib.hid hn2; have HO5 := Lib.hid ho5; have HB5 := Lib.hid hb5
        clear hn2 ho5 hb5 hb4
        go_wp2_with (at_builtin; refine wpList_appEdges _ rfl _ _ 23 36 rfl w.heap.size j0 (.agg #[.int .i64 0, .int .i64 0]) Tryd.underlying23 hj0 hz0 rfl hz1 hz2 _ k _ rfl HO5.out _ [(x, y)] rfl HN2.out (by simp; omega) hs5 ?_)
        intro A3 c3 w7 hown3 hgrow3
        have HB7 := Lib.hid (hgrow3.below HO5.out HB5.out (Nat.le_refl _) hs5)
        have HO7 := Lib.hid hown3
        clear hown3 hgrow3
        go_wp2_with fail
        rcases HCASE.out with ⟨_, hp10, er⟩ | ⟨h, _⟩
        case inr => cases h
        rcases HOK.out with ⟨_, hga, hla⟩ | ⟨h, _⟩
        case inr => cases h
        go_roundg q.length
        case rel =>
          refine ⟨A ++ [(x, y)], q, ?_, fun a ha => ?_, rfl, by rw [HQS.out], ?_, HB7.out⟩
          · rw [textB_app, textB_one, List.append_assoc, hla, HLR.out, er]
            simp
          · rw [List.mem_append, List.mem_singleton] at ha
            rcases ha with ha | rfl
            · exact HA.out a ha
            · exact hga
          · rw [List.length_append, eL_app, HK.out]
            exact HO7.out
        case measure => rw [← HRG.out, er]; simp; omega
      · have HNG : Hid (NoLine r) := by
          refine Lib.hid ?_
          rcases HCASE.out with ⟨rfl, hp10, er⟩ | ⟨_, hr10, _⟩
          · rcases HOK.out with ⟨h, _⟩ | ⟨_, hno⟩
            · exact absurd ⟨rfl, h⟩ hgo
            · rw [er]; exact noLine_cut hp10 hno
          · exact noLine_no hr10
        have hcs : z = false ∨ (z = true ∧ ok = false) := by
          cases z
          · exact Or.inl rfl
          · cases ok
            · exact Or.inr ⟨rfl, rfl⟩
            · exact absurd ⟨rfl, rfl⟩ hgo
        clear hgo hb4
        obtain ⟨dk, hdk⟩ : ∃ d, str (Lib.decDigits k) = d := ⟨_, rfl⟩
        have hds : dk.size ≤ 6 := by rw [← hdk, str_size]; exact (dec_len_iff k 6 (by decide)).2 (by omega)
        rw [hdk] at HIT
        clear hdk
        rcases hcs with rfl | ⟨rfl, rfl⟩
        · go_wp2_with fail
          refine HIT.out.mono ?_; rintro e w6 ⟨rfl, hb6⟩
          have HB6 := Lib.hid (HB4.out.trans (hb6.mono HB4.out.size))
          have HNEW := Lib.hid (fun s => new_any 14 (k : Int) s w6)
          clear hb6
          go_wp2_with fail
          refine (HNEW.out _).mono ?_; rintro e w7 ⟨rfl, hw7⟩
          have HB7 : Hid (Below w.heap.size w w7) := by rw [← hw7]; exact Lib.hid (HB6.out.alloc HB6.out.size _)
          have HF7 : Hid (FaultAt 14 k w7 (.iface 53 (.pointer (some ⟨w6.heap.size, 0, none⟩)))) := by rw [← hw7]; exact Lib.hid ⟨_, _, rfl, Whole.new w6 _ _⟩
          clear hw7
          go_wp2_with fail
          go_ret2
          exact ⟨HB7.out, A, r, ⟨HLR.out, HA.out, HNG.out⟩, Or.inr ⟨HR.out, _, rfl, by rw [HK.out]; exact HF7.out⟩⟩
        · go_wp2_with fail
          refine HIT.out.mono ?_; rintro e w6 ⟨rfl, hb6⟩
          have HB6 := Lib.hid (HB4.out.trans (hb6.mono HB4.out.size))
          have HNEW := Lib.hid (fun s => new_any 14 (k : Int) s w6)
          clear hb6
          go_wp2_with fail
          refine (HNEW.out _).mono ?_; rintro e w7 ⟨rfl, hw7⟩
          have HB7 : Hid (Below w.heap.size w w7) := by rw [← hw7]; exact Lib.hid (HB6.out.alloc HB6.out.size _)
          have HF7 : Hid (FaultAt 14 k w7 (.iface 53 (.pointer (some ⟨w6.heap.size, 0, none⟩)))) := by rw [← hw7]; exact Lib.hid ⟨_, _, rfl, Whole.new w6 _ _⟩
          clear hw7
          go_wp2_with fail
          go_ret2
          exact ⟨HB7.out, A, r, ⟨HLR.out, HA.out, HNG.out⟩, Or.inr ⟨HR.out, _, rfl, by rw [HK.out]; exact HF7.out⟩⟩
end Go.Proofs.YtilhjhmlkbeokaaDoor
