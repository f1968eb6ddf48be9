/- The document's Parse. -/
import Derived.Test.YtilhjhmlkbeokaaDoorRefParseP
import Derived.Deep.DeepCutAuto
import Derived.Deep.CutBlock
namespace Go.Proofs.YtilhjhmlkbeokaaDoor
open Go.RowKit

theorem Tryd.infoRAct : (Tryd.prog.info? 35).map (fun i => (i.zero, i.size, i.bytes)) = some (some (.agg #[.int .i64 0, .int .i64 0]), 2, 16) := by kernel_rfl
theorem str_at (l : List UInt8) (q : Nat) (h : q < (str l).size) (c : UInt8) (hc : l[q]? = some c) : (str l)[q]'h = c := by
  have h2 : q < l.length := h
  rw [List.getElem?_eq_getElem h2] at hc
  exact Option.some.inj hc
theorem str_cut (a p q : List UInt8) (b : UInt8) : (str (a ++ (p ++ b :: q))).extract a.length (a.length + p.length + 1) = str (p ++ [b]) := by
  apply ByteArray.ext
  rw [ByteArray.data_extract]
  show (a ++ (p ++ b :: q)).toArray.extract a.length (a.length + p.length + 1) = (p ++ [b]).toArray
  rw [List.extract_toArray]
  congr 1
  rw [List.extract_eq_take_drop, List.drop_left, show a.length + p.length + 1 - a.length = p.length + 1 by omega, List.take_append, List.take_of_length_le (by omega)]
  simp
/-- The six kinds gone through so far. -/
def HitSt (base : Nat) (A : List (Int × Int)) (p : List UInt8) (nn kk : Nat) (lv hv : Value) (wx : World) : Prop :=
  (hv = .bool false ∧ wx.ownsRow base 35 2 lv A.length (eL A) ∧ ∀ k : Nat, k < kk → lineB ((k : Int), if k < 4 then (nn : Int) else 0) ≠ p) ∨ (hv = .bool true ∧ ∃ a, goodA a = true ∧ lineB a = p ∧ wx.ownsRow base 35 2 lv (A ++ [a]).length (eL (A ++ [a])))
/-- What the loop over digits leaves. -/
def DigCut (p : List UInt8) (w : World) (v : Value) (wx : World) : Prop := ∃ i, Stops p i ∧ v = .int .i64 (valR (p.reverse.take i) : Nat) ∧ wx = w
/-- What the document's Parse tells. -/
def RefTo (l : List UInt8) (w : World) (e : Ending) (w' : World) : Prop :=
  Below w.heap.size w w' ∧ ∃ A r, Parses l A r ∧ ((r = [] ∧ ∃ v, e = .returned (.tuple #[v, .int .i64 (-1)]) ∧ w'.ownsRow w.heap.size 35 2 v A.length (eL A)) ∨ (r ≠ [] ∧ e = .returned (.tuple #[.slice none 0 0, .int .i64 (A.length : Nat)])))
set_option maxRecDepth 100000 in
set_option maxHeartbeats 8000000 in
theorem refParse_any (l : List UInt8) (hl : l.length ≤ 200000) (w : World) :
    Calls Tryd.prog 9 #[.string (str l)] w (RefTo l w) := by
  obtain ⟨j0, hj0, hz0, hz1, hz2⟩ := info_parts Tryd.infoRAct
  obtain ⟨n, hn⟩ : ∃ n, l.length = n := ⟨_, rfl⟩
  have hsz : (str l).size = n := hn
  have HN := Lib.hid hn
  rw [hn] at hl
  obtain ⟨s, hs⟩ : ∃ s, str l = s := ⟨_, rfl⟩
  rw [hs] at hsz ⊢
  have HS := Lib.hid hs
  clear hn hs
  go_enter Tryd.func9, Tryd.ntmps9
  go_wp2_with fail
  go_loopg [4, 5] n (fun g lv av wr => ∃ (A : List (Int × Int)) (r : List UInt8), l = textB A ++ r ∧ (∀ a ∈ A, goodA a = true) ∧ r.length = g ∧ av = .int .i64 ((textB A).length : Nat) ∧ wr.ownsRow w.heap.size 35 2 lv A.length (eL A) ∧ Below w.heap.size w wr)
  case atStart => exact ⟨[], l, rfl, fun a h => (by cases h), HN.out, rfl, World.ownsRow_nil _ _ _ 2, Below.refl _ _⟩
  case round =>
    obtain ⟨A, r, hlr, hA, hrg, rfl, hown, hB⟩ := hrel
    obtain ⟨ao, co, rfl⟩ := own_form hown
    obtain ⟨k, hk⟩ : ∃ k, A.length = k := ⟨_, rfl⟩
    obtain ⟨at', hat⟩ : ∃ q, (textB A).length = q := ⟨_, rfl⟩
    have hrn : at' + r.length = n := by
      have h2 := congrArg List.length hlr
      rw [HN.out, List.length_append, hat] at h2
      omega
    have hkn : k ≤ at' := by rw [← hk, ← hat]; exact textB_len A
    have hdrop : l.drop at' = r := by rw [hlr, ← hat, List.drop_left]
    rw [hk] at hown ⊢
    rw [hat]
    obtain ⟨rl, hrl⟩ : ∃ q, r.length = q := ⟨_, rfl⟩
    rw [hrl] at hrn hrg
    have HLR := Lib.hid hlr; have HA := Lib.hid hA; have HRG := Lib.hid hrg; have HOWN := Lib.hid hown; have HB := Lib.hid hB; have HK := Lib.hid hk; have HAT := Lib.hid hat; have HRL := Lib.hid hrl; have HDROP := Lib.hid hdrop
    have hbs := hB.size
    clear hlr hA hown hB hk hat hrg hrl hdrop
    by_cases hr : rl = 0
    · subst hr
      have hr0 : r = [] := List.eq_nil_of_length_eq_zero HRL.out
      have HR := Lib.hid hr0
      have t1 : decide ((at' : Int) < s.size) = false := decide_eq_false (by omega)
      have t1' : decide (at' < s.size) = false := decide_eq_false (by omega)
      clear hr0
      go_wp2_with fail
      go_ret2
      exact ⟨HB.out, A, r, ⟨HLR.out, HA.out, by rw [HR.out]; exact noLine_nil⟩, Or.inl ⟨HR.out, _, rfl, by rw [HK.out]; exact HOWN.out⟩⟩
    · have t1 : decide ((at' : Int) < s.size) = true := decide_eq_true (by omega)
      have t1n : decide (at' < n) = true := decide_eq_true (by omega)
      have t1' : decide (at' < s.size) = true := decide_eq_true (by omega)
      go_wp2_with fail
      go_loopg [6] rl (fun g ev wr' => ∃ j : Nat, j ≤ rl ∧ g = rl - j ∧ ev = .int .i64 ((at' + j : Nat)) ∧ (10 : UInt8) ∉ r.take j ∧ wr' = wr)
      case atStart => exact ⟨0, Nat.zero_le _, rfl, rfl, by simp, rfl⟩
      case round =>
        obtain ⟨j, hj, rfl, rfl, h10, rfl⟩ := hrel
        obtain ⟨q, hq⟩ : ∃ q, at' + j = q := ⟨_, rfl⟩
        have hqn : q ≤ n := by omega
        rw [hq]
        have H10 := Lib.hid h10
        clear h10
        by_cases hjr : j < rl
        · have hjl : q < l.length := by rw [HN.out]; omega
          obtain ⟨c, hc⟩ : ∃ c, l[q]? = some c := ⟨_, List.getElem?_eq_getElem hjl⟩
          have hcr : r[j]? = some c := by rw [← HDROP.out, List.getElem?_drop, hq]; exact hc
          have hqs : q < s.size := by omega
          have hsc : s[q]'hqs = c := by
            have := str_at l q (by rw [HS.out]; exact hqs) c hc
            simpa only [HS.out] using this
          have t2 : decide ((q : Int) < s.size) = true := decide_eq_true (by omega)
          have t2n : decide (q < n) = true := decide_eq_true (by omega)
          have t2' : decide (q < s.size) = true := decide_eq_true (by omega)
          have i0 : (0 : Int) ≤ q := by omega
          by_cases hce : c = 10
          · subst hce
            have t4 : (((s[q]'hqs).toNat : Int) != 10) = false := by rw [hsc]; rfl
            have t5 : ((q : Int) == (s.size : Int)) = false := by simp; omega
            have t5' : (q == s.size) = false := by simp; omega
            have t5n : ((q : Int) == (n : Int)) = false := by simp; omega
            have t6 : decide ((q : Int) = (s.size : Int)) = false := decide_eq_false (by omega)
            obtain ⟨p, hp⟩ : ∃ p, r.take j = p := ⟨_, rfl⟩
            obtain ⟨qq, hqq⟩ : ∃ p, r.drop (j + 1) = p := ⟨_, rfl⟩
            have hrp : r = p ++ 10 :: qq := by
              have hjr' : j < r.length := by rw [HRL.out]; exact hjr
              rw [List.getElem?_eq_getElem hjr'] at hcr
              have h1 := List.take_append_drop j r
              rw [List.drop_eq_getElem_cons hjr', Option.some.inj hcr, hp, hqq] at h1
              exact h1.symm
            have hpl : p.length = j := by rw [← hp, List.length_take, HRL.out]; omega
            have hline : s.extract at' (q + 1) = str (p ++ [10]) := by
              have h1 := str_cut (textB A) p qq 10
              rw [HAT.out, hpl, hq, ← hrp, ← HLR.out, HS.out] at h1
              exact h1
            have H10' := H10.out
            rw [hp] at H10'
            obtain ⟨ln, hln⟩ : ∃ x, str (p ++ [10]) = x := ⟨_, rfl⟩
            rw [hln] at hline
            have hlz : ln.size = j + 1 := by rw [← hln, str_size, List.length_append, hpl]; rfl
            have HLN := Lib.hid hln; have HRP := Lib.hid hrp; have HPL := Lib.hid hpl; have HP10 := Lib.hid H10'; have HQ := Lib.hid hq
            have k1 : at' ≤ q + 1 := by omega
            have k2 : q + 1 ≤ n := by omega
            have k3 : (at' : Int) ≤ q + 1 := by omega
            have k4 : (q : Int) + 1 ≤ n := by omega
            clear hjl hc hcr hsc hp hqq hrp hpl H10' hln hq
            go_upto_block 4 with fail
            go_cut [9] (fun nv wx => DigCut p wr nv wx)
            case first =>
              go_wp2_with fail
              go_loopg [9, 10, 11] j (fun g nv kv uv wx => ∃ i kk, i + kk = j ∧ i ≤ 6 ∧ kk = g ∧ kv = .int .i64 (kk : Nat) ∧ nv = .int .i64 (valR (p.reverse.take i) : Nat) ∧ uv = .int .i64 ((10 ^ i : Nat) : Int) ∧ (∀ c ∈ p.reverse.take i, isDig c = true) ∧ wx = wr)
              case atStart => exact ⟨0, j, by omega, by omega, rfl, rfl, rfl, rfl, by simp, rfl⟩
              case round =>
                obtain ⟨i, kk, hik, hi6, rfl, rfl, rfl, rfl, hdig, rfl⟩ := hrel
                have hvl := valR_lt _ hdig
                rw [List.length_take, List.length_reverse, HPL.out, Nat.min_eq_left (by omega)] at hvl
                have h10i : 10 ^ i ≤ 10 ^ 6 := Nat.pow_le_pow_right (by decide) hi6
                obtain ⟨nv, hnv⟩ : ∃ x, valR (p.reverse.take i) = x := ⟨_, rfl⟩
                obtain ⟨uv, huv⟩ : ∃ x, 10 ^ i = x := ⟨_, rfl⟩
                rw [hnv, huv] at hvl ⊢
                rw [huv] at h10i
                have hnb : nv ≤ 1000000 := by omega
                have hub : uv ≤ 1000000 := by omega
                have HNV := Lib.hid hnv; have HUV := Lib.hid huv; have HDIG := Lib.hid hdig; have HIK := Lib.hid hik
                clear hnv huv hdig hvl h10i
                rcases Nat.eq_zero_or_pos kk with hk0 | hkp
                · subst hk0
                  have hST : Stops p i := ⟨hi6, by rw [HPL.out]; omega, HDIG.out, Or.inl (by rw [HPL.out]; have := HIK.out; omega)⟩
                  have HST := Lib.hid hST
                  clear hST hik
                  go_wp2_with fail
                  go_meet
                  exact ⟨i, HST.out, by rw [HNV.out], rfl⟩
                · obtain ⟨k1, rfl⟩ : ∃ k1, kk = k1 + 1 := ⟨kk - 1, by omega⟩
                  have hk1p : k1 < p.length := by rw [HPL.out]; omega
                  have hk1s : k1 < ln.size := by omega
                  obtain ⟨c, hc⟩ : ∃ c, p[k1]? = some c := ⟨_, List.getElem?_eq_getElem hk1p⟩
                  have hlc : ln[k1]'hk1s = c := by
                    have h1 := str_at (p ++ [10]) k1 (by rw [HLN.out]; exact hk1s) c (by rw [List.getElem?_append_left hk1p]; exact hc)
                    simpa only [HLN.out] using h1
                  have hrev : p.reverse[i]? = some c := by rw [rev_at (by rw [HPL.out]; omega), HPL.out, show j - 1 - i = k1 by omega]; exact hc
                  have i3 : (0 : Int) ≤ k1 := by omega
                  have i4 : (k1 : Int) < j + 1 := by omega
                  have hcs : c.toNat < 48 ∨ (48 ≤ c.toNat ∧ 57 < c.toNat) ∨ (48 ≤ c.toNat ∧ c.toNat ≤ 57) := by omega
                  have hc255 : c.toNat < 256 := c.toNat_lt
                  have HC := Lib.hid hc; have HREV := Lib.hid hrev
                  clear hc hrev hk1p
                  rcases hcs with hc1 | ⟨hc1, hc2⟩ | ⟨hc1, hc2⟩
                  · have d1 : decide ((48 : Int) ≤ ((ln[k1]'hk1s).toNat : Int)) = false := by rw [hlc]; exact decide_eq_false (by omega)
                    have d1' : decide (48 ≤ (ln[k1]'hk1s).toNat) = false := by rw [hlc]; exact decide_eq_false (by omega)
                    have hST : Stops p i := ⟨hi6, by rw [HPL.out]; omega, HDIG.out, Or.inr (Or.inr ⟨c, HREV.out, by unfold isDig; rw [decide_eq_false (by omega)]; rfl⟩)⟩
                    have HST := Lib.hid hST
                    clear hST hlc hik
                    go_wp2_with fail
                    go_meet
                    exact ⟨i, HST.out, by rw [HNV.out], rfl⟩
                  · have d1 : decide ((48 : Int) ≤ ((ln[k1]'hk1s).toNat : Int)) = true := by rw [hlc]; exact decide_eq_true (by omega)
                    have d1' : decide (48 ≤ (ln[k1]'hk1s).toNat) = true := by rw [hlc]; exact decide_eq_true (by omega)
                    have d2 : decide (((ln[k1]'hk1s).toNat : Int) ≤ 57) = false := by rw [hlc]; exact decide_eq_false (by omega)
                    have d2' : decide ((ln[k1]'hk1s).toNat ≤ 57) = false := by rw [hlc]; exact decide_eq_false (by omega)
                    have hST : Stops p i := ⟨hi6, by rw [HPL.out]; omega, HDIG.out, Or.inr (Or.inr ⟨c, HREV.out, by unfold isDig; rw [decide_eq_false (show ¬ c.toNat ≤ 57 by omega), Bool.and_false]⟩)⟩
                    have HST := Lib.hid hST
                    clear hST hlc hik
                    go_wp2_with fail
                    go_meet
                    exact ⟨i, HST.out, by rw [HNV.out], rfl⟩
                  · have d1 : decide ((48 : Int) ≤ ((ln[k1]'hk1s).toNat : Int)) = true := by rw [hlc]; exact decide_eq_true (by omega)
                    have d1' : decide (48 ≤ (ln[k1]'hk1s).toNat) = true := by rw [hlc]; exact decide_eq_true (by omega)
                    have d2 : decide (((ln[k1]'hk1s).toNat : Int) ≤ 57) = true := by rw [hlc]; exact decide_eq_true (by omega)
                    have d2' : decide ((ln[k1]'hk1s).toNat ≤ 57) = true := by rw [hlc]; exact decide_eq_true (by omega)
                    have e1 : (j : Int) - ((k1 : Int) + 1) = (i : Int) := by omega
                    rcases Nat.lt_or_ge i 6 with h6 | h6
                    · have d3 : decide ((i : Int) < 6) = true := decide_eq_true (by omega)
                      have d3' : decide (i < 6) = true := decide_eq_true h6
                      obtain ⟨dv, hdv⟩ : ∃ x, c.toNat - 48 = x := ⟨_, rfl⟩
                      obtain ⟨pr, hpr⟩ : ∃ x, uv * dv = x := ⟨_, rfl⟩
                      have hprb : pr ≤ 9000000 := by
                        have h9 : dv ≤ 9 := by omega
                        have := Nat.mul_le_mul hub h9
                        omega
                      have e3 : (c.toNat : Int) - 48 = (dv : Int) := by omega
                      have e4 : (uv : Int) * (dv : Int) = (pr : Int) := by rw [← hpr]; simp
                      have hnx : valR (p.reverse.take (i + 1)) = nv + pr := by
                        have hc' : p[p.length - 1 - i]? = some c := by rw [HPL.out, show j - 1 - i = k1 by omega]; exact HC.out
                        rw [take_dig (by rw [HPL.out]; omega) hc', valR_snoc, HNV.out, List.length_take, List.length_reverse, HPL.out, Nat.min_eq_left (by omega), HUV.out, hdv, hpr]
                      have hdx : ∀ x ∈ p.reverse.take (i + 1), isDig x = true := by
                        have hc' : p[p.length - 1 - i]? = some c := by rw [HPL.out, show j - 1 - i = k1 by omega]; exact HC.out
                        intro x hx
                        rw [take_dig (by rw [HPL.out]; omega) hc', List.mem_append, List.mem_singleton] at hx
                        rcases hx with hx | rfl
                        · exact HDIG.out x hx
                        · unfold isDig; rw [decide_eq_true hc1, decide_eq_true hc2]; rfl
                      have HNX := Lib.hid hnx; have HDX := Lib.hid hdx; have H6 := Lib.hid h6
                      clear hnx hdx hdv hpr hik h6
                      go_wp2_with fail
                      go_roundg k1
                      case rel => exact ⟨i + 1, k1, by have := HIK.out; omega, by have := H6.out; omega, rfl, rfl, by rw [HNX.out]; rfl, by rw [Nat.pow_succ, HUV.out]; rfl, HDX.out, rfl⟩
                      case measure => omega
                    · obtain rfl : i = 6 := by omega
                      have hST : Stops p 6 := ⟨Nat.le_refl _, by rw [HPL.out]; omega, HDIG.out, Or.inr (Or.inl rfl)⟩
                      have HST := Lib.hid hST
                      clear hST hlc hik
                      go_wp2_with fail
                      go_meet
                      exact ⟨6, HST.out, by rw [HNV.out], rfl⟩
            case rest =>
              obtain ⟨i, hST, rfl, rfl⟩ := hcut
              have hgood := fun k (hk : k < 6) => good_of hST hk
              have hnone := none_of hST
              obtain ⟨nn, hnn⟩ : ∃ x, valR (p.reverse.take i) = x := ⟨_, rfl⟩
              rw [hnn] at hgood hnone ⊢
              have hnb : nn ≤ 999999 := by
                have := hgood 0 (by decide)
                rw [good_iff] at this
                simp only [if_pos (show (0 : Nat) < 4 by decide)] at this
                omega
              have HGOOD := Lib.hid hgood; have HNONE := Lib.hid hnone
              clear hST hgood hnone hnn
              go_wp2_with fail
              go_loopg [4, 8, 12] 6 (fun g lv hv kv wx => ∃ kk : Nat, kk ≤ 6 ∧ g = 6 - kk ∧ kv = .int .i64 (kk : Nat) ∧ Below w.heap.size w wx ∧ HitSt w.heap.size A p nn kk lv hv wx)
              case atStart => exact ⟨0, by omega, rfl, rfl, HB.out, Or.inl ⟨rfl, by rw [HK.out]; exact HOWN.out, fun k hk => by omega⟩⟩
              case round =>
                obtain ⟨kk, hk6, rfl, rfl, hBx, hst⟩ := hrel
                have HBX := Lib.hid hBx
                rcases hst with ⟨rfl, hox, hnox⟩ | ⟨rfl, a, hga, hla, hox⟩
                · obtain ⟨ax, cx, rfl⟩ := own_form hox
                  rw [HK.out] at hox ⊢
                  have HOX := Lib.hid hox; have HNOX := Lib.hid hnox
                  clear hBx hox hnox
                  by_cases hlt : kk < 6
                  · have t7 : decide ((kk : Int) < 6) = true := decide_eq_true (by omega)
                    have t7' : decide (kk < 6) = true := decide_eq_true hlt
                    by_cases h4 : kk < 4
                    · have t8 : decide ((kk : Int) < 4) = true := decide_eq_true (by omega)
                      have t8' : decide (kk < 4) = true := decide_eq_true h4
                      have HY4 : (if kk < 4 then (nn : Int) else 0) = (nn : Int) := if_pos h4
                      have hbw := Below.alloc (HBX.out) HBX.out.size (.cells #[.int .i64 (kk : Nat), .int .i64 (nn : Int)] 35)
                      have hww := Whole.new wr 35 #[.int .i64 (kk : Nat), .int .i64 (nn : Int)]
                      have how := HOX.out.alloc (.cells #[.int .i64 (kk : Nat), .int .i64 (nn : Int)] 35)
                      have HBW := Lib.hid hbw; have HWW := Lib.hid hww; have HOW := Lib.hid how
                      have hyy : (if kk < 4 then (nn : Int) else 0) = (nn : Int) := HY4
                      have hgk := HGOOD.out kk hlt
                      rw [hyy] at hgk
                      have HLB := line_any (kk : Int) (nn : Int) (Or.inl hgk) (wr.alloc (.cells #[.int .i64 (kk : Nat), .int .i64 (nn : Int)] 35))
                      obtain ⟨lb, hlb⟩ : ∃ x, str (lineB ((kk : Int), (nn : Int)) ++ [10]) = x := ⟨_, rfl⟩
                      rw [hlb] at HLB
                      have HLB := Lib.hid HLB; have HGK := Lib.hid hgk; have HYV := Lib.hid hyy
                      clear hbw hww how hyy hgk
                      by_cases heq : lineB ((kk : Int), (nn : Int)) = p
                      · have t9 : (lb.toList == ln.toList) = true := by rw [← hlb, ← HLN.out, heq]; simp
                        have HEQ := Lib.hid heq
                        clear hlb heq
                        go_wp2_with fail
                        refine HLB.out.mono ?_
                        rintro e w3 ⟨rfl, hb3⟩
                        have hw3 := HWW.out.below hb3 (by rw [World.size_alloc]; omega)
                        have hb3' := HBW.out.trans (hb3.mono HBW.out.size)
                        have c0 : w3.cell? ⟨wr.heap.size, 0, none⟩ = some (.int .i64 (kk : Nat)) := hw3.cell 0
                        have c1 : w3.cell? ⟨wr.heap.size, 1, none⟩ = some (.int .i64 (nn : Int)) := hw3.cell 1
                        have ho5 := (own_below HOW.out hb3 (Nat.le_refl _)).alloc (.cells #[.int .i64 (kk : Nat), .int .i64 (nn : Int)] 35)
                        have hn5 := edges_new w3 35 (kk : Int) (nn : Int) 1
                        have hb5 := hb3'.alloc hb3'.size (.cells #[.int .i64 (kk : Nat), .int .i64 (nn : Int)] 35)
                        have hs5 := hb5.size
                        have HO5 := Lib.hid ho5; have HN5 := Lib.hid hn5; have HB5 := Lib.hid hb5
                        clear hw3 hb3 hb3' ho5 hn5 hb5
                        go_wp2_with (at_builtin; refine wpList_appEdges _ rfl _ _ 28 35 rfl w.heap.size j0 (.agg #[.int .i64 0, .int .i64 0]) Tryd.underlying28 hj0 hz0 rfl hz1 hz2 _ k _ rfl HO5.out _ [((kk : Int), (nn : Int))] rfl HN5.out (by simp; omega) hs5 ?_)
                        intro A3 c3 w7 hown3 hgrow3
                        have HB7 := Lib.hid (hgrow3.below HO5.out HB5.out (Nat.le_refl _) hs5)
                        have HO7 := Lib.hid hown3
                        clear hown3 hgrow3
                        go_wp2_with fail
                        go_roundg (6 - (kk + 1))
                        case rel => exact ⟨kk + 1, by omega, rfl, by go_num, HB7.out, Or.inr ⟨rfl, _, HGK.out, HEQ.out, by rw [List.length_append, eL_app, HK.out]; exact HO7.out⟩⟩
                        case measure => omega
                      · have t9 : (lb.toList == ln.toList) = false := by
                          rw [← hlb, ← HLN.out, str_toList, str_toList, beq_eq_false_iff_ne]
                          exact fun e => heq (List.append_cancel_right e)
                        have HEQ := Lib.hid heq
                        clear hlb heq
                        go_wp2_with fail
                        refine HLB.out.mono ?_
                        rintro e w3 ⟨rfl, hb3⟩
                        have HB3 := Lib.hid (HBW.out.trans (hb3.mono HBW.out.size)); have HO3 := Lib.hid (own_below HOW.out hb3 (Nat.le_refl _))
                        clear hb3
                        go_wp2_with fail
                        go_roundg (6 - (kk + 1))
                        case rel =>
                          refine ⟨kk + 1, by omega, rfl, by go_num, HB3.out, Or.inl ⟨rfl, by rw [HK.out]; exact HO3.out, fun k2 hk2 => ?_⟩⟩
                          rcases Nat.lt_or_ge k2 kk with h | h
                          · exact HNOX.out k2 h
                          · obtain rfl : k2 = kk := by omega
                            rw [HYV.out]
                            exact HEQ.out
                        case measure => omega
                    · have t8 : decide ((kk : Int) < 4) = false := decide_eq_false (by omega)
                      have t8' : decide (kk < 4) = false := decide_eq_false h4
                      have HY4 : (if kk < 4 then (nn : Int) else 0) = 0 := if_neg h4
                      have hbw := Below.alloc (HBX.out) HBX.out.size (.cells #[.int .i64 (kk : Nat), .int .i64 0] 35)
                      have hww := Whole.new wr 35 #[.int .i64 (kk : Nat), .int .i64 0]
                      have how := HOX.out.alloc (.cells #[.int .i64 (kk : Nat), .int .i64 0] 35)
                      have HBW := Lib.hid hbw; have HWW := Lib.hid hww; have HOW := Lib.hid how
                      have hyy : (if kk < 4 then (nn : Int) else 0) = (0 : Int) := HY4
                      have hgk := HGOOD.out kk hlt
                      rw [hyy] at hgk
                      have HLB := line_any (kk : Int) (0 : Int) (Or.inl hgk) (wr.alloc (.cells #[.int .i64 (kk : Nat), .int .i64 0] 35))
                      obtain ⟨lb, hlb⟩ : ∃ x, str (lineB ((kk : Int), (0 : Int)) ++ [10]) = x := ⟨_, rfl⟩
                      rw [hlb] at HLB
                      have HLB := Lib.hid HLB; have HGK := Lib.hid hgk; have HYV := Lib.hid hyy
                      clear hbw hww how hyy hgk
                      by_cases heq : lineB ((kk : Int), (0 : Int)) = p
                      · have t9 : (lb.toList == ln.toList) = true := by rw [← hlb, ← HLN.out, heq]; simp
                        have HEQ := Lib.hid heq
                        clear hlb heq
                        go_wp2_with fail
                        refine HLB.out.mono ?_
                        rintro e w3 ⟨rfl, hb3⟩
                        have hw3 := HWW.out.below hb3 (by rw [World.size_alloc]; omega)
                        have hb3' := HBW.out.trans (hb3.mono HBW.out.size)
                        have c0 : w3.cell? ⟨wr.heap.size, 0, none⟩ = some (.int .i64 (kk : Nat)) := hw3.cell 0
                        have c1 : w3.cell? ⟨wr.heap.size, 1, none⟩ = some (.int .i64 0) := hw3.cell 1
                        have ho5 := (own_below HOW.out hb3 (Nat.le_refl _)).alloc (.cells #[.int .i64 (kk : Nat), .int .i64 0] 35)
                        have hn5 := edges_new w3 35 (kk : Int) (0 : Int) 1
                        have hb5 := hb3'.alloc hb3'.size (.cells #[.int .i64 (kk : Nat), .int .i64 0] 35)
                        have hs5 := hb5.size
                        have HO5 := Lib.hid ho5; have HN5 := Lib.hid hn5; have HB5 := Lib.hid hb5
                        clear hw3 hb3 hb3' ho5 hn5 hb5
                        go_wp2_with (at_builtin; refine wpList_appEdges _ rfl _ _ 28 35 rfl w.heap.size j0 (.agg #[.int .i64 0, .int .i64 0]) Tryd.underlying28 hj0 hz0 rfl hz1 hz2 _ k _ rfl HO5.out _ [((kk : Int), (0 : Int))] rfl HN5.out (by simp; omega) hs5 ?_)
                        intro A3 c3 w7 hown3 hgrow3
                        have HB7 := Lib.hid (hgrow3.below HO5.out HB5.out (Nat.le_refl _) hs5)
                        have HO7 := Lib.hid hown3
                        clear hown3 hgrow3
                        go_wp2_with fail
                        go_roundg (6 - (kk + 1))
                        case rel => exact ⟨kk + 1, by omega, rfl, by go_num, HB7.out, Or.inr ⟨rfl, _, HGK.out, HEQ.out, by rw [List.length_append, eL_app, HK.out]; exact HO7.out⟩⟩
                        case measure => omega
                      · have t9 : (lb.toList == ln.toList) = false := by
                          rw [← hlb, ← HLN.out, str_toList, str_toList, beq_eq_false_iff_ne]
                          exact fun e => heq (List.append_cancel_right e)
                        have HEQ := Lib.hid heq
                        clear hlb heq
                        go_wp2_with fail
                        refine HLB.out.mono ?_
                        rintro e w3 ⟨rfl, hb3⟩
                        have HB3 := Lib.hid (HBW.out.trans (hb3.mono HBW.out.size)); have HO3 := Lib.hid (own_below HOW.out hb3 (Nat.le_refl _))
                        clear hb3
                        go_wp2_with fail
                        go_roundg (6 - (kk + 1))
                        case rel =>
                          refine ⟨kk + 1, by omega, rfl, by go_num, HB3.out, Or.inl ⟨rfl, by rw [HK.out]; exact HO3.out, fun k2 hk2 => ?_⟩⟩
                          rcases Nat.lt_or_ge k2 kk with h | h
                          · exact HNOX.out k2 h
                          · obtain rfl : k2 = kk := by omega
                            rw [HYV.out]
                            exact HEQ.out
                        case measure => omega
                  · obtain rfl : kk = 6 := by omega
                    have hno : NoLine r := by rw [HRP.out]; exact noLine_cut HP10.out (HNONE.out HNOX.out)
                    have hr0 : r ≠ [] := by rw [HRP.out]; simp
                    have HNO := Lib.hid hno; have HR0 := Lib.hid hr0
                    clear hno hr0 hlt
                    go_wp2_with fail
                    go_ret2
                    exact ⟨HBX.out, A, r, ⟨HLR.out, HA.out, HNO.out⟩, Or.inr ⟨HR0.out, by rw [HK.out]; rfl⟩⟩
                · obtain ⟨ax, cx, rfl⟩ := own_form hox
                  have HOX := Lib.hid hox; have HGA := Lib.hid hga; have HLA := Lib.hid hla
                  obtain ⟨lx, hlx⟩ : ∃ x, (A ++ [a]).length = x := ⟨_, rfl⟩
                  rw [hlx] at HOX ⊢
                  have HLX := Lib.hid hlx
                  clear hBx hox hga hla hlx
                  by_cases hlt : kk < 6
                  · have t7 : decide ((kk : Int) < 6) = true := decide_eq_true (by omega)
                    have t7' : decide (kk < 6) = true := decide_eq_true hlt
                    by_cases h4 : kk < 4
                    · have t8 : decide ((kk : Int) < 4) = true := decide_eq_true (by omega)
                      have t8' : decide (kk < 4) = true := decide_eq_true h4
                      have HBW := Lib.hid (Below.alloc (HBX.out) HBX.out.size (.cells #[.int .i64 (kk : Nat), .int .i64 (nn : Int)] 35)); have HOW := Lib.hid (HOX.out.alloc (.cells #[.int .i64 (kk : Nat), .int .i64 (nn : Int)] 35))
                      go_wp2_with fail
                      go_roundg (6 - (kk + 1))
                      case rel => exact ⟨kk + 1, by omega, rfl, by go_num, HBW.out, Or.inr ⟨rfl, a, HGA.out, HLA.out, by rw [HLX.out]; exact HOW.out⟩⟩
                      case measure => omega
                    · have t8 : decide ((kk : Int) < 4) = false := decide_eq_false (by omega)
                      have t8' : decide (kk < 4) = false := decide_eq_false h4
                      have HBW := Lib.hid (Below.alloc (HBX.out) HBX.out.size (.cells #[.int .i64 (kk : Nat), .int .i64 0] 35)); have HOW := Lib.hid (HOX.out.alloc (.cells #[.int .i64 (kk : Nat), .int .i64 0] 35))
                      go_wp2_with fail
                      go_roundg (6 - (kk + 1))
                      case rel => exact ⟨kk + 1, by omega, rfl, by go_num, HBW.out, Or.inr ⟨rfl, a, HGA.out, HLA.out, by rw [HLX.out]; exact HOW.out⟩⟩
                      case measure => omega
                  · obtain rfl : kk = 6 := by omega
                    clear hlt
                    go_wp2_with fail
                    go_roundg qq.length
                    case rel =>
                      refine ⟨A ++ [a], qq, ?_, fun x hx => ?_, rfl, ?_, by rw [HLX.out]; exact HOX.out, HBX.out⟩
                      · rw [textB_app, textB_one, List.append_assoc, HLA.out, HLR.out, HRP.out]
                        simp
                      · rw [List.mem_append, List.mem_singleton] at hx
                        rcases hx with hx | rfl
                        · exact HA.out x hx
                        · exact HGA.out
                      · rw [textB_app, textB_one, HLA.out, List.length_append, List.length_append, HAT.out, HPL.out]
                        have := HQ.out
                        go_num
                    case measure =>
                      have h1 := congrArg List.length HRP.out
                      rw [HRL.out, List.length_append, List.length_cons, HPL.out] at h1
                      rw [← HRG.out]
                      omega
          · have t4 : (((s[q]'hqs).toNat : Int) != 10) = true := by
              rw [hsc]
              have : c.toNat ≠ 10 := fun e => hce (UInt8.toNat_inj.1 e)
              simp; omega
            have H11 : Hid ((10 : UInt8) ∉ r.take (j + 1)) := by
              refine Lib.hid ?_
              rw [List.take_succ_eq_append_getElem (by rw [HRL.out]; exact hjr), List.mem_append, List.mem_singleton]
              rintro (h | h)
              · exact H10.out h
              · rw [List.getElem?_eq_getElem (by rw [HRL.out]; exact hjr)] at hcr
                exact hce (by rw [h]; exact (Option.some.inj hcr).symm)
            have HQ := Lib.hid hq
            clear hjl hc hcr hsc hq hce
            go_wp2_with fail
            go_roundg (rl - (j + 1))
            case rel => exact ⟨j + 1, by omega, rfl, by have := HQ.out; go_num, H11.out, rfl⟩
            case measure => omega
        · obtain rfl : j = rl := by omega
          obtain rfl : q = n := by omega
          have t2 : decide ((q : Int) < s.size) = false := decide_eq_false (by omega)
          have t2' : decide (q < s.size) = false := decide_eq_false (by omega)
          have t6 : decide ((q : Int) = (s.size : Int)) = true := decide_eq_true (by omega)
          have t5 : ((q : Int) == (s.size : Int)) = true := by simp; omega
          have hr0 : r ≠ [] := by
            intro e
            have := HRL.out
            rw [e] at this
            exact hr this.symm
          have HR0 := Lib.hid hr0
          clear hjr hq hr0
          go_wp2_with fail
          go_ret2
          refine ⟨HB.out, A, r, ⟨HLR.out, HA.out, noLine_no ?_⟩, Or.inr ⟨HR0.out, by rw [HK.out]; rfl⟩⟩
          have h := H10.out
          rw [List.take_of_length_le (by rw [HRL.out]; exact Nat.le_refl _)] at h
          exact h
end Go.Proofs.YtilhjhmlkbeokaaDoor
