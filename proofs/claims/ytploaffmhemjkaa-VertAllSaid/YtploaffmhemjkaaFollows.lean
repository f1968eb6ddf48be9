/- vert.follows, Canonical, May. -/
import Derived.Test.YtploaffmhemjkaaVertP
import Derived.Test.YtploaffmhemjkaaGraph4
import Derived.BigQuiet
import Derived.Deep.QuietTactic
namespace Go.Proofs.Ytploaffmhemjkaa
open Go.RowKit

theorem seqPos {w : World} {A : Option Addr} {n c : Nat} {L : List Int} (h : SeqV w (.slice A n c) L) {i : Nat} (hi : i < L.length) : ∃ b off, A = some ⟨b, off, none⟩ ∧ w.cell? ⟨b, off + i, none⟩ = some (.int .i64 (L.getD i 0)) := by
  rcases h with ⟨h0, _⟩ | ⟨_, b, off, c', e, hc⟩
  · omega
  · injection e with e1 _ _
    exact ⟨b, off, e1, hc i hi⟩
theorem hasV_no' {n : Nat} {v : Int} (h : hasV n v = false) : v < 0 ∨ (0 ≤ v ∧ (n : Int) ≤ v) := by
  unfold hasV at h
  simp at h
  omega
/-- Are two vertices beside each other? -/
def adj (S : List (Int × Int)) (u v : Int) : Bool := decide (0 ≤ idL S u v)
theorem idL_range {S : List (Int × Int)} {n : Nat} (hR : ∀ e, e ∈ S → 0 ≤ e.1 ∧ e.2 < (n : Int)) {u v : Int} (h : hasV n u = false) : idL S u v = -1 := by
  unfold idL
  rw [if_neg]
  intro hm
  have := hR _ hm
  unfold ris at this
  simp only at this
  unfold hasV at h
  simp at h
  omega
theorem adj_comm (S : List (Int × Int)) (u v : Int) : adj S u v = adj S v u := by
  unfold adj idL
  have : ris (u, v) = ris (v, u) := by unfold ris; exact Prod.ext (by simp only; omega) (by simp only; omega)
  rw [this]
/-- A graph in memory whose edges are fine, or no graph. -/
structure GF (w : World) (base : Nat) (p : Value) (n : Nat) (S : List (Int × Int)) : Prop where
  own : (∃ (g : Nat) (L : List Int), p = .pointer (some ⟨g, 0, none⟩) ∧ L.length = n ∧ GraphOwn w base g L S) ∨ (p = .pointer none ∧ n = 0 ∧ S = [])
  fine : Fine S
  rng : ∀ e, e ∈ S → 0 ≤ e.1 ∧ e.2 < (n : Int)
  few : S.length ≤ 1000
  low : n ≤ 1000
theorem GF.below {w w' : World} {base n : Nat} {p : Value} {S : List (Int × Int)} (h : GF w base p n S) (hb : Below w.heap.size w w') : GF w' base p n S := by
  obtain ⟨h1, h2, h3, h4, h5⟩ := h
  refine ⟨?_, h2, h3, h4, h5⟩
  rcases h1 with ⟨g, L, hp, hl, hG⟩ | h1
  · exact Or.inl ⟨g, L, hp, hl, hG.below hb (Nat.le_refl _)⟩
  · exact Or.inr h1
theorem GF.drewN {w : World} {base n : Nat} {p : Value} {S : List (Int × Int)} (h : GF w base p n S) (d : Nat) : GF (w.drewN d) base p n S := h.below (below_drewN' (Below.refl _ _) d)
theorem GF.noG (w : World) : GF w 0 (.pointer none) 0 [] :=
  ⟨Or.inr ⟨rfl, rfl, rfl⟩, ⟨List.Pairwise.nil, fun e he => by simp at he⟩, fun e he => by simp at he, by simp, by omega⟩
theorem GF.len {w : World} {base n : Nat} {p : Value} {S : List (Int × Int)} (h : GF w base p n S) : Calls Try.prog 25 #[p] w fun e w' => e = .returned (.int .i64 n) ∧ w' = w := by
  obtain ⟨⟨g, L, rfl, rfl, hG⟩ | ⟨rfl, rfl, rfl⟩, _⟩ := h
  · exact len_any hG
  · exact len_nil w
theorem GF.has {w : World} {base n : Nat} {p : Value} {S : List (Int × Int)} (h : GF w base p n S) (u v : Int) : Calls Try.prog 39 #[p, .int .i64 u, .int .i64 v] w fun e w' => e = .returned (.bool (adj S u v)) ∧ ∃ d, w' = w.drewN d := by
  have hln := h.len
  have hR := h.rng
  cases hv : hasV n u with
  | false =>
    have := hasE_of u v _ _ w ((id_no n u v _ w hln hv).mono fun e w' hh => (show _ ∧ ∃ d, w' = w.drewN d from ⟨hh.1, 0, by rw [hh.2]; rfl⟩))
    unfold adj
    rw [idL_range hR hv]
    exact this
  | true =>
    obtain ⟨k, rfl, hk⟩ := hasV_yes hv
    obtain ⟨⟨g, L, rfl, hl, hG⟩ | ⟨rfl, rfl, rfl⟩, hF, _, hS, hn⟩ := h
    · exact hasE_of k v _ _ w (id_ok hG hF (by omega) v (by rw [hl]; exact hk))
    · omega

theorem bes_snoc (b : Int → Int → Bool) {l : List Int} {i : Nat} (hi : i < l.length) (v : Int) : bes b (l.take (i + 1)) v = (bes b (l.take i) v || b (l.getD i 0) v) := by
  unfold bes
  rw [List.take_succ_eq_append_getElem hi, List.any_append]
  simp [List.getD, hi]

set_option maxRecDepth 100000 in
set_option maxHeartbeats 2000000 in
theorem follows_any {w : World} {base m : Nat} {g : Value} {S : List (Int × Int)} (hG : GF w base g m S) (l : List Int) (v : Int) (A : Option Addr) (n c : Nat) (hln : l.length = n) (hl : SeqV w (.slice A n c) l) (hn : n ≤ 1000000) :
    Calls Try.prog 40 #[g, .slice A n c, .int .i64 v] w fun e w' => e = .returned (.bool (follows m (adj S) l v)) ∧ ∃ d, w' = w.drewN d := by
  have LN := Lib.hid hG.len
  have HS := Lib.hid (fun (d : Nat) (u : Int) => (hG.drewN d).has u v)
  have HL := Lib.hid (fun d => (show SeqV (w.drewN d) (.slice A n c) l from hl.below (below_drewN' (Below.refl _ _) d) (Nat.le_refl _))); have HN := Lib.hid hln
  clear hG
  cases hv : hasV m v with
  | false =>
    have HBAD : Hid (follows m (adj S) l v = false) := Lib.hid (by unfold follows; rw [hv]; rfl)
    have hcase : (decide (v < 0) = true) ∨ (decide (v < 0) = false ∧ decide ((m : Int) ≤ v) = true) := by
      rcases hasV_no' hv with h | ⟨h, k⟩
      · exact Or.inl (decide_eq_true h)
      · exact Or.inr ⟨decide_eq_false (by omega), decide_eq_true k⟩
    clear hv hl hln
    rcases hcase with k1 | ⟨k1, k2⟩
    · go_enter Try.func40, Try.ntmps40
      go_wp2_with fail
      go_ret
      exact ⟨by rw [HBAD.out]; rfl, 0, rfl⟩
    · go_enter Try.func40, Try.ntmps40
      go_wp2_with fail
      refine LN.out.mono ?_; rintro e w1 ⟨rfl, hw⟩; obtain rfl := hw.symm
      go_wp2_with fail
      go_ret
      exact ⟨by rw [HBAD.out]; rfl, 0, rfl⟩
  | true =>
    have HV := Lib.hid hv
    obtain ⟨k, rfl, hk⟩ := hasV_yes hv
    have k1 : decide ((k : Int) < 0) = false := decide_eq_false (by omega)
    have k2 : decide ((m : Int) ≤ k) = false := decide_eq_false (by omega)
    have k2' : decide (m ≤ k) = false := decide_eq_false (by omega)
    have hcase : (n = 0 ∧ l = []) ∨ (0 < n ∧ ∃ b off x, A = some ⟨b, off, none⟩ ∧ w.cell? ⟨b, off, none⟩ = some (.int .i64 x) ∧ l.getD 0 0 = x) := by
      rcases Nat.eq_zero_or_pos n with h0 | h0
      · exact Or.inl ⟨h0, List.eq_nil_of_length_eq_zero (by omega)⟩
      · obtain ⟨b, off, hA, hx⟩ := seqPos hl (i := 0) (by omega)
        exact Or.inr ⟨h0, b, off, _, hA, hx, rfl⟩
    clear hv hl
    rcases hcase with ⟨h0, hl0⟩ | ⟨h0, b, off, x, hA, hx, hx0⟩
    · subst h0 hl0
      have HYES : Hid (follows m (adj S) [] k = true) := Lib.hid (by rw [follows_iff]; exact ⟨HV.out, by simp, Or.inl rfl, fun j hj => by simp at hj⟩)
      go_enter Try.func40, Try.ntmps40
      go_wp2_with fail
      refine LN.out.mono ?_; rintro e w1 ⟨rfl, hw⟩; obtain rfl := hw.symm
      go_wp2_with fail
      go_loopg [7, 35] 0 (fun gh zv yv wr => gh = 0 ∧ yv = .int .i64 0 ∧ zv = .bool true ∧ wr = w)
      case atStart => exact ⟨rfl, rfl, rfl, rfl⟩
      case round =>
        obtain ⟨rfl, rfl, rfl, hwr⟩ := hrel
        obtain rfl := hwr.symm
        go_wp2_with fail
        go_ret
        exact ⟨by rw [HYES.out]; rfl, 0, rfl⟩
    · obtain rfl := hA
      have t0 : decide (0 < n) = true := decide_eq_true h0
      have t0' : decide ((0 : Int) < n) = true := decide_eq_true (by omega)
      have t1 : ((n : Int) == 0) = false := by simp; omega
      have i0 : (0 : Int) < n := by omega
      have HX := Lib.hid hx0; have H0 := Lib.hid h0
      by_cases hlt : (k : Int) < x
      · have HBAD : Hid (follows m (adj S) l k = false) := Lib.hid (by
          cases hf : follows m (adj S) l k with
          | false => rfl
          | true =>
            rcases (follows_iff.1 hf).2.2.1 with h | h
            · subst h; simp at hln; omega
            · omega)
        have t2 : decide ((k : Int) < x) = true := decide_eq_true hlt
        clear hx0 hlt hln
        go_enter Try.func40, Try.ntmps40
        go_wp2_with fail
        refine LN.out.mono ?_; rintro e w1 ⟨rfl, hw⟩; obtain rfl := hw.symm
        go_wp2_with fail
        go_ret
        exact ⟨by rw [HBAD.out]; rfl, 0, rfl⟩
      · have t2 : decide ((k : Int) < x) = false := decide_eq_false hlt
        have HLE := Lib.hid hlt
        clear hx0 hlt hln
        go_enter Try.func40, Try.ntmps40
        go_wp2_with fail
        refine LN.out.mono ?_; rintro e w1 ⟨rfl, hw⟩; obtain rfl := hw.symm
        go_wp2_with fail
        go_loopg [7, 35] n (fun gh zv yv wr => ∃ i d, i ≤ n ∧ gh = n - i ∧ yv = .int .i64 (i : Nat) ∧ zv = .bool (bes (adj S) (l.take i) k) ∧ folTo (adj S) l k i = true ∧ wr = w.drewN d)
        case atStart => exact ⟨0, 0, Nat.zero_le _, rfl, rfl, rfl, rfl, rfl⟩
        case round =>
          obtain ⟨i, d, hi, rfl, rfl, rfl, hfo, hwd⟩ := hrel
          obtain ⟨z, hz⟩ : ∃ z, bes (adj S) (l.take i) k = z := ⟨_, rfl⟩
          rw [hz]
          by_cases hit : i < n
          · have hil : i < l.length := by rw [HN.out]; exact hit
            obtain ⟨bu, ou, hAu, hu⟩ := seqPos (HL.out d) hil
            rw [← hwd] at hu
            have HSn := HS.out d (l.getD i 0)
            rw [← hwd] at HSn
            have hbs := bes_snoc (adj S) hil k
            have hst : folTo (adj S) l k (i + 1) = (folTo (adj S) l k i && !(l.getD i 0 == k || (bes (adj S) (l.take i) k && decide (k < l.getD i 0)))) := rfl
            rw [hfo, hz, Bool.true_and] at hst
            have hbd := folTo_bad (b := adj S) (l := l) (v := k) (i := i) hit
            rw [hz] at hbd hbs
            obtain ⟨u, huu⟩ : ∃ u, l.getD i 0 = u := ⟨_, rfl⟩
            rw [huu] at hu HSn hst hbs hbd
            have HST := Lib.hid hst; have HBS := Lib.hid hbs; have HH := Lib.hid HSn; have HWD := Lib.hid hwd; have HIT := Lib.hid hit
            have HBADF : Hid (folTo (adj S) l k n = false → follows m (adj S) l k = false) := Lib.hid (fun h => by
              unfold follows
              rw [HN.out, h]
              simp)
            have HBD := Lib.hid hbd
            have t3 : decide (i < n) = true := decide_eq_true hit
            have i1 : (i : Int) < n := by omega
            have i2 : (0 : Int) ≤ i := by omega
            obtain ⟨rfl, rfl⟩ : b = bu ∧ off = ou := by
              injection hAu with hAu
              injection hAu with h1 h2
              exact ⟨h1, h2⟩
            clear hit hil hAu HSn hbs hst huu hwd hfo hz hbd
            by_cases huk : u = k
            · have t4 : (u == (k : Int)) = true := by simp [huk]
              have HB : Hid (follows m (adj S) l k = false) := Lib.hid (HBADF.out (HBD.out (by rw [t4]; rfl)))
              clear huk
              go_wp2_with fail
              go_ret
              exact ⟨by rw [HB.out]; rfl, d, HWD.out⟩
            · have t4 : (u == (k : Int)) = false := by simp [huk]
              clear huk
              cases z with
              | false =>
                have HSU : Hid (folTo (adj S) l k (i + 1) = true) := Lib.hid (by rw [HST.out, t4]; rfl)
                obtain ⟨y, hy⟩ : ∃ y, adj S u k = y := ⟨_, rfl⟩
                rw [hy] at HH HBS
                go_wp2_with fail
                refine HH.out.mono ?_; rintro e w2 ⟨rfl, d2, hw2⟩
                have HW2 := Lib.hid hw2
                clear hw2
                go_wp2_with fail
                go_roundg (n - (i + 1))
                case rel => exact ⟨i + 1, d + d2, HIT.out, rfl, by go_num, by rw [HBS.out]; rfl, HSU.out, by rw [HW2.out, HWD.out, World.drewN_drewN]⟩
                case measure => have := HIT.out; omega
              | true =>
                by_cases hku : (k : Int) < u
                · have t5 : decide ((k : Int) < u) = true := decide_eq_true hku
                  have HB : Hid (follows m (adj S) l k = false) := Lib.hid (HBADF.out (HBD.out (by rw [t4, t5]; rfl)))
                  clear hku
                  go_wp2_with fail
                  go_ret
                  exact ⟨by rw [HB.out]; rfl, d, HWD.out⟩
                · have t5 : decide ((k : Int) < u) = false := decide_eq_false hku
                  have HSU : Hid (folTo (adj S) l k (i + 1) = true) := Lib.hid (by rw [HST.out, t4, t5]; rfl)
                  clear hku
                  go_wp2_with fail
                  go_roundg (n - (i + 1))
                  case rel => exact ⟨i + 1, d, HIT.out, rfl, by go_num, by rw [HBS.out]; rfl, HSU.out, HWD.out⟩
                  case measure => have := HIT.out; omega
          · obtain rfl : n = i := by omega
            have t3 : decide (n < n) = false := by simp
            have hFIN : follows m (adj S) l k = z := by
              unfold follows
              have e1 : bes (adj S) l k = z := by rw [← hz, List.take_of_length_le (by rw [HN.out]; exact Nat.le_refl _)]
              rw [HV.out, HN.out, hfo, e1]
              have e2 : l.isEmpty = false := by
                cases l with
                | nil => have := HN.out; have := H0.out; simp at *; omega
                | cons a t => rfl
              rw [e2, decide_eq_true (show l.getD 0 0 ≤ (k : Int) by rw [HX.out]; have := HLE.out; omega)]
              cases z <;> rfl
            have HFIN := Lib.hid hFIN; have HWD := Lib.hid hwd
            clear hit hFIN hfo hwd hz
            go_wp2_with fail
            go_ret
            exact ⟨by rw [HFIN.out]; rfl, d, HWD.out⟩
end Go.Proofs.Ytploaffmhemjkaa
