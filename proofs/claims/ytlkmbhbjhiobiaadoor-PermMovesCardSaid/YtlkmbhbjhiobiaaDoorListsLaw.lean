/- PermLists: the law. -/
import Derived.Test.YtlkmbhbjhiobiaaDoorPermThen
namespace Go.Proofs.YtlkmbhbjhiobiaaDoor
open Go.RowKit

theorem perm_of_subset : ∀ (l l' : List Int), l.Nodup → (∀ x, x ∈ l → x ∈ l') → l'.length ≤ l.length → l.Perm l'
  | [], l', _, _, hl => by
    have : l' = [] := List.eq_nil_of_length_eq_zero (by simpa using hl)
    rw [this]
  | a :: t, l', hn, hs, hl => by
    have ha : a ∈ l' := hs a (by simp)
    have hnt := List.nodup_cons.1 hn
    have h1 := perm_of_subset t (l'.erase a) hnt.2 (fun x hx => (List.mem_erase_of_ne (fun e => by subst e; exact hnt.1 hx)).2 (hs x (by simp [hx]))) (by rw [List.length_erase_of_mem ha]; simp at hl; omega)
    exact (h1.cons a).trans (List.perm_cons_erase ha).symm
theorem Order.perm {n : Nat} {P : Nat → Int} (h : Order n P) : ((List.range n).map P).Perm (upto n) := by
  refine perm_of_subset _ _ ?_ (fun x hx => ?_) (by simp [upto])
  · unfold List.Nodup
    rw [List.pairwise_map, List.pairwise_iff_getElem]
    intro i j hi hj hij
    simp only [List.length_range] at hi hj
    rw [List.getElem_range, List.getElem_range]
    intro e
    have := h.inj i j hi hj e
    omega
  · obtain ⟨i, hi, rfl⟩ := List.mem_map.1 hx
    exact upto_mem.2 (h.rng i (List.mem_range.1 hi))
theorem Order.surj {n : Nat} {P : Nat → Int} (h : Order n P) (m : Nat) (hm : m < n) : ∃ i, i < n ∧ P i = m := by
  obtain ⟨i, hi, he⟩ := List.mem_map.1 (h.perm.symm.subset (upto_mem.2 (show 0 ≤ (m : Int) ∧ (m : Int) < n by omega)))
  exact ⟨i, List.mem_range.1 hi, he⟩
theorem Order.inv {n : Nat} {P Y : Nat → Int} (h : Order n P) (hY : ∀ i, i < n → Y (P i).toNat = i) : Order n Y := by
  refine ⟨h.le8, fun m hm => ?_, fun a b ha hb he => ?_⟩
  · obtain ⟨i, hi, e⟩ := h.surj m hm
    have h1 := hY i hi
    rw [e, Int.toNat_natCast] at h1
    omega
  · obtain ⟨i, hi, e⟩ := h.surj a ha
    obtain ⟨j, hj, e'⟩ := h.surj b hb
    have h1 := hY i hi
    have h2 := hY j hj
    rw [e, Int.toNat_natCast] at h1
    rw [e', Int.toNat_natCast] at h2
    have : i = j := by omega
    subst this
    omega
set_option maxRecDepth 100000 in
theorem at_hit (b : Nat) (c : Int) (w : World) (hg : ErrT w) (hc : w.cell? ⟨b, 1, none⟩ = some (.int .i64 c)) :
    Calls Tryd.prog 17 #[.iface 58 (.pointer (some ⟨b, 0, none⟩))] w fun e w' => e = .returned (.int .i64 c) ∧ Below w.heap.size w w' := by
  have hb : b < w.heap.size := by
    rcases Nat.lt_or_ge b w.heap.size with h | h
    · exact h
    · simp [World.cell?, Array.getElem?_eq_none h] at hc
  go_enter Tryd.func17, Tryd.ntmps17
  go_wp2_with (go_at_call 32; refine (find_hit _ _ hg).mono ?_; rintro ev w' ⟨rfl, hw⟩; have hc' := (hw.cell (p := ⟨b, 1, none⟩) hb).trans hc; clear hc)
  go_ret
  exact ⟨rfl, by assumption⟩
theorem id_own (n : Nat) : ints (fun i => (i : Int)) n ++ [Value.int .i64 (n : Nat)] = ints (fun i => (i : Int)) (n + 1) := by
  refine ints_ext (by simp [ints_len]) fun i hi => ?_
  rcases (by omega : i < n ∨ i = n) with h | rfl
  · rw [List.getElem?_append_left (by rw [ints_len]; exact h), ints_at h]
  · rw [List.getElem?_append_right (by rw [ints_len]; omega), ints_len, Nat.sub_self]; rfl

set_option maxRecDepth 100000 in
set_option maxHeartbeats 8000000 in
theorem lists_law (a8 a lo ln : Nat) (L : Nat → Int) (u : Value) (w : World) (hg : ErrT w) (hu : IntsV w u ln L) (h8 : a8 < 256) (ha : a < 65536) (hlo : lo < 256) :
    Calls Tryd.prog 7 #[.int .u8 (a8 : Nat), .int .u16 (a : Nat), u, .int .u8 (lo : Nat)] w fun e w' => e = .returned (.bool true) ∧ Below w.heap.size w w' := by
  obtain ⟨i0, hi, hz0, hz1, hz2⟩ := info_parts Tryd.infoInt
  obtain ⟨A, c, rfl⟩ := hu.form
  have HU := Lib.hid hu; have HG := Lib.hid hg
  have AL := Lib.hid (alive_ok w hg)
  obtain ⟨n, hn⟩ : ∃ n, a8 % 9 = n := ⟨_, rfl⟩
  have hn8 : n ≤ 8 := by omega
  have hnI : (a8 : Int) % 9 = (n : Int) := by rw [← hn]; rfl
  clear hu hg hn
  go_enter Tryd.func7, Tryd.ntmps7
  go_wp2_with fail
  refine AL.out.mono ?_; rintro e w1 ⟨rfl, hb1⟩
  have HB1 := Lib.hid hb1
  clear hb1
  go_wp2_with fail
  go_loopg [10, 11] 7 (fun g x y wr => ∃ k, 2 ≤ k ∧ k ≤ 9 ∧ (k ≤ n + 1 ∨ k = 2) ∧ g = 9 - k ∧ y = .int .i64 (k : Nat) ∧ x = .int .i64 (fct (k - 1) : Nat) ∧ wr = w1)
  case atStart => exact ⟨2, by omega, by omega, Or.inr rfl, rfl, rfl, rfl, rfl⟩
  case round =>
    obtain ⟨k, hk2, hk9, hkn, rfl, rfl, rfl, rfl⟩ := hrel
    obtain ⟨F, hF⟩ : ∃ F, fct (k - 1) = F := ⟨_, rfl⟩
    have hF4 : F ≤ 40320 := by rw [← hF]; exact fct_le (by omega)
    rw [hF]
    by_cases hle : k ≤ n
    · have t1 : decide ((k : Int) ≤ n) = true := decide_eq_true (by omega)
      have t1' : decide (k ≤ n) = true := decide_eq_true hle
      have HNEW : Hid (fct k = F * k) := Lib.hid (by
        obtain ⟨m, rfl⟩ : ∃ m, k = m + 1 := ⟨k - 1, by omega⟩
        rw [← hF, fct, Nat.add_sub_cancel, Nat.mul_comm])
      have hFk : F * k ≤ 362880 := by
        have : F * k ≤ 40320 * 9 := Nat.mul_le_mul hF4 hk9
        omega
      obtain ⟨G, hG⟩ : ∃ G, F * k = G := ⟨_, rfl⟩
      have hGI : (F : Int) * k = (G : Int) := by rw [← hG]; simp
      have HGG := Lib.hid hG
      rw [hG] at hFk
      clear hF hG
      go_wp2_with fail
      go_roundg (9 - (k + 1))
      case rel => exact ⟨k + 1, by omega, by omega, Or.inl (by omega), rfl, by go_num, by rw [Nat.add_sub_cancel, HNEW.out, HGG.out], rfl⟩
      case measure => omega
    · have t1 : decide ((k : Int) ≤ n) = false := decide_eq_false (by omega)
      have t1' : decide (k ≤ n) = false := decide_eq_false hle
      have hFn : F = fct n := by
        rw [← hF]
        rcases hkn with h | h
        · rw [show k - 1 = n by omega]
        · subst h
          rcases (by omega : n = 0 ∨ n = 1) with rfl | rfl <;> rfl
      have HF := Lib.hid hFn
      have hFp : 0 < F := by rw [hFn]; exact fct_pos n
      obtain ⟨r, hr⟩ : ∃ r, a % F = r := ⟨_, rfl⟩
      have hrF : r < F := by rw [← hr]; exact Nat.mod_lt _ hFp
      have O1 := Lib.hid (of_ok n r wr hn8 (by rw [← hFn]; exact hrF))
      have hrI : (a : Int) % (F : Int) = (r : Int) := by rw [← hr]; rfl
      have hne : ¬ ((F : Int) = 0) := by omega
      have hneN : ¬ (F = 0) := by omega
      have HRF : Hid (r < fct n) := Lib.hid (by rw [← hFn]; exact hrF)
      clear hF hFn hle hr
      go_wp2_with fail
      refine O1.out.mono ?_; rintro e w2 ⟨b, P, rfl, hbb, hP, hPu, hb2⟩
      have hO := unr_order hn8 HRF.out hPu
      have HB2 := Lib.hid (HB1.out.trans (hb2.mono HB1.out.size))
      have B1 := Lib.hid (back_ok n P _ w2 hP hO)
      have HP := Lib.hid hP; have HO := Lib.hid hO
      clear hbb hP hPu hb2 hO
      go_wp2_with fail
      refine B1.out.mono ?_; rintro e w3 ⟨b3, Y, rfl, hbb3, hY, hYP, hb3⟩
      have HP3 := Lib.hid (HP.out.below hb3 (Nat.le_refl _))
      have HB3 := Lib.hid (HB2.out.trans (hb3.mono HB2.out.size))
      have HY := Lib.hid hY; have HYP := Lib.hid hYP
      have HOY := Lib.hid (HO.out.inv hYP)
      clear hbb3 hY hYP hb3
      by_cases hln : 30 < ln
      · have t2 : decide ((30 : Int) < ln) = true := decide_eq_true (by omega)
        clear hln
        go_wp2_with fail
        go_ret
        exact ⟨rfl, HB3.out⟩
      · have t2 : decide ((30 : Int) < ln) = false := decide_eq_false (by omega)
        have hln' : ln ≤ 30 := by omega
        obtain ⟨M, hM⟩ : ∃ M, 9 + lo % 20 = M := ⟨_, rfl⟩
        have hMI : (9 : Int) + (lo : Int) % 20 = (M : Int) := by rw [← hM]; simp
        have hM9 : 9 ≤ M := by omega
        have hM30 : M ≤ 30 := by omega
        clear hln hM
        go_wp2_with fail
        obtain ⟨wo, rfl⟩ : ∃ wo : World, wo = wr := ⟨_, rfl⟩
        go_loopg [16, 17] M (fun g x y wr => ∃ j, j ≤ M ∧ g = M - j ∧ y = .int .i64 (j : Nat) ∧ wr.ownsRow w3.heap.size 3 1 x j (ints (fun i => (i : Int)) j) ∧ Below w3.heap.size w3 wr)
        case atStart => exact ⟨0, by omega, rfl, rfl, World.ownsRow_nil _ _ _ _, Below.refl _ _⟩
        case round =>
          obtain ⟨j, hj, rfl, rfl, hown, hb⟩ := hrel
          obtain ⟨Aj, cj, rfl⟩ := own_form hown
          by_cases hjM : j < M
          · have t7 : decide (j < M) = true := decide_eq_true hjM
            have t7' : decide ((j : Int) < M) = true := decide_eq_true (by omega)
            have HJ := Lib.hid hjM
            have hsz := hb.size
            have HOW := Lib.hid hown; have HBJ := Lib.hid hb
            clear hown hb hjM
            go_wp2_with (at_builtin; refine wpList_app1g _ rfl _ _ 22 rfl w3.heap.size 3 i0 (.int .i64 0) 8 Tryd.underlying22 hi hz0 hz1 hz2 rfl _ j _ rfl HOW.out _ rfl rfl (by omega) (by omega) hsz ?_)
            intro A' c' w5 hown5 hgrow5
            have hb5 := hgrow5.below HOW.out HBJ.out (Nat.le_refl _) hsz
            rw [id_own] at hown5
            have HOW5 := Lib.hid hown5; have HB5 := Lib.hid hb5
            clear hown5 hgrow5 hb5
            go_wp2_with fail
            go_roundg (M - (j + 1))
            case rel => exact ⟨j + 1, HJ.out, rfl, by go_num, HOW5.out, HB5.out⟩
            case measure => have := HJ.out; omega
          · obtain rfl : j = M := by omega
            have t7 : decide (j < j) = false := by simp
            have R5 := right_any j _ _ wr (own_intsV hown)
            have hr5 : rightB j (fun i => (i : Int)) = false := by simp [rightB]; omega
            rw [hr5] at R5
            have HR5 := Lib.hid R5
            have hB5 := HB3.out.trans (hb.mono HB3.out.size)
            have HB5 := Lib.hid hB5
            have HP5 := Lib.hid (HP3.out.below hb (Nat.le_refl _)); have HY5 := Lib.hid (HY.out.below hb (Nat.le_refl _))
            have I5 := Lib.hid (fun W : World => id_no (j : Int) W (by simp [mayB]; omega))
            clear hown hb hjM hr5 R5 hB5
            go_wp2_with fail
            refine HR5.out.mono ?_; rintro e w6 ⟨rfl, hb6⟩
            have hB6 := HB5.out.trans (hb6.mono HB5.out.size)
            have HP6 := Lib.hid (HP5.out.below hb6 (Nat.le_refl _)); have HY6 := Lib.hid (HY5.out.below hb6 (Nat.le_refl _))
            have HU6 := Lib.hid (HU.out.below hB6 (Nat.le_refl _))
            have HB6 := Lib.hid hB6
            clear hb6 hB6
            go_wp2_with fail
            refine (I5.out _).mono ?_; rintro e w7 ⟨rfl, hw7⟩; obtain rfl := hw7.symm
            by_cases hlen : n = ln
            · subst hlen
              have P6 := Lib.hid (put_ok n P L _ _ w6 HP6.out HU6.out HO.out)
              have t9 : ((n : Int) != n) = false := by simp
              go_wp2_with fail
              refine P6.out.mono ?_; rintro e w8 ⟨b8, X, rfl, hbb8, ho8, hX, hb8⟩
              have Q8 := Lib.hid (put_ok n Y X _ _ w8 (HY6.out.below hb8 (Nat.le_refl _)) (own_intsV ho8) HOY.out)
              have HX := Lib.hid hX
              have HB8 := Lib.hid (HB6.out.trans (hb8.mono HB6.out.size))
              clear hbb8 ho8 hX hb8
              go_wp2_with fail
              refine Q8.out.mono ?_; rintro e w9 ⟨b9, V, rfl, hbb9, ho9, hV, hb9⟩
              have hB9 := HB8.out.trans (hb9.mono HB8.out.size)
              have S9 := sameInts_any n n V L _ _ w9 (own_intsV ho9) (HU.out.below hB9 (Nat.le_refl _)) (by omega)
              have hs : sameI V n L n = true := by
                unfold sameI
                rw [Bool.and_eq_true, eqUpto_iff]
                refine ⟨by simp, fun i hi => ?_⟩
                have h1 := HO.out.rng i hi
                have h2 := hV (P i).toNat (by omega)
                rw [HYP.out i hi, Int.toNat_natCast] at h2
                rw [h2, HX.out i hi]
              rw [hs] at S9
              have HS9 := Lib.hid S9; have HB9 := Lib.hid hB9
              clear hbb9 ho9 hV hb9 hB9 S9 hs
              go_wp2_with fail
              refine HS9.out.mono ?_; rintro e w10 ⟨rfl, d10, rfl⟩
              go_wp2_with fail
              go_ret
              exact ⟨rfl, below_drewN HB9.out d10⟩
            · have P6 := Lib.hid (put_len n ln P L _ _ w6 HP6.out HU6.out HO.out hlen)
              have t9 : ((ln : Int) != n) = true := by simp; omega
              clear hlen
              go_wp2_with fail
              refine P6.out.mono ?_; rintro e w8 ⟨f, rfl, ⟨bf, sf, rfl, hF⟩, hb8⟩
              have hB8 := HB6.out.trans (hb8.mono HB6.out.size)
              have hg8 : ErrT w8 := HG.out.below hB8 (Nat.le_refl _)
              have C8 := Lib.hid (code_hit bf 1 w8 hg8 (by rw [hF.cell 0]; rfl))
              have HF := Lib.hid hF; have HB8 := Lib.hid hB8
              clear hF hb8 hB8 hg8
              go_wp2_with fail
              refine C8.out.mono ?_; rintro e w9 ⟨rfl, hb9⟩
              have hB9 := HB8.out.trans (hb9.mono HB8.out.size)
              have A9 := Lib.hid (at_hit bf 1 w9 (HG.out.below hB9 (Nat.le_refl _)) (by rw [(HF.out.below hb9 HF.out.lt).cell 1]; rfl))
              have HB9 := Lib.hid hB9
              clear hb9 hB9
              go_wp2_with fail
              refine A9.out.mono ?_; rintro e w10 ⟨rfl, hb10⟩
              have HB10 := Lib.hid (HB9.out.trans (hb10.mono HB9.out.size))
              clear hb10
              go_wp2_with fail
              go_ret
              exact ⟨rfl, HB10.out⟩
end Go.Proofs.YtlkmbhbjhiobiaaDoor
