/- perm.Of: the contract. -/
import Derived.Test.YtgolcogigpnbeaaGreatDoorPerm2
import Derived.Test.YtgolcogigpnbeaaGreatDoorShelf
import Derived.Test.YtgolcogigpnbeaaGreatDoorUnr
namespace Go.Proofs.YtgolcogigpnbeaaGreatDoor
open Go.RowKit

/-- Numbers in a block of the call's own. -/
structure LeftAt (w : World) (b c : Nat) (L : List Int) : Prop where
  cells : ∀ i, i < L.length → w.cell? ⟨b, i, none⟩ = some (.int .i64 (L.getD i 0))
  free : ∀ i, w.frozen? ⟨b, i, none⟩ = false
  cap : L.length ≤ c
theorem below_sets {B g : Nat} {a : World} (hg : B ≤ g) : ∀ (vs : List Value) (o : Nat) (w : World), Below B a w → Below B a (w.setCells g o vs)
  | [], _, _, h => h
  | v :: r, o, _, h => below_sets hg r (o + 1) _ (h.setCell (p := ⟨g, o, none⟩) hg v)
theorem grown_setCells (b : Nat) : ∀ (vs : List Value) (o : Nat) (w0 w : World), w0.grownBy w (some b) → w0.grownBy (w.setCells b o vs) (some b)
  | [], _, _, _, h => h
  | v :: r, o, w0, w, h => grown_setCells b r (o + 1) w0 _ ⟨h.os, h.tape, h.output, by simpa [World.setCell] using h.size, fun k hk hne => (Below.heap_setCell w ⟨b, o, none⟩ v k (fun e => hne (by rw [e]))).trans (h.block k hk hne)⟩

theorem del_ok (b c i : Nat) (L : List Int) (w : World) (h : LeftAt w b c L) (hi : i < L.length) (hc : c ≤ 1000) :
    Calls Tryz.prog 59 #[.slice (some ⟨b, 0, none⟩) L.length c, .int .i64 (i : Nat), .int .i64 ((i : Int) + 1)] w fun e w' => e = .returned (.slice (some ⟨b, 0, none⟩) (L.length - 1) c) ∧ LeftAt w' b c (L.eraseIdx i) ∧ w.grownBy w' (some b) := by
  have hd := Tryz.slices_Delete_int_cells b 0 L.length c i (i + 1) L w (Nat.le_refl _) h.cap (by omega) (by omega) (by omega) (fun j hj => by rw [Nat.zero_add]; exact h.cells j hj) (fun j _ => by rw [Nat.zero_add]; exact h.free j)
  rw [show ((i + 1 : Nat) : Int) = (i : Int) + 1 by omega, show i + 1 - i = 1 by omega] at hd
  refine hd.mono fun e w' ⟨he, q, hq⟩ => ?_
  subst hq
  obtain ⟨vs, hvs⟩ : ∃ vs, (((L.take L.length).take i ++ (L.take L.length).drop (i + 1) ++ List.replicate 1 0).map (Value.int .i64)) = vs := ⟨_, rfl⟩
  rw [hvs]
  have hlen : vs.length = L.length := by rw [← hvs]; simp; omega
  have hin := World.cell?_setCells_in b vs 0 (w.drewN q) (fun j hj => by rw [Nat.zero_add, World.cell?_drewN, h.cells j (by omega)]; rfl)
  refine ⟨he, ⟨fun j hj => ?_, fun j => ?_, ?_⟩, grown_setCells b vs 0 w _ ⟨rfl, rfl, rfl, Nat.le_refl _, fun _ _ _ => rfl⟩⟩
  · have hj' : j < L.length - 1 := by rw [List.length_eraseIdx_of_lt hi] at hj; exact hj
    have h1 := hin j (by omega)
    rw [Nat.zero_add] at h1
    rw [h1]
    have h2 : vs[j]? = some (.int .i64 ((L.eraseIdx i).getD j 0)) := by
      rw [← hvs, List.getElem?_map, List.take_length, List.getElem?_append_left (by simp; omega), ← List.eraseIdx_eq_take_drop_succ]
      have h3 : (L.eraseIdx i)[j]? = some ((L.eraseIdx i)[j]'hj) := List.getElem?_eq_getElem hj
      rw [h3]
      simp [List.getD, h3]
    rw [List.getElem?_eq_getElem (by omega)] at h2
    exact h2
  · rw [World.frozen?_setCells, World.frozen?_drewN]
    exact h.free j
  · have := h.cap
    rw [List.length_eraseIdx_of_lt hi]; omega

theorem upto_len (n : Nat) : (upto n).length = n := by simp [upto]
theorem left_of_own {w : World} {base g n : Nat} {Z : Nat → Int} (h : w.ownsRow base 3 1 (.slice (some ⟨g, 0, none⟩) n n) n (ints Z n)) : LeftAt w g n ((List.range n).map Z) := by
  refine ⟨fun i hi => ?_, fun i => h.frozenAt i, by simp⟩
  simp at hi
  rw [h.cellAt i (by omega), ints_at hi]
  simp [List.getD, hi]
theorem LeftAt.at_block {w w' : World} {b c : Nat} {L : List Int} (h : LeftAt w b c L) (hb : w'.heap[b]? = w.heap[b]?) : LeftAt w' b c L :=
  ⟨fun i hi => by rw [World.cell?_of_block (w := w) (w' := w') (a := ⟨b, i, none⟩) hb]; exact h.cells i hi, fun i => by rw [World.frozen?_of_block (w := w) (w' := w') (a := ⟨b, i, none⟩) hb]; exact h.free i, h.cap⟩
theorem own_at_block {w w' : World} {base g n : Nat} {xs : List Value} (h : w.ownsRow base 3 1 (.slice (some ⟨g, 0, none⟩) n n) n xs) (hb : w'.heap[g]? = w.heap[g]?) : w'.ownsRow base 3 1 (.slice (some ⟨g, 0, none⟩) n n) n xs := by
  refine ⟨h.1, ?_⟩
  rcases h.2 with hn | ⟨g', cap, cur, e, hg, hh, r⟩
  · exact Or.inl hn
  · refine Or.inr ⟨g', cap, cur, e, hg, ?_, r⟩
    injection e with e1
    injection e1 with e1
    injection e1 with e1 _
    subst e1
    rw [hb]; exact hh
theorem fct_div (m : Nat) : fct (m + 1) / (m + 1) = fct m := by
  rw [fct, Nat.mul_comm]
  exact Nat.mul_div_cancel _ (by omega)

/-- Of's two slices. -/
def OfCut (n : Nat) (w : World) (x y : Value) (wx : World) : Prop :=
  ∃ a b : Nat, x = .slice (some ⟨a, 0, none⟩) n n ∧ y = .slice (some ⟨b, 0, none⟩) n n ∧ a ≠ b ∧ w.heap.size ≤ a ∧ LeftAt wx a n (upto n) ∧ wx.ownsRow w.heap.size 3 1 (.slice (some ⟨b, 0, none⟩) n n) n (ints (fun _ => 0) n) ∧ Below w.heap.size w wx

theorem own_zero {w : World} {base n : Nat} (hb : base ≤ w.heap.size) (hn : n ≤ 1000000) : (w.alloc (.cells (madeCells #[.int .i64 0] n) 3)).ownsRow base 3 1 (.slice (some ⟨w.heap.size, 0, none⟩) n n) n (ints (fun _ => 0) n) := by
  have h := World.ownsRow_lit (base := base) (e := 3) (size := 1) w (madeCells #[.int .i64 0] n) n hb (by unfold maxLen; omega) (by rw [size_madeCells, Nat.mul_one])
  rw [ints_zero] at h
  exact h
theorem own_mono' {w : World} {base base' e size n : Nat} {v : Value} {xs : List Value} (h : w.ownsRow base e size v n xs) (hb : base' ≤ base) : w.ownsRow base' e size v n xs := by
  refine ⟨h.1, ?_⟩
  rcases h.2 with hn | ⟨g, cap, cur, rfl, hg, r⟩
  · exact Or.inl hn
  · exact Or.inr ⟨g, cap, cur, rfl, by omega, r⟩
theorem ofcut1 {n : Nat} {w w3 : World} (hn : n ≤ 8) (h : w3.ownsRow w.drew.heap.size 3 1 (.slice (some ⟨w.drew.heap.size, 0, none⟩) n n) n (ints (fun i => i) n)) (hb : Below w.drew.heap.size w.drew w3) :
    OfCut n w (.slice (some ⟨w.heap.size, 0, none⟩) n n) (.slice (some ⟨w3.heap.size, 0, none⟩) n n) (w3.alloc (.cells (madeCells #[.int .i64 0] n) 3)) := by
  have h' : w3.ownsRow w.heap.size 3 1 (.slice (some ⟨w.heap.size, 0, none⟩) n n) n (ints (fun i => i) n) := h
  have hb' : Below w.heap.size w w3 := ⟨hb.os, hb.tape, hb.output, hb.size, hb.block⟩
  have hlt : w.heap.size < w3.heap.size := (h'.lt _ rfl).2
  exact ⟨_, _, rfl, rfl, by omega, Nat.le_refl _, (left_of_own h').at_block (Below.heap_alloc w3 _ _ hlt), own_zero (by omega) (by omega), hb'.alloc (by omega) _⟩
theorem ofcut2 {n : Nat} {w w3 : World} (hn : n ≤ 8) (h : w3.ownsRow (w.alloc (.cells (madeCells #[.int .i64 0] n) 3)).drew.heap.size 3 1 (.slice (some ⟨(w.alloc (.cells (madeCells #[.int .i64 0] n) 3)).drew.heap.size, 0, none⟩) n n) n (ints (fun i => i) n)) (hb : Below (w.alloc (.cells (madeCells #[.int .i64 0] n) 3)).drew.heap.size (w.alloc (.cells (madeCells #[.int .i64 0] n) 3)).drew w3) :
    OfCut n w (.slice (some ⟨w.heap.size + 1, 0, none⟩) n n) (.slice (some ⟨w.heap.size, 0, none⟩) n n) w3 := by
  have e : (w.alloc (.cells (madeCells #[.int .i64 0] n) 3)).drew.heap.size = w.heap.size + 1 := by simp
  rw [e] at h
  have hA : Below w.heap.size w (w.alloc (.cells (madeCells #[.int .i64 0] n) 3)).drew := ((Below.refl _ _).alloc (Nat.le_refl _) _).drew
  have hz : (w.alloc (.cells (madeCells #[.int .i64 0] n) 3)).drew.ownsRow w.heap.size 3 1 (.slice (some ⟨w.heap.size, 0, none⟩) n n) n (ints (fun _ => 0) n) := own_zero (Nat.le_refl _) (by omega)
  exact ⟨_, _, rfl, rfl, by omega, by omega, left_of_own h, own_below hz hb (Nat.le_refl _), hA.trans (hb.mono (by rw [e]; omega))⟩

set_option maxRecDepth 100000 in
set_option maxHeartbeats 4000000 in
theorem of_ok (n r0 : Nat) (w : World) (hn : n ≤ 8) (hr : r0 < fct n) :
    Calls Tryz.prog 22 #[.int .i64 n, .int .i64 r0] w fun e w' => ∃ (b : Nat) (Y : Nat → Int), e = .returned (.tuple #[.slice (some ⟨b, 0, none⟩) n n, .nilIface]) ∧ w.heap.size ≤ b ∧ IntsV w' (.slice (some ⟨b, 0, none⟩) n n) n Y ∧ (List.range n).map Y = unr n (upto n) r0 ∧ Below w.heap.size w w' := by
  obtain ⟨i0, hi, hz0, hz1, hz2⟩ := info_parts Tryz.infoInt
  have M1 := may_any n w
  rw [show mayB n = true by simp [mayB]; omega] at M1
  have HM := Lib.hid M1
  have HRK := Lib.hid hr
  have hr4 : r0 ≤ 40320 := by have := fct_le hn; omega
  have hmk : ∀ W : World, (Instr.makeSlice 22 (.int .i64 (n : Nat)) (.int .i64 (n : Nat))).run Tryz.prog W = .ok (.slice (some ⟨W.heap.size, 0, none⟩) n n) (W.alloc (.cells (madeCells (Value.int .i64 0).cells (n * 1)) 3)) := by
    intro W
    have h := run_make (P := Tryz.prog) W 22 3 i0 (.int .i64 0) Tryz.underlying22 hi hz0 .i64 .i64 (n : Int) (n : Int) (by omega) (by omega) (by rw [hz2]; omega) (by omega)
    rw [h, hz1, Int.toNat_natCast]
  have HMK := Lib.hid hmk
  clear M1 hr hmk
  go_enter Tryz.func22, Tryz.ntmps22
  go_wp2_with fail
  refine HM.out.mono ?_; rintro e w1 ⟨rfl, hw⟩; obtain rfl := hw.symm
  go_wp2_with fail
  go_loopg [6, 7] 7 (fun g x y wr => ∃ k, 2 ≤ k ∧ k ≤ 9 ∧ (k ≤ n + 1 ∨ k = 2) ∧ g = 9 - k ∧ y = .int .i64 (k : Nat) ∧ x = .int .i64 (fct (k - 1) : Nat) ∧ wr = w)
  case atStart => exact ⟨2, by omega, by omega, Or.inr rfl, rfl, rfl, rfl, rfl⟩
  case round =>
    obtain ⟨k, hk2, hk9, hkn, rfl, rfl, rfl, rfl⟩ := hrel
    obtain ⟨F, hF⟩ : ∃ F, fct (k - 1) = F := ⟨_, rfl⟩
    have hF4 : F ≤ 40320 := by rw [← hF]; exact fct_le (by omega)
    rw [hF]
    by_cases hle : k ≤ n
    · have t1 : decide ((k : Int) ≤ n) = true := decide_eq_true (by omega)
      have t1' : decide (k ≤ n) = true := decide_eq_true hle
      have HNEW : Hid (fct k = F * k) := Lib.hid (by
        obtain ⟨m, rfl⟩ : ∃ m, k = m + 1 := ⟨k - 1, by omega⟩
        rw [← hF, fct, Nat.add_sub_cancel, Nat.mul_comm])
      have hFk : F * k ≤ 362880 := by
        have : F * k ≤ 40320 * 9 := Nat.mul_le_mul hF4 hk9
        omega
      obtain ⟨G, hG⟩ : ∃ G, F * k = G := ⟨_, rfl⟩
      have hGI : (F : Int) * k = (G : Int) := by rw [← hG]; simp
      have hGW : IntKind.i64.wrap (G : Int) = G := by rw [IntKind.wrap_i64]; omega
      have HGG := Lib.hid hG
      rw [hG] at hFk
      clear hF hG
      go_wp2_with fail
      go_roundg (9 - (k + 1))
      case rel => exact ⟨k + 1, by omega, by omega, Or.inl (by omega), rfl, by go_num, by rw [Nat.add_sub_cancel, HNEW.out, HGG.out], rfl⟩
      case measure => omega
    · have t1 : decide ((k : Int) ≤ n) = false := decide_eq_false (by omega)
      have t1' : decide (k ≤ n) = false := decide_eq_false hle
      have hFn : F = fct n := by
        rw [← hF]
        rcases hkn with h | h
        · rw [show k - 1 = n by omega]
        · subst h
          rcases (by omega : n = 0 ∨ n = 1) with rfl | rfl <;> rfl
      have HF := Lib.hid hFn
      have t2 : decide ((r0 : Int) < 0) = false := decide_eq_false (by omega)
      have hFr : r0 < F := by rw [hFn]; exact HRK.out
      have t3 : decide ((F : Int) ≤ r0) = false := decide_eq_false (by omega)
      have t3' : decide (F ≤ r0) = false := decide_eq_false (by omega)
      clear hF hFn hle
      go_upto_region 10 with fail
      go_cut [8, 9] (fun x y wx => OfCut n wr x y wx)
      case first =>
        have I1 := Lib.hid (fun W : World => id_ok n W hn)
        have hmk := HMK.out
        go_region_with (go_at_call 27
                        refine (I1.out _).mono ?_
                        rintro e' w3 ⟨rfl, hw3, hb3⟩)
        all_goals
          go_wp2
          go_meet
        · exact ofcut1 hn hw3 hb3
        · exact ofcut2 hn hw3 hb3
      case rest =>
        obtain ⟨a, b, rfl, rfl, hab, hwa, hLA, hown, hB⟩ := hcut
        have HLA := Lib.hid hLA; have HOW := Lib.hid hown; have HB := Lib.hid hB
        have hbb : wr.heap.size ≤ b := (hown.lt b rfl).1
        clear hLA hown hB
        rw [HF.out]
        go_wp2_with fail
        obtain ⟨wo, rfl⟩ : ∃ wo : World, wo = wr := ⟨_, rfl⟩
        go_loopg [1, 6, 8, 38] n (fun g x1 x6 x8 y wr => ∃ (k r : Nat) (L : List Int) (Y : Nat → Int), k ≤ n ∧ g = n - k ∧ y = .int .i64 (k : Nat) ∧ x1 = .int .i64 (r : Nat) ∧ x6 = .int .i64 (fct (n - k) : Nat) ∧ x8 = .slice (some ⟨a, 0, none⟩) (n - k) n ∧ L.length = n - k ∧ r < fct (n - k) ∧ LeftAt wr a n L ∧ wr.ownsRow wo.heap.size 3 1 (.slice (some ⟨b, 0, none⟩) n n) n (ints Y n) ∧ (List.range k).map Y ++ unr (n - k) L r = unr n (upto n) r0 ∧ Below wo.heap.size wo wr)
        case atStart => exact ⟨0, r0, upto n, fun _ => 0, by omega, by omega, rfl, rfl, by rw [Nat.sub_zero], by rw [Nat.sub_zero], by rw [upto_len, Nat.sub_zero], by rw [Nat.sub_zero]; exact HRK.out, HLA.out, HOW.out, by simp, HB.out⟩
        case round =>
          obtain ⟨k, r, L, Y, hk, rfl, rfl, rfl, rfl, rfl, hL, hr, hLA, ho, hU, hb⟩ := hrel
          by_cases hlt : k < n
          · obtain ⟨m, hm⟩ : ∃ m, n - k = m + 1 := ⟨n - k - 1, by omega⟩
            rw [hm] at hL hr hU ⊢
            obtain ⟨F1, hF1⟩ : ∃ F, fct (m + 1) = F := ⟨_, rfl⟩
            obtain ⟨F0, hF0⟩ : ∃ F, fct m = F := ⟨_, rfl⟩
            have hFd := fct_div m
            have hF0p := fct_pos m
            have hF14 := fct_le (show m + 1 ≤ 8 by omega)
            have hF04 := fct_le (show m ≤ 8 by omega)
            have hFm : fct (m + 1) = (m + 1) * fct m := rfl
            rw [hF1, hF0] at hFd hFm
            rw [hF1] at hr hF14 ⊢
            rw [hF0] at hF0p hF04
            obtain ⟨q, hq⟩ : ∃ q, r / F0 = q := ⟨_, rfl⟩
            obtain ⟨r2, hr2⟩ : ∃ r2, r % F0 = r2 := ⟨_, rfl⟩
            have hqm : q < m + 1 := by rw [← hq]; exact (Nat.div_lt_iff_lt_mul hF0p).2 (by rw [← hFm]; exact hr)
            have hr2F : r2 < F0 := by rw [← hr2]; exact Nat.mod_lt _ hF0p
            have hU2 : unr (m + 1) L r = L.getD q 0 :: unr m (L.eraseIdx q) r2 := by rw [unr, hF0, hq, hr2]
            obtain ⟨x, hx⟩ : ∃ x, L.getD q 0 = x := ⟨_, rfl⟩
            have ca := hLA.cells q (by omega)
            rw [hx] at ca hU2
            have cb := ho.cellAt k (by omega)
            rw [ints_at hlt] at cb
            have fb := ho.frozenAt k
            have hst := (ho.stored k (.int .i64 x)).1
            rw [ints_set Y n k _ hlt] at hst
            have hsb := hb.setCell (p := ⟨b, k, none⟩) hbb (.int .i64 x)
            have hla2 : LeftAt (wr.setCell ⟨b, k, none⟩ (.int .i64 x)) a n L := hLA.at_block (Below.heap_setCell wr ⟨b, k, none⟩ _ a hab)
            have D1 := del_ok a n q L _ hla2 (by omega) (by omega)
            rw [hL, Nat.add_sub_cancel] at D1
            have HD1 := Lib.hid D1; have HST := Lib.hid hst; have HSB := Lib.hid hsb
            have HLE : Hid ((L.eraseIdx q).length = m) := Lib.hid (by rw [List.length_eraseIdx_of_lt (by omega), hL]; rfl)
            have HUU : Hid ((List.range (k + 1)).map (upd Y k x) ++ unr m (L.eraseIdx q) r2 = unr n (upto n) r0) := Lib.hid (by
              rw [← hU, hU2, List.range_succ, List.map_append, List.append_assoc]
              have e1 : (List.range k).map (upd Y k x) = (List.range k).map Y := List.map_congr_left fun j hj => by
                have := List.mem_range.1 hj
                unfold upd
                rw [if_neg (by omega)]
              rw [e1]
              simp [upd])
            have HR2 := Lib.hid hr2F
            have hdivI : (F1 : Int) / ((n : Int) - k) = (F0 : Int) := by
              have e : (n : Int) - k = ((m + 1 : Nat) : Int) := by omega
              rw [e, ← hFd]
              rfl
            have hqI : (r : Int) / (F0 : Int) = (q : Int) := by rw [← hq]; rfl
            have HRI : Hid ((r : Int) % (F0 : Int) = (r2 : Int)) := Lib.hid (by rw [← hr2]; rfl)
            have hne : ¬ ((n : Int) - k = 0) := by omega
            have hne0 : ¬ ((F0 : Int) = 0) := by omega
            have hne1 : ¬ (F0 = 0) := by omega
            have i1 : (k : Int) < n := by omega
            have i2 : (0 : Int) ≤ k := by omega
            have i3 : (0 : Int) < (n : Int) - k := by omega
            have i4 : q < m + 1 := hqm
            have i5 : (q : Int) < (m : Int) + 1 := by omega
            have i7 : q < 8 := by omega
            have HM2 := Lib.hid hm; have HLT := Lib.hid hlt; have HF0 := Lib.hid hF0
            have t7 : decide (k < n) = true := decide_eq_true hlt
            clear hFd hFm hq hr2 hx hU2 hU hst hsb hla2 D1 hL hr hLA ho hb hF1 hF0 hm hlt
            go_wp2_with fail
            refine HD1.out.mono ?_; rintro e w3 ⟨rfl, hla3, hg3⟩
            have ho3 := own_at_block HST.out (hg3.block b (HST.out.lt b rfl).2 (fun e => hab (Option.some.inj e).symm))
            have hb3 : Below wo.heap.size wo w3 := HSB.out.grown hg3 HSB.out.size (fun k hk => by injection hk with hk; omega)
            have HL3 := Lib.hid hla3; have HO3 := Lib.hid ho3; have HB3 := Lib.hid hb3
            clear hla3 hg3 ho3 hb3
            go_wp2_with fail
            go_roundg (n - (k + 1))
            case rel =>
              have e1 : n - (k + 1) = m := by have := HM2.out; omega
              refine ⟨k + 1, r2, _, _, HLT.out, rfl, by go_num, by rw [HRI.out], ?_, ?_, ?_, ?_, HL3.out, HO3.out, ?_, HB3.out⟩
              · rw [e1, HF0.out]
              · rw [e1]
              · rw [e1]; exact HLE.out
              · rw [e1, HF0.out]; exact HR2.out
              · rw [e1]; exact HUU.out
            case measure => have := HLT.out; omega
          · obtain rfl : k = n := by omega
            have t7 : decide (k < k) = false := by simp
            have hU' : (List.range k).map Y = unr k (upto k) r0 := by
              rw [← hU, Nat.sub_self]
              simp [unr]
            have HUU := Lib.hid hU'; have HO3 := Lib.hid ho; have HB3 := Lib.hid hb
            clear hU hU' hLA ho hb hL hr hlt
            go_wp2_with fail
            go_ret2
            exact ⟨b, Y, rfl, hbb, own_intsV HO3.out, HUU.out, HB3.out⟩
end Go.Proofs.YtgolcogigpnbeaaGreatDoor
