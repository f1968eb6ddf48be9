/- odag.Of: its contract. -/
import Derived.Test.YtcmocigckcjdjaaGreatDoorLinks13
import Derived.Test.YtcmocigckcjdjaaGreatDoorTabs13
import Derived.Test.YtcmocigckcjdjaaGreatDoorReads6
import Derived.Test.YtcmocigckcjdjaaGreatDoorFaultAt
namespace Go.Proofs.YtcmocigckcjdjaaGreatDoor
open Go.RowKit
attribute [local go_sem ↓] app_alias

theorem fold_min (m : Int) : ∀ (L : List Int) (a : Int), m ≤ a → (∀ x ∈ L, m ≤ x) → m ≤ L.foldl min a
  | [], _, h, _ => h
  | x :: t, a, h, hx => fold_min m t (min a x) (by have := hx x (List.mem_cons_self ..); omega) fun y hy => hx y (List.mem_cons_of_mem _ hy)
theorem fold_max (m : Int) : ∀ (L : List Int) (a : Int), a ≤ m → (∀ x ∈ L, x ≤ m) → L.foldl max a ≤ m
  | [], _, h, _ => h
  | x :: t, a, h, hx => fold_max m t (max a x) (by have := hx x (List.mem_cons_self ..); omega) fun y hy => hx y (List.mem_cons_of_mem _ hy)
theorem min_ge {L : List Int} (h0 : 0 < L.length) (h : ∀ x ∈ L, (0 : Int) ≤ x) : 0 ≤ Lib.minOf L := by
  obtain ⟨a, t, rfl⟩ : ∃ a t, L = a :: t := by cases L with | nil => simp at h0 | cons a t => exact ⟨a, t, rfl⟩
  exact fold_min 0 _ _ (h a (List.mem_cons_self ..)) h
theorem max_le {L : List Int} {m : Int} (h0 : 0 < L.length) (h : ∀ x ∈ L, x ≤ m) : Lib.maxOf L ≤ m := by
  obtain ⟨a, t, rfl⟩ : ∃ a t, L = a :: t := by cases L with | nil => simp at h0 | cons a t => exact ⟨a, t, rfl⟩
  exact fold_max m _ _ (h a (List.mem_cons_self ..)) h
theorem rowsP_len (n : Nat) (C : List (List Int)) : (rowsP n C).length = n := by simp [rowsP]
theorem rowsP_snoc (n : Nat) (C : List (List Int)) : rowsP (n + 1) C = rowsP n C ++ [rowP C n] := by simp [rowsP, List.range_succ]
def tabsP (n : Nat) (C : List (List Int)) : List (List (List Int)) := (List.range n).map (linksP C)
theorem tabsP_len (n : Nat) (C : List (List Int)) : (tabsP n C).length = n := by simp [tabsP]
theorem tabsP_snoc (n : Nat) (C : List (List Int)) : tabsP (n + 1) C = tabsP n C ++ [linksP C n] := by simp [tabsP, List.range_succ]

set_option maxRecDepth 100000 in
theorem of_bad (n : Int) (v : Value) (w : World) (h : n < 1 ∨ 8 < n) :
    Calls Tryz.prog 11 #[.int .i64 n, v] w fun e w' => ∃ u, e = .returned (.tuple #[.pointer none, u]) ∧ FaultAt 1 0 w' u ∧ Below w.heap.size w w' := by
  have hc : decide (n < 1) = true ∨ (decide (n < 1) = false ∧ decide (8 < n) = true) := by simp; omega
  clear h
  rcases hc with t1 | ⟨t1, t2⟩
  all_goals
    go_enter Tryz.func11, Tryz.ntmps11
    go_wp2_with fail
    refine (new_any _ _ _ _).mono ?_; rintro e w2 ⟨rfl, rfl⟩
    go_wp2_with fail
    go_ret2
    exact ⟨_, rfl, ⟨_, _, rfl, Whole.new _ _ _⟩, (Below.refl _ _).alloc (Nat.le_refl _) _⟩

theorem own_slot {w : World} {base e n : Nat} {v : Value} {us : List Value} (h : w.ownsRow base e 1 v n us) {i : Nat} (hi : i < n) :
    ∃ g c, v = .slice (some ⟨g, 0, none⟩) n c ∧ ∀ w' : World, w'.ownsRow base e 1 v n us → w'.cell? ⟨g, i, none⟩ = us[i]? := by
  rcases h.2 with ⟨rfl, h1⟩ | ⟨g, cap, cur, rfl, _⟩
  · omega
  · exact ⟨g, cap, rfl, fun w' h' => h'.cellAt i (by omega)⟩
/-- Rows of lists, being made. -/
def MadeR (w : World) (ob i : Nat) (C : List (List Int)) (wr : World) : Prop :=
  ∃ vr, Whole wr ob 57 #[vr, .slice none 0 0] ∧ RowsOwn wr w.heap.size vr (rowsP i C) ∧ Below w.heap.size w wr
def MadeT (w : World) (ob n i : Nat) (C : List (List Int)) (wr : World) : Prop :=
  ∃ vr vk, Whole wr ob 57 #[vr, vk] ∧ RowsOwn wr w.heap.size vr (rowsP n C) ∧ TabsOwn wr w.heap.size vk (tabsP i C) ∧ Below w.heap.size w wr

set_option maxRecDepth 100000 in
set_option maxHeartbeats 4000000 in
theorem of_any (n : Nat) (C : List (List Int)) (v : Value) (w : World) (hn1 : 1 ≤ n) (hn8 : n ≤ 8) (hv : ListsV w v C) (hC : C.length ≤ 100000) (hlen : ∀ l ∈ C, l.length = n) (hin : ∀ l ∈ C, ∀ x ∈ l, 0 ≤ x ∧ x ≤ 2147483647) :
    Calls Tryz.prog 11 #[.int .i64 n, v] w fun e w' => ∃ p, e = .returned (.tuple #[p, .nilIface]) ∧ OdagV w' p (rowsP n C) (allLinksP n C) ∧ Below w.heap.size w w' := by
  obtain ⟨A, c, rfl⟩ := hv.form
  obtain ⟨m, hm⟩ : ∃ m, C.length = m := ⟨_, rfl⟩
  rw [hm] at hv hC ⊢
  have hin64 : ∀ l ∈ C, ∀ x ∈ l, In64 x := fun l hl x hx => by have := hin l hl x hx; unfold In64; omega
  have HV := Lib.hid hv; have HM := Lib.hid hm; have HLEN := Lib.hid hlen; have HIN := Lib.hid hin; have HI64 := Lib.hid hin64
  have HC := Lib.hid hC
  have t1 : decide ((n : Int) < 1) = false := decide_eq_false (by omega)
  have t2 : decide ((8 : Int) < n) = false := decide_eq_false (by omega)
  clear hv hm hlen hin hin64
  go_enter Tryz.func11, Tryz.ntmps11
  go_wp2_with fail
  clear t1 t2
  go_loopg [20] m (fun gh yv wr => ∃ k, k ≤ m ∧ gh = m - k ∧ yv = .int .i64 (k : Nat) ∧ wr = w)
  case atStart => exact ⟨0, Nat.zero_le _, rfl, rfl, rfl⟩
  case round =>
    obtain ⟨k, hk, rfl, rfl, rfl⟩ := hrel
    by_cases hlt : k < m
    · have hkC : k < C.length := by rw [HM.out]; exact hlt
      obtain ⟨bb, off, u, rfl, hc, hu⟩ := ListsV.pos HV.out hkC
      obtain ⟨l, hl⟩ : ∃ l, C[k] = l := ⟨_, rfl⟩
      have hmem : l ∈ C := by rw [← hl]; exact List.getElem_mem _
      rw [hl] at hu
      have hll := HLEN.out l hmem
      obtain ⟨hus, A2, c2, rfl, _⟩ := hu
      have h0l : 0 < l.length := by omega
      have hmin := min_ge h0l (fun x hx => (HIN.out l hmem x hx).1)
      have hmax := max_le h0l (fun x hx => (HIN.out l hmem x hx).2)
      obtain ⟨b2, off2, rfl, _⟩ := hus.pos h0l
      have hcells : ∀ j, j < l.length → wr.cell? ⟨b2, off2 + j, none⟩ = some (.int .i64 (l.getD j 0)) := fun j hj => by
        obtain ⟨b3, off3, e3, hc3⟩ := hus.pos hj
        injection e3 with e3
        injection e3 with e3 e4
        subst e3 e4
        exact hc3
      have MN := Tryz.slices_Min_int b2 off2 l.length c2 l wr h0l (Nat.le_refl _) (by omega) hcells
      have MX := Tryz.slices_Max_int b2 off2 l.length c2 l wr h0l (Nat.le_refl _) (by omega) hcells
      rw [List.take_length] at MN MX
      rw [hll] at MN MX hc
      obtain ⟨mn, hmn⟩ : ∃ x, Lib.minOf l = x := ⟨_, rfl⟩
      obtain ⟨mx, hmx⟩ : ∃ x, Lib.maxOf l = x := ⟨_, rfl⟩
      rw [hmn] at MN hmin
      rw [hmx] at MX hmax
      have t3 : decide (k < m) = true := decide_eq_true hlt
      have i1 : (k : Int) < m := by omega
      have i2 : (0 : Int) ≤ k := by omega
      have t4 : ((n : Int) != n) = false := by simp
      have t5 : decide (mn < 0) = false := decide_eq_false (by omega)
      have t6 : decide (2147483647 < mx) = false := decide_eq_false (by omega)
      have HMN := Lib.hid MN; have HMX := Lib.hid MX; have HLT := Lib.hid hlt
      clear MN MX hlt hmin hmax hmn hmx hcells hus h0l hll hmem hl hkC
      go_wp2_with fail
      refine HMN.out.mono ?_; rintro e w1 ⟨rfl, hw1⟩; obtain rfl := hw1.symm
      go_wp2_with fail
      refine HMX.out.mono ?_; rintro e w1 ⟨rfl, hw1⟩; obtain rfl := hw1.symm
      go_wp2_with fail
      go_roundg (m - (k + 1))
      case rel => exact ⟨k + 1, HLT.out, rfl, by go_num, rfl⟩
      case measure => have := HLT.out; omega
    · obtain rfl : k = m := by omega
      have t3 : decide (k < k) = false := by simp
      have hR0 : MadeR wr wr.heap.size 0 C (wr.alloc (.cells #[.slice none 0 0, .slice none 0 0] 57)) := ⟨_, Whole.new _ _ _, RowsOwn.nil _ _, (Below.refl _ _).alloc (Nat.le_refl _) _⟩
      obtain ⟨ob, hob⟩ : ∃ b, wr.heap.size = b := ⟨_, rfl⟩
      obtain ⟨w1, hw1⟩ : ∃ W, wr.alloc (.cells #[.slice none 0 0, .slice none 0 0] 57) = W := ⟨_, rfl⟩
      rw [hw1, hob] at hR0
      have HR0 := Lib.hid hR0; have HOB := Lib.hid hob; have HW1 := Lib.hid hw1
      clear hR0 hob hw1 hlt
      go_wp2_with fail
      rw [HW1.out, HOB.out]
      obtain ⟨w, hw⟩ : ∃ W, W = wr := ⟨_, rfl⟩
      subst hw
      go_loopg [45] n (fun gh yv ws => ∃ i, i ≤ n ∧ gh = n - i ∧ yv = .int .i64 (i : Nat) ∧ MadeR w ob i C ws)
      case atStart => exact ⟨0, Nat.zero_le _, rfl, rfl, HR0.out⟩
      case round =>
        obtain ⟨i, hi, rfl, rfl, hmade⟩ := hrel
        by_cases hlt : i < n
        · obtain ⟨vr, hbox, hrows, hB⟩ := hmade
          obtain ⟨us, hus, hur⟩ := id hrows
          rw [rowsP_len] at hus
          obtain ⟨Ar, cr, rfl⟩ := own_form hus
          have c0 : wr.cell? ⟨ob, 0, none⟩ = some (.slice Ar i cr) := hbox.cell 0
          have hdr : Below wr.heap.size wr wr.drew := below_drewN' (Below.refl _ _) 1
          have RO := rowOf_any C i _ wr.drew ((HV.out.below hB (Nat.le_refl _)).below hdr (Nat.le_refl _)) (by rw [HM.out]; exact HC.out) (fun l hl => by rw [HLEN.out l hl]; exact hlt) HI64.out (by omega)
          have t3 : decide (i < n) = true := decide_eq_true hlt
          have i1 : (i : Int) < n := by omega
          have i2 : (0 : Int) ≤ i := by omega
          have HRO := Lib.hid RO; have HLT := Lib.hid hlt; have HBOX := Lib.hid hbox; have HROWS := Lib.hid hrows; have HUS := Lib.hid hus; have HUR := Lib.hid hur; have HB := Lib.hid hB
          have obl := hbox.lt
          clear RO hlt hbox hrows hus hur hB hdr
          go_wp2_with fail
          refine region_reads6 [0,1,2,3,4,5,6] 7 8 9 10 11 12 (by kernel_rfl) (by kernel_rfl) (fun w' => w'.cell? ⟨ob, 0, none⟩ = some (.slice Ar i cr)) c0 (by kernel_rfl) (by kernel_rfl) (by kernel_rfl) (by kernel_rfl) (by kernel_rfl) (by kernel_rfl) (by kernel_rfl) (by kernel_rfl) (by kernel_rfl) rfl rfl rfl rfl rfl rfl rfl rfl rfl rfl rfl rfl (by kernel_rfl) ?_
          refine ⟨_, ?v1_0, rfl, Or.inl ⟨by rfl, ?hy1_0⟩, fun _ _ _ h => h, ?rest1_0⟩
          case hy1_0 => (intro w' hSw; have s1 := hSw; go_simp; try with_reducible rfl)
          try dsimp only [Act.put]
          refine ⟨_, ?v1_1, rfl, Or.inl ⟨by rfl, ?hy1_1⟩, fun _ _ _ h => h, ?rest1_1⟩
          case hy1_1 => (intro w' hSw; have s1 := hSw; go_simp; try with_reducible rfl)
          try dsimp only [Act.put]
          refine ⟨_, ?v1_2, rfl, Or.inl ⟨by rfl, ?hy1_2⟩, fun _ _ _ h => h, ?rest1_2⟩
          case hy1_2 => (intro w' hSw; have s1 := hSw; go_simp; try with_reducible rfl)
          try dsimp only [Act.put]
          refine ⟨_, ?v1_3, rfl, Or.inl ⟨by rfl, ?hy1_3⟩, fun _ _ _ h => h, ?rest1_3⟩
          case hy1_3 => (intro w' hSw; have s1 := hSw; go_simp; try with_reducible rfl)
          try dsimp only [Act.put]
          refine ⟨_, ?v1_4, rfl, Or.inl ⟨by rfl, ?hy1_4⟩, fun _ _ _ h => h, ?rest1_4⟩
          case hy1_4 => (intro w' hSw; have s1 := hSw; go_simp; try with_reducible rfl)
          try dsimp only [Act.put]
          refine ⟨_, ?v1_5, rfl, Or.inl ⟨by rfl, ?hy1_5⟩, fun _ _ _ h => h, ?rest1_5⟩
          case hy1_5 => (intro w' hSw; have s1 := hSw; go_simp; try with_reducible rfl)
          try dsimp only [Act.put]
          refine ⟨_, ?v1_6, rfl, Or.inl ⟨by rfl, ?hy1_6⟩, fun _ _ _ h => h, ?rest1_6⟩
          case hy1_6 => (intro w' hSw; have s1 := hSw; go_simp; try with_reducible rfl)
          try dsimp only [Act.put]
          refine reads_nil ?_
          refine wp_bare (fun K1 hK1 => ?_)
          go_simp
          refine HRO.out.mono ?_; rintro e' w2 ⟨v', rfl, hown', hb2⟩
          have hb2' : Below wr.heap.size wr w2 := (below_drewN' (Below.refl _ _) 1).trans (hb2.mono (Nat.le_refl _))
          have hB2 := HB.out.trans (hb2'.mono HB.out.size)
          have hbox2 := HBOX.out.below hb2' obl
          refine hK1.out _ _ ⟨hbox2.cell 0, ?_⟩
          obtain ⟨A9, c9, rfl⟩ := own_form hown'
          obtain ⟨B9, e9, w3, ha9, hown9, hgrow9⟩ := app_row (base := w.heap.size) hB2.size (own_below HUS.out hb2' (Nat.le_refl _)) (by omega) (.slice A9 (rowP C i).length c9) rfl
          have hrow' : w2.ownsRow w.heap.size 3 1 (.slice A9 (rowP C i).length c9) (rowP C i).length (intCells (rowP C i)) := own_base hown' HB.out.size
          have hbA := hbox2.alloc (.cells #[.slice A9 (rowP C i).length c9] 44)
          have hbox3 := hgrow9.whole hbox2 (own_below HUS.out hb2' (Nat.le_refl _)) (by decide)
          have hB3 := hgrow9.below (own_below HUS.out hb2' (Nat.le_refl _)) hB2 (Nat.le_refl _) hB2.size
          have hR3 := RowsOwn.more (C := rowsP i C) (L := rowP C i) (by rw [rowsP_len]; exact own_below HUS.out hb2' (Nat.le_refl _)) (fun j u L hu hL => own_below (HUR.out j u L hu hL) hb2' (Nat.le_refl _)) hrow' (by rw [rowsP_len]; exact hown9) hgrow9
          rw [← rowsP_snoc] at hR3
          have hfin : MadeR w ob (i + 1) C (w3.setCell ⟨ob, 0, none⟩ (.slice B9 (i + 1) e9)) := ⟨_, hbox3.put 0 _, hR3.put (p := ⟨ob, 0, none⟩) hbox3 (by decide) (by decide) _, hB3.setCell (by simp [← HOB.out]) _⟩
          have HFIN := Lib.hid hfin
          have c3 : w3.cell? ⟨ob, 0, none⟩ = some (.slice Ar i cr) := hbox3.cell 0
          have f3 := hbox3.free 0
          refine wp_bare (fun K2 hK2 => ?_)
          go_simp
          refine hK2.out _ _ ⟨hbA.cell 0, ?_⟩
          clear hfin hR3 hB3 hbA hrow' hown9 hgrow9 hbox2 hB2 hb2' hb2 hown'
          refine wp_bare (fun K3 hK3 => ?_)
          go_simp
          refine hK3.out _ _ ⟨c3, ?_⟩
          refine wp_bare (fun K4 hK4 => ?_)
          go_simp
          refine hK4.out _ _ ?_
          refine wp_bare (fun K5 hK5 => ?_)
          go_simp
          refine hK5.out _ _ ?_
          refine wp_bare (fun K6 hK6 => ?_)
          go_simp
          refine hK6.out _ _ ?_
          clear c0 ha9 c3 f3 hbox3
          go_wp2_with fail
          go_roundg (n - (i + 1))
          case rel => exact ⟨i + 1, HLT.out, rfl, by go_num, HFIN.out⟩
          case measure => have := HLT.out; omega
        · obtain rfl : i = n := by omega
          have t3 : decide (i < i) = false := by simp
          have hT0 : MadeT w ob i 0 C wr := by
            obtain ⟨vr, h1, h2, h3⟩ := hmade
            exact ⟨vr, _, h1, h2, TabsOwn.nil _ _, h3⟩
          have HT0 := Lib.hid hT0
          clear hT0 hmade hlt
          go_wp2_with fail
          obtain ⟨N, hN⟩ : ∃ N, N + 1 = i := ⟨i - 1, by omega⟩
          have hNi : (i : Int) - 1 = (N : Nat) := by omega
          have HN := Lib.hid hN
          rw [hNi]
          clear hNi hN
          go_loopg [63] N (fun gh yv ws => ∃ q, q ≤ N ∧ gh = N - q ∧ yv = .int .i64 (q : Nat) ∧ MadeT w ob i q C ws)
          case atStart => exact ⟨0, Nat.zero_le _, rfl, rfl, HT0.out⟩
          case round =>
            obtain ⟨q, hq, rfl, rfl, hmade⟩ := hrel
            have hNi2 := HN.out
            by_cases hlt : q < N
            · obtain ⟨vr, vk, hbox, hrows, htabs, hB⟩ := hmade
              obtain ⟨us, hus, hur⟩ := id hrows
              obtain ⟨uk, huk, hukr⟩ := id htabs
              rw [rowsP_len] at hus
              rw [tabsP_len] at huk
              obtain ⟨Ak, ck, rfl⟩ := own_form huk
              obtain ⟨rb, cr, rfl, hslot⟩ := own_slot hus (i := q) (by omega)
              have hul : us.length = i := by have := hus.1; simpa using this
              obtain ⟨u, hu⟩ : ∃ u, us[q]? = some u := ⟨us[q]'(by omega), List.getElem?_eq_getElem (by omega)⟩
              have hRq : (rowsP i C)[q]? = some (rowP C q) := by simp [rowsP, show q < i by omega]
              have hrow := hur q u _ hu hRq
              rw [hu] at hslot
              have c0 : wr.cell? ⟨ob, 0, none⟩ = some (.slice (some ⟨rb, 0, none⟩) i cr) := hbox.cell 0
              have c1 : wr.cell? ⟨ob, 1, none⟩ = some (.slice Ak q ck) := hbox.cell 1
              have cu := hslot wr hus
              have hdr : Below wr.heap.size wr wr.drew := below_drewN' (Below.refl _ _) 1
              have LO := linksOf_any C q u _ wr.drew ((own_seq hrow).below hdr (Nat.le_refl _)) ((HV.out.below hB (Nat.le_refl _)).below hdr (Nat.le_refl _)) (by rw [HM.out]; exact HC.out) (fun l hl => by rw [HLEN.out l hl]; omega) HI64.out (by omega)
              obtain ⟨Au, cu', rfl⟩ := own_form hrow
              have t4 : decide (q < N) = true := decide_eq_true hlt
              have i1 : (q : Int) < N := by omega
              have i1' : (q : Int) < i := by omega
              have i2 : (0 : Int) ≤ q := by omega
              have HLO := Lib.hid LO; have HLT := Lib.hid hlt; have HBOX := Lib.hid hbox; have HROWS := Lib.hid hrows; have HUS := Lib.hid hus; have HTABS := Lib.hid htabs; have HUK := Lib.hid huk; have HUKR := Lib.hid hukr; have HB := Lib.hid hB; have HSLOT := Lib.hid hslot
              have obl := hbox.lt
              obtain ⟨nr, hnr⟩ : ∃ nr, (rowP C q).length = nr := ⟨_, rfl⟩
              rw [hnr] at HLO HSLOT cu
              have hq8 : Hid (q ≤ 1000000) := Lib.hid (by omega)
              clear LO hlt hbox hrows hus hur htabs huk hukr hB hdr hslot hrow hRq hu hul hnr hNi2 hq
              go_wp2_with fail
              refine region_reads6 [0,1,2,3,4,5,6,7,8,9,10,11,12,13] 14 15 16 17 18 19 (by kernel_rfl) (by kernel_rfl) (fun w' => w'.cell? ⟨ob, 0, none⟩ = some (.slice (some ⟨rb, 0, none⟩) i cr) ∧ w'.cell? ⟨ob, 1, none⟩ = some (.slice Ak q ck) ∧ w'.cell? ⟨rb, q, none⟩ = some (.slice Au nr cu')) ⟨c0, c1, cu⟩ (by kernel_rfl) (by kernel_rfl) (by kernel_rfl) (by kernel_rfl) (by kernel_rfl) (by kernel_rfl) (by kernel_rfl) (by kernel_rfl) (by kernel_rfl) rfl rfl rfl rfl rfl rfl rfl rfl rfl rfl rfl rfl (by kernel_rfl) ?_
              refine ⟨_, ?v2_0, rfl, Or.inl ⟨by rfl, ?hy2_0⟩, fun _ _ _ h => h, ?rest2_0⟩
              case hy2_0 => (intro w' hSw; obtain ⟨s1, s2, s3⟩ := hSw; go_simp; try with_reducible rfl)
              try dsimp only [Act.put]
              refine ⟨_, ?v2_1, rfl, Or.inl ⟨by rfl, ?hy2_1⟩, fun _ _ _ h => h, ?rest2_1⟩
              case hy2_1 => (intro w' hSw; obtain ⟨s1, s2, s3⟩ := hSw; go_simp; try with_reducible rfl)
              try dsimp only [Act.put]
              refine ⟨_, ?v2_2, rfl, Or.inl ⟨by rfl, ?hy2_2⟩, fun _ _ _ h => h, ?rest2_2⟩
              case hy2_2 => (intro w' hSw; obtain ⟨s1, s2, s3⟩ := hSw; go_simp; try with_reducible rfl)
              try dsimp only [Act.put]
              refine ⟨_, ?v2_3, rfl, Or.inl ⟨by rfl, ?hy2_3⟩, fun _ _ _ h => h, ?rest2_3⟩
              case hy2_3 => (intro w' hSw; obtain ⟨s1, s2, s3⟩ := hSw; go_simp; try with_reducible rfl)
              try dsimp only [Act.put]
              refine ⟨_, ?v2_4, rfl, Or.inl ⟨by rfl, ?hy2_4⟩, fun _ _ _ h => h, ?rest2_4⟩
              case hy2_4 => (intro w' hSw; obtain ⟨s1, s2, s3⟩ := hSw; go_simp; try with_reducible rfl)
              try dsimp only [Act.put]
              refine ⟨_, ?v2_5, rfl, Or.inl ⟨by rfl, ?hy2_5⟩, fun _ _ _ h => h, ?rest2_5⟩
              case hy2_5 => (intro w' hSw; obtain ⟨s1, s2, s3⟩ := hSw; go_simp; try with_reducible rfl)
              try dsimp only [Act.put]
              refine ⟨_, ?v2_6, rfl, Or.inl ⟨by rfl, ?hy2_6⟩, fun _ _ _ h => h, ?rest2_6⟩
              case hy2_6 => (intro w' hSw; obtain ⟨s1, s2, s3⟩ := hSw; go_simp; try with_reducible rfl)
              try dsimp only [Act.put]
              refine ⟨_, ?v2_7, rfl, Or.inl ⟨by rfl, ?hy2_7⟩, fun _ _ _ h => h, ?rest2_7⟩
              case hy2_7 => (intro w' hSw; obtain ⟨s1, s2, s3⟩ := hSw; go_simp; try with_reducible rfl)
              try dsimp only [Act.put]
              refine ⟨_, ?v2_8, rfl, Or.inl ⟨by rfl, ?hy2_8⟩, fun _ _ _ h => h, ?rest2_8⟩
              case hy2_8 => (intro w' hSw; obtain ⟨s1, s2, s3⟩ := hSw; go_simp; try with_reducible rfl)
              try dsimp only [Act.put]
              refine ⟨_, ?v2_9, rfl, Or.inl ⟨by rfl, ?hy2_9⟩, fun _ _ _ h => h, ?rest2_9⟩
              case hy2_9 => (intro w' hSw; obtain ⟨s1, s2, s3⟩ := hSw; go_simp; try with_reducible rfl)
              try dsimp only [Act.put]
              refine ⟨_, ?v2_10, rfl, Or.inl ⟨by rfl, ?hy2_10⟩, fun _ _ _ h => h, ?rest2_10⟩
              case hy2_10 => (intro w' hSw; obtain ⟨s1, s2, s3⟩ := hSw; go_simp; try with_reducible rfl)
              try dsimp only [Act.put]
              refine ⟨_, ?v2_11, rfl, Or.inl ⟨by rfl, ?hy2_11⟩, fun _ _ _ h => h, ?rest2_11⟩
              case hy2_11 => (intro w' hSw; obtain ⟨s1, s2, s3⟩ := hSw; go_simp; try with_reducible rfl)
              try dsimp only [Act.put]
              refine ⟨_, ?v2_12, rfl, Or.inl ⟨by rfl, ?hy2_12⟩, fun _ _ _ h => h, ?rest2_12⟩
              case hy2_12 => (intro w' hSw; obtain ⟨s1, s2, s3⟩ := hSw; go_simp; try with_reducible rfl)
              try dsimp only [Act.put]
              refine ⟨_, ?v2_13, rfl, Or.inl ⟨by rfl, ?hy2_13⟩, fun _ _ _ h => h, ?rest2_13⟩
              case hy2_13 => (intro w' hSw; obtain ⟨s1, s2, s3⟩ := hSw; go_simp; try with_reducible rfl)
              try dsimp only [Act.put]
              refine reads_nil ?_
              refine wp_bare (fun K1 hK1 => ?_)
              go_simp
              refine HLO.out.mono ?_; rintro e' w2 ⟨v', rfl, hown', hb2⟩
              have hb2' : Below wr.heap.size wr w2 := (below_drewN' (Below.refl _ _) 1).trans (hb2.mono (Nat.le_refl _))
              have hB2 := HB.out.trans (hb2'.mono HB.out.size)
              have hbox2 := HBOX.out.below hb2' obl
              have hrow2 := own_below HUS.out hb2' (Nat.le_refl _)
              refine hK1.out _ _ ⟨⟨hbox2.cell 0, hbox2.cell 1, HSLOT.out w2 hrow2⟩, ?_⟩
              obtain ⟨A9, c9, rfl⟩ := hown'.form
              have hk2 := own_below HUK.out hb2' (Nat.le_refl _)
              obtain ⟨B9, e9, w3, ha9, hown9, hgrow9⟩ := app_tab (base := w.heap.size) hB2.size hk2 hq8.out (.slice A9 (linksP C q).length c9) rfl
              have htab' : RowsOwn w2 w.heap.size (.slice A9 (linksP C q).length c9) (linksP C q) := hown'.lower HB.out.size
              have hbA := hbox2.alloc (.cells #[.slice A9 (linksP C q).length c9] 22)
              have hrA := hrow2.alloc (.cells #[.slice A9 (linksP C q).length c9] 22)
              have hbox3 := hgrow9.whole hbox2 hk2 (by decide)
              have hrow3 := hrow2.kept hgrow9.1 (own_apart hrow2 hk2 (by decide))
              have hB3 := hgrow9.below hk2 hB2 (Nat.le_refl _) hB2.size
              have hR3 := (HROWS.out.below hb2' (Nat.le_refl _)).keptO hgrow9.1 hk2 (by decide) (by decide)
              have hT3 := TabsOwn.more (K := tabsP q C) (T := linksP C q) (by rw [tabsP_len]; exact hk2) (fun j u L hu hL => (HUKR.out j u L hu hL).below hb2' (Nat.le_refl _)) htab' (by rw [tabsP_len]; exact hown9) hgrow9
              rw [← tabsP_snoc] at hT3
              have hfin : MadeT w ob i (q + 1) C (w3.setCell ⟨ob, 1, none⟩ (.slice B9 (q + 1) e9)) := ⟨_, _, hbox3.put 1 _, hR3.put (p := ⟨ob, 1, none⟩) hbox3 (by decide) (by decide) _, hT3.put (p := ⟨ob, 1, none⟩) hbox3 (by decide) (by decide) (by decide) _, hB3.setCell (by simp [← HOB.out]) _⟩
              have HFIN := Lib.hid hfin
              have c3 : w3.cell? ⟨ob, 0, none⟩ = some (.slice (some ⟨rb, 0, none⟩) i cr) := hbox3.cell 0
              have d3 : w3.cell? ⟨ob, 1, none⟩ = some (.slice Ak q ck) := hbox3.cell 1
              have f3 := hbox3.free 1
              have s3 := HSLOT.out w3 hrow3
              have HSA := Lib.hid (HSLOT.out _ hrA)
              refine wp_bare (fun K2 hK2 => ?_)
              go_simp
              refine hK2.out _ _ ⟨⟨hbA.cell 0, hbA.cell 1, HSA.out⟩, ?_⟩
              clear hfin hR3 hT3 hB3 hbA hrA htab' hown9 hgrow9 hbox2 hrow2 hrow3 hk2 hB2 hb2' hb2 hown'
              refine wp_bare (fun K3 hK3 => ?_)
              go_simp
              refine hK3.out _ _ ⟨⟨c3, d3, s3⟩, ?_⟩
              refine wp_bare (fun K4 hK4 => ?_)
              go_simp
              refine hK4.out _ _ ?_
              refine wp_bare (fun K5 hK5 => ?_)
              go_simp
              refine hK5.out _ _ ?_
              refine wp_bare (fun K6 hK6 => ?_)
              go_simp
              refine hK6.out _ _ ?_
              clear c0 c1 cu ha9 c3 d3 s3 f3 hbox3
              go_wp2_with fail
              go_roundg (N - (q + 1))
              case rel => exact ⟨q + 1, HLT.out, rfl, by go_num, HFIN.out⟩
              case measure => have := HLT.out; omega
            · obtain rfl : q = N := by omega
              have t4 : decide (q < q) = false := by simp
              obtain ⟨vr, vk, hbox, hrows, htabs, hB⟩ := hmade
              have hq1 : i - 1 = q := by omega
              have hfin : OdagV wr (.pointer (some ⟨ob, 0, none⟩)) (rowsP i C) (allLinksP i C) := ⟨ob, vr, vk, rfl, hbox, hrows.lists, by unfold allLinksP; rw [hq1]; exact htabs.tabs⟩
              have HFIN := Lib.hid hfin; have HB := Lib.hid hB
              clear hfin hbox hrows htabs hB hlt hq1 hq hNi2
              go_wp2_with fail
              go_ret2
              exact ⟨_, rfl, HFIN.out, HB.out⟩
end Go.Proofs.YtcmocigckcjdjaaGreatDoor
