/- odag.rowOf: its contract. -/
import Derived.Test.YtcmocigckcjdjaaGreatDoorSetI13
import Derived.Test.YtcmocigckcjdjaaGreatDoorRowsOwn
namespace Go.Proofs.YtcmocigckcjdjaaGreatDoor
open Go.RowKit

theorem SeqV.pos {w : World} {A : Option Addr} {c n : Nat} {L : List Int} (h : SeqV w (.slice A n c) L) {i : Nat} (hi : i < L.length) : ∃ b off, A = some ⟨b, off, none⟩ ∧ w.cell? ⟨b, off + i, none⟩ = some (.int .i64 (L.getD i 0)) := by
  rcases h with ⟨h0, _⟩ | ⟨_, b, off, c', e, hc⟩
  · omega
  · injection e with e1 e2 e3
    exact ⟨b, off, e1, hc i hi⟩
/-- The i-th of each. -/
def colP (C : List (List Int)) (i : Nat) : List Int := C.map fun l => l.getD i 0
set_option maxRecDepth 100000 in
set_option maxHeartbeats 1000000 in
theorem rowOf_any (C : List (List Int)) (i : Nat) (v : Value) (w : World) (hv : ListsV w v C) (hC : C.length ≤ 100000) (hlen : ∀ l ∈ C, i < l.length) (hin : ∀ l ∈ C, ∀ x ∈ l, In64 x) (hi : i ≤ 100) :
    Calls Tryz.prog 30 #[v, .int .i64 i] w fun e w' => ∃ v', e = .returned v' ∧ w'.ownsRow w.heap.size 3 1 v' (rowP C i).length (intCells (rowP C i)) ∧ Below w.heap.size w w' := by
  obtain ⟨A, c, rfl⟩ := hv.form
  obtain ⟨n, hn⟩ : ∃ n, C.length = n := ⟨_, rfl⟩
  obtain ⟨T, hT⟩ : ∃ T, rowP C i = T := ⟨_, rfl⟩
  obtain ⟨q, hq⟩ : ∃ q, T.length = q := ⟨_, rfl⟩
  rw [hn] at hv hC ⊢
  rw [hT, hq]
  have HT := Lib.hid hT; have HQ := Lib.hid hq
  clear hT hq
  have HV := Lib.hid hv; have HN := Lib.hid hn; have HLEN := Lib.hid hlen; have HIN := Lib.hid hin
  have i8 : (i : Int) ≤ 100 := by omega
  have hmk := fun W => run_makeInts0 W
  clear hv hn hlen hin
  go_enter Tryz.func30, Tryz.ntmps30
  go_wp2_with fail
  have HB0 := Lib.hid ((Below.refl w.heap.size w).alloc (Nat.le_refl _) (.map #[] 0))
  have HS0 := Lib.hid (IntSet.made w)
  clear hmk
  go_loopg [11] n (fun gh yv wr => ∃ k, k ≤ n ∧ gh = n - k ∧ yv = .int .i64 (k : Nat) ∧ IntSet wr w.heap.size (colP (C.take k) i) ∧ Below w.heap.size w wr)
  case atStart => exact ⟨0, Nat.zero_le _, rfl, rfl, HS0.out, HB0.out⟩
  case round =>
    obtain ⟨k, hk, rfl, rfl, hset, hB⟩ := hrel
    by_cases hlt : k < n
    · have hkC : k < C.length := by rw [HN.out]; exact hlt
      obtain ⟨bb, off, u, rfl, hc, hu⟩ := ListsV.pos (HV.out.below hB (Nat.le_refl _)) hkC
      obtain ⟨l, hl⟩ : ∃ l, C[k] = l := ⟨_, rfl⟩
      have hmem : l ∈ C := by rw [← hl]; exact List.getElem_mem _
      rw [hl] at hu
      have hil := HLEN.out l hmem
      obtain ⟨hus, A2, c2, rfl, _⟩ := hu
      obtain ⟨b2, off2, rfl, hc2⟩ := hus.pos hil
      obtain ⟨x, hx⟩ : ∃ z, l.getD i 0 = z := ⟨_, rfl⟩
      rw [hx] at hc2
      have hxl : x ∈ l := by rw [← hx]; simp [List.getD, hil]
      have hkx := keyOf_int (HIN.out l hmem x hxl)
      have htk : colP (C.take (k + 1)) i = colP (C.take k) i ++ [x] := by
        unfold colP
        rw [List.take_succ_eq_append_getElem hkC, List.map_append, hl, List.map_singleton, hx]
      obtain ⟨nn, D, hown, hnn, hD⟩ := hset
      have hnn2 : nn < maxLen := by unfold maxLen; unfold colP at hnn; rw [List.length_map, List.length_take] at hnn; omega
      obtain ⟨m, hm⟩ : ∃ m, l.length = m := ⟨_, rfl⟩
      rw [hm] at hil hc
      have t3 : decide (k < n) = true := decide_eq_true hlt
      have i1 : (k : Int) < n := by omega
      have i2 : (0 : Int) ≤ k := by omega
      have i3 : (i : Int) < m := by omega
      have i4 : (0 : Int) ≤ i := by omega
      have HO := Lib.hid hown; have HK := Lib.hid hkx; have HNN := Lib.hid hnn; have HD := Lib.hid hD; have HB := Lib.hid hB; have HTK := Lib.hid htk; have HLT := Lib.hid hlt
      clear hown hkx hnn hD hB htk hlt hxl hx hkC hmem hl hm hus hil
      go_wp2_with (at_mapUpdate; refine wpList_mapUpdate_own _ rfl _ _ _ 86 rfl 3 87 int_key Tryz.underlying86 Go.unitElem w.heap.size nn D rfl HO.out hnn2 _ _ (.int .i64 x) rfl rfl HK.out (.agg []) [] Go.unitElem_mk ?_)
      intro w4 hown4 hgrow4
      have HSET4 := Lib.hid (IntSet.put HK.out HNN.out HO.out.isMap HD.out hown4)
      have HB4 := Lib.hid (HB.out.grown hgrow4 HB.out.size (fun q hq => by injection hq with hq; omega))
      clear hown4 hgrow4 hc hc2
      go_wp2_with fail
      go_roundg (n - (k + 1))
      case rel => exact ⟨k + 1, HLT.out, rfl, by go_num, by rw [HTK.out]; exact HSET4.out, HB4.out⟩
      case measure => have := HLT.out; omega
    · obtain rfl : k = n := by omega
      have t3 : decide (k < k) = false := by simp
      rw [List.take_of_length_le (by rw [HN.out]; omega)] at hset
      have hall : ∀ x ∈ colP C i, In64 x := fun x hx => by
        unfold colP at hx
        obtain ⟨l, hl, rfl⟩ := List.mem_map.1 hx
        have h1 := HLEN.out l hl
        exact HIN.out l hl _ (by simp [List.getD, h1])
      have KC := keys_call (some w.heap.size) wr
      have SC := sorted_call hset hall (by unfold colP; rw [List.length_map, HN.out]; omega)
      have HKC := Lib.hid KC; have HSC := Lib.hid SC; have HB := Lib.hid hB
      clear hset hB KC SC hall hlt
      go_wp2_with fail
      refine HKC.out.mono ?_; rintro e w2 ⟨rfl, hw2⟩
      have HW2 := Lib.hid hw2
      clear hw2
      go_wp2_with fail
      rw [HW2.out]
      refine HSC.out.mono ?_; rintro e w3 ⟨v', rfl, hrow, hb3⟩
      obtain ⟨A3, c3, rfl⟩ := own_form hrow
      have HB3 := Lib.hid (HB.out.trans (hb3.mono HB.out.size))
      have hT' : ofR (colP C i) = T := HT.out
      rw [hT'] at hrow
      rw [HQ.out] at hrow
      rw [hT', HQ.out]
      have HROW : Hid (w3.ownsRow w.heap.size 3 1 (.slice A3 q c3) q (intCells T)) := Lib.hid ⟨hrow.1, hrow.2.imp id (fun ⟨g, cap, cur, e1, e2, e3⟩ => ⟨g, cap, cur, e1, Nat.le_trans HB.out.size e2, e3⟩)⟩
      clear hrow hb3 hT'
      go_wp2_with fail
      go_ret
      exact ⟨_, rfl, HROW.out, HB3.out⟩
end Go.Proofs.YtcmocigckcjdjaaGreatDoor
