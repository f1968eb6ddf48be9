/- wire.Unpack: the contract. -/
import Derived.Test.YtkpoeahnlldpgaaDoorPack
import Derived.Laws.IdiomStrings
import Derived.WalkSpells
import Derived.Deep.RegionWith
namespace Go.Proofs.YtkpoeahnlldpgaaDoor
open Go.RowKit

theorem BytesV.cells {w : World} {A : Option Addr} {n c : Nat} {l : List UInt8} (h : BytesV w (.slice A n c) l) (h0 : 0 < l.length) : n = l.length ∧ l.length ≤ c ∧ ∃ b off, A = some ⟨b, off, none⟩ ∧ ∀ i, i < l.length → w.cell? ⟨b, off + i, none⟩ = some (.int .u8 ((l.getD i 0).toNat : Int)) := by
  obtain ⟨A', c', e, hc, hr⟩ := h
  injection e with e1 e2 e3
  subst e1 e2 e3
  exact ⟨rfl, hc, hr h0⟩
theorem window {w : World} {b off : Nat} {l : List UInt8} (hc : ∀ i, i < l.length → w.cell? ⟨b, off + i, none⟩ = some (.int .u8 ((l.getD i 0).toNat : Int))) (i j c' : Nat) (hij : i ≤ j) (hj : j ≤ l.length) (hcc : j - i ≤ c') : BytesV w (.slice (some ⟨b, off + i, none⟩) (j - i) c') ((l.take j).drop i) := by
  have hlen : ((l.take j).drop i).length = j - i := by rw [List.length_drop, List.length_take]; omega
  refine ⟨some ⟨b, off + i, none⟩, c', by rw [hlen], by rw [hlen]; exact hcc, fun _ => ⟨b, off + i, rfl, fun t ht => ?_⟩⟩
  rw [hlen] at ht
  rw [Nat.add_assoc, hc (i + t) (by omega)]
  have e : ((l.take j).drop i).getD t 0 = l.getD (i + t) 0 := by
    simp [List.getD, List.getElem?_drop, show i + t < j by omega]
  rw [e]

/-- What is wrong with a parcel: its code. -/
def up (l : List UInt8) : Option Int :=
  if l.length < 4 ∨ l.take 4 ≠ [70, 87, 82, 75] then some 2
  else if l.length < 13 then some 9
  else if l.length - 13 < num ((l.take 9).drop 5) then some 9
  else if num ((l.take 9).drop 5) < l.length - 13 then some 2
  else if asum (l.take (l.length - 4)) ≠ num (l.drop (l.length - 4)) then some 8
  else none
/-- A fault of a code at place 0. -/
def FaultOf (c : Int) (w : World) (v : Value) : Prop := ∃ b : Nat, v = .iface 68 (.pointer (some ⟨b, 0, none⟩)) ∧ w.cell? ⟨b, 0, none⟩ = some (.int .i64 c)
def UnpackTells (l : List UInt8) (w : World) (e : Ending) (w' : World) : Prop :=
  (∀ c, up l = some c → ∃ v, e = .returned (.tuple #[.int .u8 0, .slice none 0 0, v]) ∧ FaultOf c w' v) ∧
  (up l = none → ∃ v, e = .returned (.tuple #[.int .u8 ((l.getD 4 0).toNat : Int), v, .nilIface]) ∧ w'.ownsRow w.heap.size 5 1 v (l.length - 13) (Lib.byteCells ((l.take (l.length - 4)).drop 9))) ∧ Below w.heap.size w w'
theorem tells_fault {l : List UInt8} {w : World} {c a : Int} {s : ByteArray} (h : up l = some c) (d : Nat) : UnpackTells l w (.returned (.tuple #[.int .u8 0, .slice none 0 0, .iface 68 (.pointer (some ⟨w.heap.size, 0, none⟩))])) ((w.drewN d).alloc (.cells #[.int .i64 c, .int .i64 a, .string s] 71)) := by
  refine ⟨fun c' h' => ⟨_, rfl, w.heap.size, rfl, ?_⟩, fun h' => ?_, (below_drewN' (Below.refl _ _) d).alloc (Nat.le_refl _) _⟩
  · rw [h] at h'
    injection h' with h'
    subst h'
    have := (Whole.new (w.drewN d) 71 #[.int .i64 c, .int .i64 a, .string s]).cell 0
    simpa using this
  · rw [h] at h'
    cases h'

set_option maxRecDepth 100000 in
set_option maxHeartbeats 1000000 in
theorem unpack_short (l : List UInt8) (v : Value) (w : World) (h : BytesV w v l) (hl : l.length < 4) :
    Calls Tryd.prog 31 #[v] w (UnpackTells l w) := by
  obtain ⟨A, c, rfl, _⟩ := h.form
  have HU : Hid (up l = some 2) := Lib.hid (by unfold up; rw [if_pos (Or.inl hl)])
  have t1 : decide ((l.length : Int) < 4) = true := decide_eq_true (by omega)
  clear h
  go_enter Tryd.func31, Tryd.ntmps31
  go_wp2_with fail
  refine (new_any _ _ _ _).mono ?_; rintro e w1 ⟨rfl, rfl⟩
  go_wp2_with fail
  go_ret3
  exact tells_fault HU.out 0

set_option maxRecDepth 100000 in
set_option maxHeartbeats 1000000 in
theorem unpack_mark (l : List UInt8) (v : Value) (w : World) (h : BytesV w v l) (hl : ¬ l.length < 4) (hm : l.take 4 ≠ [70, 87, 82, 75]) :
    Calls Tryd.prog 31 #[v] w (UnpackTells l w) := by
  obtain ⟨A, c, rfl, _⟩ := h.form
  obtain ⟨_, hcap, b, off, rfl, hc⟩ := h.cells (by omega)
  have HU : Hid (up l = some 2) := Lib.hid (by unfold up; rw [if_pos (Or.inr hm)])
  have t1 : decide ((l.length : Int) < 4) = false := decide_eq_false (by omega)
  have hw := window hc 0 4 c (by omega) (by omega) (by omega)
  have kc := run_convert_bytes_back (P := Tryd.prog) w 27 9 5 ⟨b, off, none⟩ c (l.take 4) Tryd.underlying27 Tryd.underlying5 Tryd.underlying9 (fun j hj => by
    have hj4 : j < 4 := by rw [List.length_take] at hj; omega
    have e2 : (⟨b, off, none⟩ : Addr).add j = ⟨b, off + j, none⟩ := by unfold Addr.add; split <;> simp_all
    rw [e2, hc j (by omega)]
    simp [List.getD, show j < l.length by omega])
  have h4 : (l.take 4).length = 4 := by rw [List.length_take]; omega
  rw [h4] at kc
  obtain ⟨s, hs⟩ : ∃ s : ByteArray, (⟨(l.take 4).toArray⟩ : ByteArray) = s := ⟨_, rfl⟩
  rw [hs] at kc
  have t2 : (s.toList == [70, 87, 82, 75]) = false := by
    rw [← hs, ByteArray.toList_mk]
    simpa using hm
  clear h hw hs hm hc
  go_enter Tryd.func31, Tryd.ntmps31
  go_wp2_with fail
  refine (new_any _ _ _ _).mono ?_; rintro e w1 ⟨rfl, rfl⟩
  go_wp2_with fail
  go_ret3
  exact tells_fault HU.out 0

theorem quiet_same {P : Program} {f : FuncId} {args : Array Value} {w : World} {v : Value} (h : ∀ d, Calls P f args (w.drewN d) fun e w' => e = .returned v ∧ w' = w.drewN d) (n : Nat) : Calls P f args (w.drewN n) fun e w'' => e = .returned v ∧ ∃ m, w'' = w.drewN m :=
  Calls.quiet_of_same (h n)

set_option maxRecDepth 100000 in
set_option maxHeartbeats 4000000 in
theorem unpack_good (l : List UInt8) (v : Value) (w : World) (h : BytesV w v l) (hl : ¬ l.length < 4) (hm : l.take 4 = [70, 87, 82, 75]) (hbig : l.length ≤ 100000000) :
    Calls Tryd.prog 31 #[v] w (UnpackTells l w) := by
  obtain ⟨A, c, rfl, _⟩ := h.form
  obtain ⟨_, hcap, b, off, rfl, hc⟩ := h.cells (by omega)
  have t1 : decide ((l.length : Int) < 4) = false := decide_eq_false (by omega)
  have kc := run_convert_bytes_back (P := Tryd.prog) w 27 9 5 ⟨b, off, none⟩ c (l.take 4) Tryd.underlying27 Tryd.underlying5 Tryd.underlying9 (fun j hj => by
    have hj4 : j < 4 := by rw [List.length_take] at hj; omega
    have e2 : (⟨b, off, none⟩ : Addr).add j = ⟨b, off + j, none⟩ := by unfold Addr.add; split <;> simp_all
    rw [e2, hc j (by omega)]
    simp [List.getD, show j < l.length by omega])
  have h4 : (l.take 4).length = 4 := by rw [List.length_take]; omega
  rw [h4] at kc
  obtain ⟨s, hs⟩ : ∃ s : ByteArray, (⟨(l.take 4).toArray⟩ : ByteArray) = s := ⟨_, rfl⟩
  rw [hs] at kc
  have t2 : (s.toList == [70, 87, 82, 75]) = true := by
    rw [← hs, ByteArray.toList_mk]
    simpa using hm
  have hu1 : ¬ (l.length < 4 ∨ l.take 4 ≠ [70, 87, 82, 75]) := by
    rintro (h | h)
    · exact hl h
    · exact h hm
  by_cases h13 : l.length < 13
  · have t3 : decide ((l.length : Int) < 13) = true := decide_eq_true (by omega)
    have HU : Hid (up l = some 9) := Lib.hid (by unfold up; rw [if_neg hu1, if_pos h13])
    clear h hs hm hc hu1
    go_enter Tryd.func31, Tryd.ntmps31
    go_wp2_with fail
    refine (new_any _ _ _ _).mono ?_; rintro e w1 ⟨rfl, rfl⟩
    go_wp2_with fail
    go_ret3
    exact tells_fault HU.out 0
  · have t3 : decide ((l.length : Int) < 13) = false := decide_eq_false (by omega)
    obtain ⟨n, hn⟩ : ∃ n, l.length = n := ⟨_, rfl⟩
    obtain ⟨en, hen⟩ : ∃ en : Nat, (n : Int) - 4 = en := ⟨n - 4, by omega⟩
    obtain ⟨bo, hbo⟩ : ∃ bo : Nat, (en : Int) - 9 = bo := ⟨n - 13, by omega⟩
    have W1 := Lib.hid (window hc 5 9 (c - 5) (by omega) (by omega) (by omega))
    have W2 := Lib.hid (window hc 0 en c (by omega) (by omega) (by omega))
    have W3 := Lib.hid (window hc en n (c - en) (by omega) (by omega) (by omega))
    have W4 := Lib.hid (window hc 9 en (c - 9) (by omega) (by omega) (by omega))
    have hc4 := hc 4 (by omega)
    obtain ⟨N, hN⟩ : ∃ N, num ((l.take 9).drop 5) = N := ⟨_, rfl⟩
    have hN1 := num_lt 4 ((l.take 9).drop 5) (by rw [List.length_drop, List.length_take]; omega)
    rw [hN] at hN1
    have G1 := Lib.hid (get_any _ _ w W1.out (by rw [List.length_drop, List.length_take]; omega))
    rw [hN] at G1
    have hen' : en = n - 4 := by omega
    have hbo' : bo = n - 13 := by omega
    rw [hn] at t1 t3 hcap
    have HN := Lib.hid hN; have HNN := Lib.hid hn; have HEN := Lib.hid hen'; have HBO := Lib.hid hbo'; have HU1 := Lib.hid hu1; have H13 := Lib.hid h13; have HC := Lib.hid hc
    have hcn : ((c : Int) < n) = False := by simp; omega
    clear h hs hm hc hu1 hN hen' hbo' h13
    rw [hn]
    have hnb : n ≤ 100000000 := by have := HNN.out; omega
    have heb : en ≤ 100000000 := by have := HEN.out; omega
    have heb2 : (9 : Int) ≤ en := by have := HEN.out; have := H13.out; have := HNN.out; omega
    have hn4 : 13 ≤ n := by have := H13.out; have := HNN.out; omega
    clear hn
    have N1 : N < 4294967296 := by omega
    clear hN1
    by_cases hgt : bo < N
    · have t4 : decide ((bo : Int) < N) = true := decide_eq_true (by omega)
      have t4' : decide (bo < N) = true := decide_eq_true (by omega)
      have HU : Hid (up l = some 9) := Lib.hid (by unfold up; rw [if_neg HU1.out, if_neg H13.out, HN.out, HNN.out, if_pos (by have := HBO.out; omega)])
      clear hgt
      go_enter Tryd.func31, Tryd.ntmps31
      go_wp2_with fail
      refine G1.out.mono ?_; rintro e w1 ⟨rfl, hw1⟩; obtain rfl := hw1.symm
      go_wp2_with fail
      refine (new_any _ _ _ _).mono ?_; rintro e w2 ⟨rfl, rfl⟩
      go_wp2_with fail
      go_ret3
      exact tells_fault HU.out 0
    · by_cases hlt : N < bo
      · have t4 : decide ((bo : Int) < N) = false := decide_eq_false (by omega)
        have t5 : decide ((N : Int) < bo) = true := decide_eq_true (by omega)
        have t4' : decide (bo < N) = false := decide_eq_false (by omega)
        have t5' : decide (N < bo) = true := decide_eq_true (by omega)
        have HU : Hid (up l = some 2) := Lib.hid (by
          have := HBO.out
          unfold up
          rw [if_neg HU1.out, if_neg H13.out, HN.out, HNN.out, if_neg (by omega), if_pos (by omega)])
        clear hgt hlt
        go_enter Tryd.func31, Tryd.ntmps31
        go_wp2_with fail
        refine G1.out.mono ?_; rintro e w1 ⟨rfl, hw1⟩; obtain rfl := hw1.symm
        go_wp2_with fail
        refine (new_any _ _ _ _).mono ?_; rintro e w2 ⟨rfl, rfl⟩
        go_wp2_with fail
        go_ret3
        exact tells_fault HU.out 0
      · obtain rfl : N = bo := by omega
        have t4' : decide (N < N) = false := by simp
        have S1 := Lib.hid (fun d => sum_any _ _ (w.drewN d) (W2.out.drewN d) (by rw [List.length_drop, List.length_take]; omega))
        have G2 := Lib.hid (fun d => get_any _ _ (w.drewN d) (W3.out.drewN d) (by rw [List.length_drop, List.length_take]; have := HEN.out; omega))
        have hpre : up l = if asum (l.take (l.length - 4)) ≠ num (l.drop (l.length - 4)) then some 8 else none := by
          have := HBO.out
          unfold up
          rw [if_neg HU1.out, if_neg H13.out, HN.out, if_neg (by have := HNN.out; omega), if_neg (by have := HNN.out; omega)]
        rw [HNN.out, ← HEN.out] at hpre
        have e1 : (l.take en).drop 0 = l.take en := by simp
        have e2 : (l.take n).drop en = l.drop en := by rw [List.take_of_length_le (by have := HNN.out; omega)]
        rw [e1] at S1
        rw [e2] at G2
        have a1 := asum_lt (l.take en)
        have a2 := num_lt 4 (l.drop en) (by rw [List.length_drop]; have := HNN.out; have := HEN.out; omega)
        obtain ⟨x, hx⟩ : ∃ x, asum (l.take en) = x := ⟨_, rfl⟩
        obtain ⟨y, hy⟩ : ∃ y, num (l.drop en) = y := ⟨_, rfl⟩
        rw [hx] at S1 a1 hpre
        rw [hy] at G2 a2 hpre
        have HPRE := Lib.hid hpre
        have a2' : y < 4294967296 := by omega
        have en1 : (en : Int) ≤ n := by have := HEN.out; omega
        have en2 : (en : Int) ≤ c := by have := HEN.out; omega
        have en3 : ¬ c = en := by have := HEN.out; omega
        have n9 : ¬ c = 9 := by omega
        clear hpre e1 e2 hx hy a2 hgt hlt
        by_cases hxy : x = y
        · subst hxy
          have t6 : (x != x) = false := by simp
          go_enter Tryd.func31, Tryd.ntmps31
          go_wp2_with fail
          refine G1.out.mono ?_; rintro e w1 ⟨rfl, hw1⟩; obtain rfl := hw1.symm
          go_wp2_with fail
          go_quiet ((first | (go_at_call 33; with_reducible exact Calls.quiet_of_same (S1.out _)) | (go_at_call 43; with_reducible exact Calls.quiet_of_same (G2.out _))))
          go_wp2_with fail
          have hlb : b < w.heap.size := World.block_lt_of_cell? _ _ hc4
          have CL := Lib.hid (fun W (hb : Below w.heap.size w W) => clone_any ((l.take en).drop 9) _ W (W4.out.below hb (Nat.le_refl _)) (by rw [List.length_drop, List.length_take]; omega))
          obtain ⟨k4, hk4⟩ : ∃ k4 : Int, ((l.getD 4 0).toNat : Int) = k4 := ⟨_, rfl⟩
          rw [hk4] at hc4
          have HK4 := Lib.hid hk4
          clear hk4 kc S1 G1 G2
          go_region_with ((go_at_call 37
                           refine (CL.out _ (below_drewN' (Below.refl _ _) _)).mono ?_
                           rintro e' w3 ⟨v3, rfl, hown3', hb3'⟩
                           have hb3 : Below w.heap.size w w3 := ⟨hb3'.os, hb3'.tape, hb3'.output, hb3'.size, hb3'.block⟩
                           have hown3 : w3.ownsRow w.heap.size 5 1 v3 ((l.take en).drop 9).length (Lib.byteCells ((l.take en).drop 9)) := hown3'
                           have d4 := (hb3.cell (p := ⟨b, off + 4, none⟩) hlb).trans hc4
                           have HB3 := Lib.hid hb3
                           have HO3 := Lib.hid hown3
                           clear hb3' hb3 hown3' hown3))
          all_goals
            go_wp2
            go_ret3
            refine ⟨fun c' h' => ?_, fun _ => ⟨v3, by rw [HK4.out]; rfl, ?_⟩, ?_⟩
            · have := HPRE.out; simp at this; rw [this] at h'; cases h'
            · rw [HNN.out, ← HEN.out]
              have := HO3.out
              rw [List.length_drop, List.length_take, show min en l.length - 9 = n - 13 by have := HNN.out; have := HEN.out; omega] at this
              exact this
            · exact HB3.out
        · have t6 : (x != y) = true := by simpa using hxy
          have HU : Hid (up l = some 8) := Lib.hid (by rw [HPRE.out, if_pos hxy])
          go_enter Tryd.func31, Tryd.ntmps31
          go_wp2_with fail
          refine G1.out.mono ?_; rintro e w1 ⟨rfl, hw1⟩; obtain rfl := hw1.symm
          go_wp2_with fail
          go_quiet ((first | (go_at_call 33; with_reducible exact Calls.quiet_of_same (S1.out _)) | (go_at_call 43; with_reducible exact Calls.quiet_of_same (G2.out _))))
          go_wp2_with fail
          refine (new_any _ _ _ _).mono ?_; rintro e w2 ⟨rfl, rfl⟩
          go_wp2_with fail
          go_ret3
          exact tells_fault HU.out _
end Go.Proofs.YtkpoeahnlldpgaaDoor
