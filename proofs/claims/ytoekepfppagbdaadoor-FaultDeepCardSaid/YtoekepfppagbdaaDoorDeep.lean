/- FaultDeep: the walk. -/
import Derived.Test.YtoekepfppagbdaaDoorFirst
namespace Go.Proofs.YtoekepfppagbdaaDoor
open Go.RowKit Go.Extern.Stop Go.Stop Go.Extern

theorem ErrAt.drop {w : World} {n : Nat} {V : Nat → Value} {B : Nat → Nat} {S : Nat → ByteArray} {b : Nat} {c a : Int} {nm : ByteArray} (h : ErrAt w n V B S b c a nm) (d : Nat) (hd : d ≤ n) : ErrAt w (n - d) (fun j => V (d + j)) (fun j => B (d + j)) (fun j => S (d + j)) b c a nm :=
  ⟨⟨fun i hi => h.chain.step (d + i) (by omega), fun i hi => h.chain.word (d + i) (by omega), fun i hi => h.chain.next (d + i) (by omega)⟩, by show V (d + (n - d)) = _; rw [show d + (n - d) = n by omega]; exact h.last, h.cells⟩
theorem lead_const (s : ByteArray) (n : Nat) : (lead (fun _ => s) n).length = n * (s.size + 2) := by
  induction n with
  | zero => simp [lead]
  | succ n ih =>
    have e : s.data.toList.length = s.size := Array.length_toList
    simp only [lead, List.length_append, List.length_cons, List.length_nil, ih, e]
    rw [Nat.add_mul]; omega

theorem ErrAt.dropC {w : World} {n : Nat} {V : Nat → Value} {B : Nat → Nat} {s : ByteArray} {b : Nat} {c a : Int} {nm : ByteArray} (h : ErrAt w n V B (fun _ => s) b c a nm) (d m : Nat) (hd : d ≤ n) (hm : n - d = m) : ∃ (V' : Nat → Value) (B' : Nat → Nat), V' 0 = V d ∧ V' 1 = V (d + 1) ∧ ErrAt w m V' B' (fun _ => s) b c a nm :=
  ⟨fun j => V (d + j), fun j => B (d + j), rfl, rfl, hm ▸ h.drop d hd⟩
theorem text_size (s : ByteArray) (n : Nat) : (⟨(lead (fun _ => s) n ++ (⟨#[120]⟩ : ByteArray).data.toList).toArray⟩ : ByteArray).size = n * (s.size + 2) + 1 := by
  rw [← lead_const s n]
  simp [ByteArray.size]

set_option maxRecDepth 100000 in
set_option maxHeartbeats 4000000 in
theorem deep_law (m c : Int) (s : ByteArray) (w : World) (hg : ErrT w) (m0 : 0 ≤ m) (_m1 : m ≤ 255) :
    Calls Tryd.prog 6 #[.int .u8 m, .string s, .int .i64 c] w fun e w' => e = .returned (.bool true) ∧ Below w.heap.size w w' := by
  have HAL := Lib.hid (alive_ok w hg)
  obtain ⟨k, hk⟩ : ∃ k : Nat, m % 40 = k := ⟨(m % 40).toNat, by omega⟩
  have k1 : k < 40 := by omega
  by_cases hn : s.size ≤ 100
  · have d1 : decide (100 < (s.size : Int)) = false := decide_eq_false (by omega)
    have HNEW := Lib.hid (fun W => new_any c 7 ⟨#[120]⟩ W)
    go_enter Tryd.func6, Tryd.ntmps6
    go_wp2_with fail
    refine HAL.out.mono ?_; rintro e w1 ⟨rfl, hb1⟩
    go_wp2_with (go_at_call 20; fail)
    refine (HNEW.out _).mono ?_; rintro e w2 ⟨rfl, hw2⟩
    have HST : Hid (MadeTo w1 k (fun _ => s) c 7 ⟨#[120]⟩ k w2) := by
      refine Lib.hid ?_
      rw [← hw2]
      exact ⟨by simp, (Below.refl _ _).alloc (Nat.le_refl _) _, World.alloc_heap_new _ _, fun i h1 h2 => by omega⟩
    clear hw2 HAL HNEW
    go_wp2_with fail
    go_loopg [8, 9] k (fun g u x wr => g ≤ k ∧ u = mkV w1.heap.size k g ∧ x = .int .i64 ((k : Int) - g) ∧ MadeTo w1 k (fun _ => s) c 7 ⟨#[120]⟩ g wr)
    case atStart => exact ⟨Nat.le_refl _, by simp [mkV], by first | go_num | simp, HST.out⟩
    case round =>
      obtain ⟨hgn, rfl, rfl, hM⟩ := hrel
      rcases Nat.eq_zero_or_pos gk with rfl | hp
      · have HE := Lib.hid hM.err
        have hbM := hb1.trans (hM.below.mono hb1.size)
        have hgM := hg.below hbM (Nat.le_refl _)
        have d2 : decide (((k : Int) - ((0 : Nat) : Int)) < k) = false := by simp
        have ek : ((k : Int) - ((0 : Nat) : Int)) = k := by simp
        rw [ek]
        have d3 : decide ((k : Int) < k) = false := by simp
        clear hM d2 ek
        have W1 := Lib.hid (fun W (h : Below wr.heap.size wr W) => words_chain W (hgM.below h (Nat.le_refl _)) (show k ≤ 100000 by omega) (HE.out.below h (Nat.le_refl _)))
        have C1 := Lib.hid (fun W (h : Below wr.heap.size wr W) => code_chain W (hgM.below h (Nat.le_refl _)) (HE.out.below h (Nat.le_refl _)))
        have A1 := Lib.hid (fun W (h : Below wr.heap.size wr W) => at_chain W (hgM.below h (Nat.le_refl _)) (HE.out.below h (Nat.le_refl _)))
        obtain ⟨T1, x1, e1⟩ := mkV_form w1.heap.size k 0
        have E1 := Lib.hid e1
        rw [e1] at W1 C1 A1 ⊢
        have dn : ((k : Int) != k) = false := by simp
        have dc : (c != c) = false := by simp
        clear e1
        go_wp2_with fail
        refine (W1.out wr (Below.refl _ _)).mono ?_; rintro e w3 ⟨v3, rfl, hv3, hb3⟩
        obtain ⟨ao3, cap3, rfl⟩ := hv3.form
        clear hv3
        go_wp2_with fail
        refine (C1.out w3 hb3).mono ?_; rintro e w4 ⟨rfl, hb4⟩
        have D4 := hb3.trans (hb4.mono hb3.size)
        go_wp2_with fail
        refine (A1.out w4 D4).mono ?_; rintro e w5 ⟨rfl, hb5⟩
        have D5 := D4.trans (hb5.mono D4.size)
        clear W1 C1 A1 hb3 hb4 hb5 D4
        go_wp2_with fail
        have hsz0 := D5.size
        have hwM : ∃ wM, wM = wr := ⟨_, rfl⟩
        obtain ⟨wM, rfl⟩ := hwM
        go_loopg [8, 10] k (fun g u x wx => g ≤ k ∧ u = mkV w1.heap.size k (k - g) ∧ x = .int .i64 (g : Int) ∧ Below wM.heap.size wM wx)
        case atStart => exact ⟨Nat.le_refl _, by rw [Nat.sub_self]; exact E1.out.symm, rfl, D5⟩
        case round =>
          obtain ⟨hgk, rfl, rfl, hbx⟩ := hrel
          have hE2 := HE.out.below hbx (Nat.le_refl _)
          have hg2 := hgM.below hbx (Nat.le_refl _)
          rcases Nat.eq_zero_or_pos gk with rfl | hp
          · obtain ⟨V', B', e0, _, hD⟩ := hE2.dropC k 0 (Nat.le_refl _) (by omega)
            have ef : V' 0 = .iface 32 (.pointer (some ⟨w1.heap.size, 0, none⟩)) := hD.last
            have ek : mkV w1.heap.size k (k - 0) = .iface 32 (.pointer (some ⟨w1.heap.size, 0, none⟩)) := by rw [Nat.sub_zero, ← e0]; exact ef
            rw [ek]
            have T1c := Lib.hid (fun W (h : Below wr.heap.size wr W) => text_chain W (hg2.below h (Nat.le_refl _)) (by omega) (hD.below h (Nat.le_refl _)) (by show ([] : List UInt8).length + 1 ≤ 140737488355328; decide))
            have U1c := Lib.hid (fun W => unwrap_fault (.pointer (some ⟨w1.heap.size, 0, none⟩)) W)
            have I1c := Lib.hid (fun W (h : Below wr.heap.size wr W) => faultIs_chain c W (hD.below h (Nat.le_refl _)))
            have et : ((lead (fun _ => s) 0 ++ (⟨#[120]⟩ : ByteArray).data.toList).toArray : Array UInt8) = #[120] := rfl
            have dcc : decide (c = c) = true := by simp
            rw [ef, et] at T1c
            rw [ef, dcc] at I1c
            clear e0 ef ek et hD hE2 dcc
            go_wp2_with fail
            refine (T1c.out wr (Below.refl _ _)).mono ?_; rintro e w6 ⟨rfl, hb6⟩
            go_wp2_with fail
            refine (U1c.out w6).mono ?_; rintro e w7 ⟨rfl, rfl⟩
            go_wp2_with fail
            refine (I1c.out w6 hb6).mono ?_; rintro e w8 ⟨rfl, hb8⟩
            go_wp2_with fail
            go_ret
            have D8 := hbx.trans ((hb6.trans (hb8.mono hb6.size)).mono hbx.size)
            exact ⟨rfl, hbM.trans (D8.mono hbM.size)⟩
          · obtain ⟨i, rfl⟩ : ∃ i, gk = i + 1 := ⟨gk - 1, by omega⟩
            obtain ⟨d, hd⟩ : ∃ d, k - (i + 1) = d := ⟨_, rfl⟩
            obtain ⟨V', B', e0, e1', hD⟩ := hE2.dropC d (i + 1) (by omega) (by omega)
            obtain ⟨b1, hb1'⟩ : ∃ b1, B' 0 = b1 := ⟨_, rfl⟩
            have ef := hD.chain.step 0 (by omega)
            have hnx := hD.chain.next 0 (by omega)
            rw [hb1'] at ef hnx
            rw [show (0 : Nat) + 1 = 1 from rfl, e1'] at hnx
            obtain ⟨T2, x2, e2⟩ := mkV_form w1.heap.size k (d + 1)
            have E2 : Hid (.iface T2 x2 = mkV w1.heap.size k (k - i)) := Lib.hid (by rw [← e2, show d + 1 = k - i by omega])
            rw [e2] at hnx
            rw [hd, ← e0, ef]
            have hsm : (i + 1) * (s.size + 2) ≤ 4080 := Nat.le_trans (Nat.mul_le_mul (show i + 1 ≤ 40 by omega) (show s.size + 2 ≤ 102 by omega)) (by decide)
            have W2c := Lib.hid (fun W (h : Below wr.heap.size wr W) => words_chain W (hg2.below h (Nat.le_refl _)) (show i + 1 ≤ 100000 by omega) (hD.below h (Nat.le_refl _)))
            have T2c := Lib.hid (fun W (h : Below wr.heap.size wr W) => text_chain W (hg2.below h (Nat.le_refl _)) (show i + 1 ≤ 100000 by omega) (hD.below h (Nat.le_refl _)) (by rw [lead_const]; show (i + 1) * (s.size + 2) + 1 ≤ 140737488355328; omega))
            have U2c := Lib.hid (fun W (h : Below wr.heap.size wr W) => unwrap_step b1 (.iface T2 x2) W ((h.cell (p := ⟨b1, 1, none⟩) (World.block_lt_of_cell? _ _ hnx)).trans hnx))
            have htz := text_size s (i + 1)
            obtain ⟨tx, htx⟩ : ∃ tx, (⟨(lead (fun _ => s) (i + 1) ++ (⟨#[120]⟩ : ByteArray).data.toList).toArray⟩ : ByteArray) = tx := ⟨_, rfl⟩
            rw [ef] at W2c
            rw [ef, htx] at T2c
            rw [htx] at htz
            obtain ⟨L, hL⟩ : ∃ L : Int, ((i : Int) + 1) * ((s.size : Int) + 2) = L := ⟨_, rfl⟩
            have hLn : ((tx.size : Nat) : Int) = L + 1 := by rw [htz, ← hL]; push_cast; rfl
            have hL0 : 0 ≤ L ∧ L ≤ 4080 := by rw [← hL]; constructor; exact Int.mul_nonneg (by omega) (by omega); exact_mod_cast hsm
            have HBX := Lib.hid hbx
            clear e0 e1' hD hE2 e2 ef hnx hb1' htz htx hsm hd hbx
            have dz : (((i : Int) + 1) != ((i : Int) + 1)) = false := by simp
            have ci : ((i + 1 : Nat) : Int) = (i : Int) + 1 := by omega
            rw [ci]
            clear ci
            have HL0 := hL0.1
            have HL1 := hL0.2
            have dL : ((L + 1) != (L + 1)) = false := by simp
            clear hL0
            go_wp2_with fail
            refine (W2c.out wr (Below.refl _ _)).mono ?_; rintro e w6 ⟨v6, rfl, hv6, hb6⟩
            obtain ⟨ao6, cap6, rfl⟩ := hv6.form
            clear hv6
            go_wp2_with fail
            refine (T2c.out w6 hb6).mono ?_; rintro e w7 ⟨rfl, hb7⟩
            have D7 := hb6.trans (hb7.mono hb6.size)
            go_wp2_with fail
            refine (U2c.out w7 D7).mono ?_; rintro e w8 ⟨rfl, rfl⟩
            go_wp2_with fail
            go_roundg i
            case rel => exact ⟨by omega, E2.out, rfl, HBX.out.trans (D7.mono HBX.out.size)⟩
            case measure => omega
      · obtain ⟨m1, rfl⟩ : ∃ m1, gk = m1 + 1 := ⟨gk - 1, by omega⟩
        have d2 : decide (((k : Int) - ((m1 + 1 : Nat) : Int)) < k) = true := decide_eq_true (by omega)
        have HN := Lib.hid (hM.next (by omega))
        obtain ⟨T, x, hx⟩ := mkV_form w1.heap.size k (m1 + 1)
        rw [hx] at HN ⊢
        have HIN := Lib.hid (in_any s T x wr)
        have HV : Hid (mkV w1.heap.size k m1 = .iface 75 (.pointer (some ⟨wr.heap.size, 0, none⟩))) := Lib.hid (by have hsz := hM.size; rw [mkV, if_pos (by omega), hsz, show w1.heap.size + 1 + (k - (m1 + 1)) = w1.heap.size + (k - m1) by omega])
        clear hM hx
        obtain ⟨z, hz⟩ : ∃ z, (k : Int) - ((m1 + 1 : Nat) : Int) = z := ⟨_, rfl⟩
        have z0 : 0 ≤ z := by omega
        have z1 : z < k := by omega
        have HZ : Hid (z + 1 = (k : Int) - (m1 : Int)) := Lib.hid (by omega)
        rw [hz] at d2 ⊢
        clear hz
        go_wp2_with (go_at_call 18; fail)
        refine HIN.out.mono ?_; rintro ev w3 ⟨rfl, hw3⟩
        rw [hw3] at HN
        clear hw3
        go_wp2_with fail
        go_roundg m1
        case rel => exact ⟨by omega, HV.out.symm, by rw [← HZ.out], HN.out⟩
        case measure => omega
  · have d1 : decide (100 < (s.size : Int)) = true := decide_eq_true (by omega)
    go_enter Tryd.func6, Tryd.ntmps6
    go_wp2_with fail
    refine HAL.out.mono ?_; rintro e w1 ⟨rfl, hb1⟩
    go_wp2_with fail
    go_ret
    exact ⟨rfl, hb1⟩
end Go.Proofs.YtoekepfppagbdaaDoor
