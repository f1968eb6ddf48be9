/- The document's numbers. The document's Print of a graph. Numbers appended at a step of a region that draws. The document's Pack of a graph. Written by gen_refp05.py. -/
import Derived.Test.YtnjkjgmnnmgngaaGreatDoorJ3
import Derived.BigQuiet
import Derived.Deep.QuietTactic
import Derived.WalkSmall
import Derived.WalkSpells
import Derived.Test.YtnjkjgmnnmgngaaGreatDoorJ14
import Derived.RegionTactic
import Derived.Deep.AppendLies
import Derived.Test.YtnjkjgmnnmgngaaGreatDoorJ11
namespace Go.Proofs.YtnjkjgmnnmgngaaGreatDoor
section
open Go.RowKit

theorem conv1 (w : World) (n : Nat) (hn : n ≤ 9) : (convert 22 9 (.slice (some ⟨w.heap.size, 0, none⟩) 1 1)).run Tryz.prog (w.alloc (.cells #[.int .u8 (48 + (n : Int))] 5)) = .ok (.string (str [UInt8.ofNat (48 + n)])) (w.alloc (.cells #[.int .u8 (48 + (n : Int))] 5)) := by
  refine run_convert_bytes_back _ 22 9 5 ⟨w.heap.size, 0, none⟩ 1 [UInt8.ofNat (48 + n)] Tryz.underlying22 Tryz.underlying5 Tryz.underlying9 (fun j hj => ?_)
  obtain rfl : j = 0 := by simpa using hj
  have e : (([UInt8.ofNat (48 + n)] : List UInt8)[0]).toNat = 48 + n := by
    show (UInt8.ofNat (48 + n)).toNat = _
    rw [UInt8.toNat_ofNat']
    omega
  have hc : (w.alloc (.cells #[.int .u8 (48 + (n : Int))] 5)).cell? ⟨w.heap.size, 0, none⟩ = _ := (Whole.new w 5 #[.int .u8 (48 + (n : Int))]).cell 0
  rw [e]
  exact hc
set_option maxRecDepth 100000 in
set_option maxHeartbeats 4000000 in
theorem num_any : ∀ (n : Nat), n ≤ 9999999 → ∀ (w : World), Calls Tryz.prog 24 #[.int .i64 n] w fun e w' => e = .returned (.string (str (Lib.decDigits n))) ∧ Below w.heap.size w w' := by
  intro n
  induction n using Nat.strongRecOn with
  | _ n ih =>
    intro hn w
    by_cases h9 : n ≤ 9
    · have HB : Hid (Below w.heap.size w (w.alloc (.cells #[.int .u8 (48 + (n : Int))] 5))) := Lib.hid ((Below.refl _ _).alloc (Nat.le_refl _) _)
      have cv := conv1 w n h9
      have t1 : decide ((9 : Int) < n) = false := decide_eq_false (by omega)
      have t1' : decide (9 < n) = false := decide_eq_false (by omega)
      have hd1 := Lib.decDigits_one (show n < 10 by omega)
      obtain ⟨u, hu⟩ : ∃ u, UInt8.ofNat (48 + n) = u := ⟨_, rfl⟩
      rw [hu] at cv hd1
      have HD := Lib.hid hd1
      clear hu hd1
      clear ih
      go_enter Tryz.func24, Tryz.ntmps24
      go_wp2_with fail
      go_ret
      exact ⟨by rw [HD.out]; rfl, HB.out⟩
    · have H1 := Lib.hid (ih (n / 10) (by omega) (by omega))
      have H2 := Lib.hid (ih (n % 10) (by omega) (by omega))
      have hdec : Lib.decDigits n = Lib.decDigits (n / 10) ++ Lib.decDigits (n % 10) := by
        rw [Lib.decDigits, dif_neg (by omega), Lib.decDigits_one (Nat.mod_lt n (by decide))]
      have HD := Lib.hid hdec
      have q1 : Int.tdiv (n : Int) 10 = ((n / 10 : Nat) : Int) := rfl
      have q2 : Int.tmod (n : Int) 10 = ((n % 10 : Nat) : Int) := rfl
      obtain ⟨a, ha⟩ : ∃ a, n / 10 = a := ⟨_, rfl⟩
      obtain ⟨b, hb⟩ : ∃ b, n % 10 = b := ⟨_, rfl⟩
      have ha7 : a ≤ 999999 := by omega
      have hb7 : b ≤ 9 := by omega
      have hl1 := (dec_len_iff a 7 (by decide)).2 (by omega)
      have hl2 := (dec_len_iff b 7 (by decide)).2 (by omega)
      rw [ha] at q1 H1 HD
      rw [hb] at q2 H2 HD
      obtain ⟨da, hda⟩ : ∃ d, Lib.decDigits a = d := ⟨_, rfl⟩
      obtain ⟨db, hdb⟩ : ∃ d, Lib.decDigits b = d := ⟨_, rfl⟩
      rw [hda] at H1 HD hl1
      rw [hdb] at H2 HD hl2
      have s1 : (str da).size ≤ 7 := hl1
      have s2 : (str db).size ≤ 7 := hl2
      have t1 : decide ((9 : Int) < n) = true := decide_eq_true (by omega)
      have t1' : decide (9 < n) = true := decide_eq_true (by omega)
      clear ih hdec ha hb hda hdb hl1 hl2
      go_enter Tryz.func24, Tryz.ntmps24
      go_wp2_with fail
      refine (H1.out w).mono ?_; rintro e w1 ⟨rfl, hb1⟩
      have HB1 := Lib.hid hb1
      clear hb1
      go_wp2_with fail
      refine (H2.out w1).mono ?_; rintro e w2 ⟨rfl, hb2⟩
      have HB2 := Lib.hid (HB1.out.trans (hb2.mono HB1.out.size))
      clear hb2
      go_wp2_with fail
      go_ret
      exact ⟨by rw [HD.out, ← str_append]; rfl, HB2.out⟩
end

section
open Go.RowKit

theorem num_I (x : Int) (h0 : 0 ≤ x) (h1 : x ≤ 9999999) (w : World) : Calls Tryz.prog 24 #[.int .i64 x] w fun e w' => e = .returned (.string (str (decI x))) ∧ Below w.heap.size w w' := by
  have k := num_any x.toNat (by omega) w
  rw [Int.toNat_of_nonneg h0] at k
  exact k
/-- Where the document's graph lies. -/
theorem seq_at {w : World} {A : Option Addr} {n c k : Nat} {L : List Int} (h : SeqV w (.slice A n c) L) (hk : k < L.length) : ∃ b off, A = some ⟨b, off, none⟩ ∧ w.cell? ⟨b, off + k, none⟩ = some (.int .i64 (L.getD k 0)) := by
  rcases h with ⟨h0, _⟩ | ⟨_, b, off, c', e, hc⟩
  · omega
  · injection e with e1 _ _
    exact ⟨b, off, e1, hc k hk⟩
set_option maxRecDepth 100000 in
set_option maxHeartbeats 8000000 in
theorem refPrint_any (L : List Int) (S : List (Int × Int)) (vl ve : Value) (w : World) (hl : SeqV w vl L) (he : EdgesV w ve S) (hs : Small L S) :
    Calls Tryz.prog 17 #[.agg #[vl, ve]] w fun e w' => e = .returned (.string (str (graphT L S))) ∧ Below w.heap.size w w' := by
  obtain ⟨Al, cl, rfl⟩ := IntsV.form hl
  obtain ⟨Ae, ce, rfl⟩ := he.form
  have hb1 : Below w.heap.size w (w.alloc (.cells #[.slice Al L.length cl, .slice Ae S.length ce] 36)) := (Below.refl _ _).alloc (Nat.le_refl _) _
  have hx := Whole.new w 36 #[.slice Al L.length cl, .slice Ae S.length ce]
  have hl1 := hl.below hb1 (Nat.le_refl _)
  have he1 := he.below hb1 (Nat.le_refl _)
  have HLN : Hid (∀ k, (vLines 0 (L.take k)).length ≤ 100000) := Lib.hid (fun k => by
    have h1 := vLines_len (L.take k) 0 (by rw [List.length_take]; have := hs.n; omega) (fun x hx => by have := (hs.l x (List.mem_of_mem_take hx)).2; omega)
    rw [List.length_take] at h1
    have := hs.n
    omega)
  have HEN : Hid (∀ k, (eLines (S.take k)).length ≤ 400000) := Lib.hid (fun k => by
    have h1 := eLines_len (S.take k) (fun x hx => by have := hs.s x (List.mem_of_mem_take hx); omega)
    rw [List.length_take] at h1
    have := hs.m
    omega)
  obtain ⟨w1, hw1⟩ : ∃ W, w.alloc (.cells #[.slice Al L.length cl, .slice Ae S.length ce] 36) = W := ⟨_, rfl⟩
  obtain ⟨xb, hxb⟩ : ∃ g, w.heap.size = g := ⟨_, rfl⟩
  rw [hw1] at hb1 hx hl1 he1
  rw [hxb] at hx
  obtain ⟨n, hn⟩ : ∃ n, L.length = n := ⟨_, rfl⟩
  obtain ⟨m, hm⟩ : ∃ m, S.length = m := ⟨_, rfl⟩
  rw [hn] at hx hl1 hw1 ⊢
  rw [hm] at hx he1 hw1 ⊢
  have hn5 : n ≤ 5000 := by rw [← hn]; exact hs.n
  have hm5 : m ≤ 20000 := by rw [← hm]; exact hs.m
  have HC : Hid (∀ W, Below w1.heap.size w1 W → W.cell? ⟨xb, 0, none⟩ = some (.slice Al n cl) ∧ W.cell? ⟨xb, 1, none⟩ = some (.slice Ae m ce)) := Lib.hid (fun W hb => by
    have h := hx.below hb hx.lt
    exact ⟨h.cell 0, h.cell 1⟩)
  have HLV : Hid (∀ W, Below w1.heap.size w1 W → SeqV W (.slice Al n cl) L) := Lib.hid (fun W hb => hl1.below hb (Nat.le_refl _))
  have HEV : Hid (∀ W, Below w1.heap.size w1 W → EdgesV W (.slice Ae m ce) S) := Lib.hid (fun W hb => he1.below hb (Nat.le_refl _))
  have HS := Lib.hid hs; have HN := Lib.hid hn; have HM := Lib.hid hm; have HB1 := Lib.hid hb1; have HW1 := Lib.hid hw1; have HXB := Lib.hid hxb
  clear hl he hb1 hx hl1 he1 hw1 hxb hn hm hs
  go_enter Tryz.func17, Tryz.ntmps17
  go_upto_region 1 with fail
  rw [HW1.out, HXB.out]
  go_wp2_with fail
  go_loopg [3, 4] n (fun g sv y wr => ∃ k, k ≤ n ∧ g = n - k ∧ y = .int .i64 (k : Nat) ∧ sv = .string (str (vLines 0 (L.take k))) ∧ Below w1.heap.size w1 wr)
  case atStart => exact ⟨0, Nat.zero_le _, rfl, rfl, rfl, Below.refl _ _⟩
  case round =>
    obtain ⟨k, hk, rfl, rfl, rfl, hB⟩ := hrel
    obtain ⟨c0, c1⟩ := HC.out wr hB
    have HB := Lib.hid hB
    have hss : (str (vLines 0 (L.take k))).size ≤ 100000 := HLN.out k
    obtain ⟨ss, hs1⟩ : ∃ s, str (vLines 0 (L.take k)) = s := ⟨_, rfl⟩
    rw [hs1] at hss ⊢
    have HSS := Lib.hid hs1
    clear hs1
    by_cases hlt : k < n
    · have hkL : k < L.length := by rw [HN.out]; exact hlt
      obtain ⟨b, off, rfl, hc⟩ := seq_at (HLV.out wr hB) hkL
      obtain ⟨x, hx⟩ : ∃ x, L.getD k 0 = x := ⟨_, rfl⟩
      rw [hx] at hc
      have hxr := HS.out.lab hkL
      rw [hx] at hxr
      have NV : Hid (∀ W, Below wr.heap.size wr W → Calls Tryz.prog 24 #[.int .i64 (k : Int)] W fun e w' => e = .returned (.string (str (decI (k : Int)))) ∧ Below wr.heap.size wr w') := Lib.hid (fun W hb => (num_I k (by omega) (by omega) W).mono fun e w' ⟨h1, h2⟩ => ⟨h1, hb.trans (h2.mono hb.size)⟩)
      have NX : Hid (∀ W, Below wr.heap.size wr W → Calls Tryz.prog 24 #[.int .i64 x] W fun e w' => e = .returned (.string (str (decI x))) ∧ Below wr.heap.size wr w') := Lib.hid (fun W hb => (num_I x (by omega) (by omega) W).mono fun e w' ⟨h1, h2⟩ => ⟨h1, hb.trans (h2.mono hb.size)⟩)
      have l1 : (str (decI (k : Int))).size ≤ 7 := decI_len (by omega)
      have l2 : (str (decI x)).size ≤ 7 := decI_len (by omega)
      obtain ⟨d1, hd1⟩ : ∃ s, str (decI (k : Int)) = s := ⟨_, rfl⟩
      obtain ⟨d2, hd2⟩ : ∃ s, str (decI x) = s := ⟨_, rfl⟩
      rw [hd1] at NV l1
      rw [hd2] at NX l2
      have HRES : Hid (((((ss ++ (⟨#[118, 32]⟩ : ByteArray)) ++ d1) ++ (⟨#[32]⟩ : ByteArray)) ++ d2) ++ (⟨#[10]⟩ : ByteArray) = str (vLines 0 (L.take (k + 1)))) := Lib.hid (by
        rw [take_snoc (d := 0) hkL, vLines_snoc, hx, ← HSS.out, ← hd1, ← hd2, List.length_take, HN.out, Nat.zero_add, Nat.min_eq_left (Nat.le_of_lt hlt), show (⟨#[118, 32]⟩ : ByteArray) = str [118, 32] from rfl, show (⟨#[32]⟩ : ByteArray) = str [32] from rfl, show (⟨#[10]⟩ : ByteArray) = str [10] from rfl, str_append, str_append, str_append, str_append, str_append]
        unfold pLine
        simp)
      have HLT := Lib.hid hlt
      have hbl : b < wr.heap.size := World.block_lt_of_cell? _ _ hc
      have KS := Lib.hid (fun (W : World) (hb : Below wr.heap.size wr W) => (show Below wr.heap.size wr W ∧ W.cell? ⟨xb, 0, none⟩ = some (.slice (some ⟨b, off, none⟩) n cl) ∧ W.cell? ⟨b, off + k, none⟩ = some (.int .i64 x) from ⟨hb, (HC.out W (HB.out.trans (hb.mono HB.out.size))).1, (hb.cell (p := ⟨b, off + k, none⟩) hbl).trans hc⟩))
      have t7 : decide (k < n) = true := decide_eq_true hlt
      have t7' : decide ((k : Int) < n) = true := decide_eq_true (by omega)
      have i1 : (k : Int) < n := by omega
      have i2 : (0 : Int) ≤ k := by omega
      have z2 : (⟨#[118, 32]⟩ : ByteArray).size = 2 := rfl
      have n1 : ¬ 9223372036854775807 < ss.size + 2 := by omega
      have n2 : ¬ 9223372036854775807 < (ss ++ (⟨#[118, 32]⟩ : ByteArray)).size + d1.size := by rw [ByteArray.size_append, z2]; omega
      have n3 : ¬ 9223372036854775807 < ss.size + 2 + d1.size := by omega
      have n4 : ¬ 9223372036854775807 < ((ss ++ (⟨#[118, 32]⟩ : ByteArray)) ++ d1).size + 1 := by rw [ByteArray.size_append, ByteArray.size_append, z2]; omega
      have n5 : ¬ 9223372036854775807 < ss.size + 2 + d1.size + 1 := by omega
      have n6 : ¬ 9223372036854775807 < (((ss ++ (⟨#[118, 32]⟩ : ByteArray)) ++ d1) ++ (⟨#[32]⟩ : ByteArray)).size + d2.size := by rw [ByteArray.size_append, ByteArray.size_append, ByteArray.size_append, z2]; show ¬ _ < _ + 1 + _; omega
      have n7 : ¬ 9223372036854775807 < ss.size + 2 + d1.size + 1 + d2.size := by omega
      have n8 : ¬ 9223372036854775807 < ((((ss ++ (⟨#[118, 32]⟩ : ByteArray)) ++ d1) ++ (⟨#[32]⟩ : ByteArray)) ++ d2).size + 1 := by rw [ByteArray.size_append, ByteArray.size_append, ByteArray.size_append, ByteArray.size_append, z2]; show ¬ _ < _ + 1 + _ + 1; omega
      have n9 : ¬ 9223372036854775807 < ss.size + 2 + d1.size + 1 + d2.size + 1 := by omega
      clear hc hd1 hd2 hx hlt hxr hkL hB c1 z2
      go_wp2_with fail
      go_region_held3 (fun W => Below wr.heap.size wr W ∧ W.cell? ⟨xb, 0, none⟩ = some (.slice (some ⟨b, off, none⟩) n cl) ∧ W.cell? ⟨b, off + k, none⟩ = some (.int .i64 x))
        (exact KS.out _ (by first | assumption | exact Below.refl _ _ | exact below_drewN' (Below.refl _ _) _ | exact below_drewN' (by assumption) _))
        (first
          | (go_at_call 24; refine (NX.out _ hBT).mono ?_; rintro e' wU ⟨rfl, hBU⟩)
          | (go_at_call 24; refine (NV.out _ (by first | assumption | exact below_drewN' (Below.refl _ _) _)).mono ?_; rintro e' wT ⟨rfl, hBT⟩))
      all_goals
        go_wp2_with fail
        go_roundg (n - (k + 1))
        case rel => exact ⟨k + 1, HLT.out, rfl, rfl, by rw [HRES.out], HB.out.trans (hBU.mono HB.out.size)⟩
        case measure => have := HLT.out; omega
    · have t7 : decide (k < n) = false := decide_eq_false hlt
      have t7' : decide ((k : Int) < n) = false := decide_eq_false (by omega)
      obtain rfl : k = n := by omega
      have HIV : Hid (ss = str (vLines 0 L)) := Lib.hid (by
        have h := HSS.out
        rw [List.take_of_length_le (by rw [HN.out]; exact Nat.le_refl _)] at h
        exact h.symm)
      have HLN' := Lib.hid (show (vLines 0 L).length ≤ 100000 by
        have h := HLN.out L.length
        rwa [List.take_length] at h)
      clear hlt hB hk
      obtain ⟨w4, hw4⟩ : ∃ W, W = wr := ⟨_, rfl⟩
      subst hw4
      go_wp2_with fail
      go_loopg [3, 5] m (fun g sv y wr => ∃ j, j ≤ m ∧ g = m - j ∧ y = .int .i64 (j : Nat) ∧ sv = .string (str (vLines 0 L ++ eLines (S.take j))) ∧ Below w1.heap.size w1 wr)
      case atStart => exact ⟨0, Nat.zero_le _, rfl, rfl, by rw [HIV.out]; show _ = Value.string (str (vLines 0 L ++ [])); rw [List.append_nil], HB.out⟩
      case round =>
        obtain ⟨j, hj, rfl, rfl, rfl, hB⟩ := hrel
        obtain ⟨c0, c1⟩ := HC.out wr hB
        have HBJ := Lib.hid hB
        have hs2 : (str (vLines 0 L ++ eLines (S.take j))).size ≤ 500000 := by
          show (vLines 0 L ++ eLines (S.take j)).length ≤ _
          rw [List.length_append]
          have h1 := HLN'.out
          have h2 := HEN.out j
          omega
        obtain ⟨sj, hsj⟩ : ∃ s, str (vLines 0 L ++ eLines (S.take j)) = s := ⟨_, rfl⟩
        rw [hsj] at hs2 ⊢
        have HSJ := Lib.hid hsj
        clear hsj
        by_cases hlt : j < m
        · have hkS : j < S.length := by rw [HM.out]; exact hlt
          obtain ⟨b, off, rfl, d0, d1⟩ := (HEV.out wr hB).pos hkS
          obtain ⟨x, y, hx⟩ : ∃ x y, S.getD j (0, 0) = (x, y) := ⟨_, _, rfl⟩
          rw [hx] at d0 d1
          simp only at d0 d1
          have hxr := HS.out.edge hkS
          rw [hx] at hxr
          simp only at hxr
          have NV : Hid (∀ W, Below wr.heap.size wr W → Calls Tryz.prog 24 #[.int .i64 x] W fun e w' => e = .returned (.string (str (decI x))) ∧ Below wr.heap.size wr w') := Lib.hid (fun W hb => (num_I x (by omega) (by omega) W).mono fun e w' ⟨h1, h2⟩ => ⟨h1, hb.trans (h2.mono hb.size)⟩)
          have NX : Hid (∀ W, Below wr.heap.size wr W → Calls Tryz.prog 24 #[.int .i64 y] W fun e w' => e = .returned (.string (str (decI y))) ∧ Below wr.heap.size wr w') := Lib.hid (fun W hb => (num_I y (by omega) (by omega) W).mono fun e w' ⟨h1, h2⟩ => ⟨h1, hb.trans (h2.mono hb.size)⟩)
          have l1 : (str (decI x)).size ≤ 7 := decI_len (by omega)
          have l2 : (str (decI y)).size ≤ 7 := decI_len (by omega)
          obtain ⟨e1, he1⟩ : ∃ s, str (decI x) = s := ⟨_, rfl⟩
          obtain ⟨e2, he2⟩ : ∃ s, str (decI y) = s := ⟨_, rfl⟩
          rw [he1] at NV l1
          rw [he2] at NX l2
          have HRES : Hid (((((sj ++ (⟨#[101, 32]⟩ : ByteArray)) ++ e1) ++ (⟨#[32]⟩ : ByteArray)) ++ e2) ++ (⟨#[10]⟩ : ByteArray) = str (vLines 0 L ++ eLines (S.take (j + 1)))) := Lib.hid (by
            rw [take_snoc (d := (0, 0)) hkS, eLines_snoc, hx, ← HSJ.out, ← he1, ← he2, show (⟨#[101, 32]⟩ : ByteArray) = str [101, 32] from rfl, show (⟨#[32]⟩ : ByteArray) = str [32] from rfl, show (⟨#[10]⟩ : ByteArray) = str [10] from rfl, str_append, str_append, str_append, str_append, str_append]
            unfold pLine
            simp)
          have HLT := Lib.hid hlt
          have hbl : b < wr.heap.size := World.block_lt_of_cell? _ _ d0
          have KS := Lib.hid (fun (W : World) (hb : Below wr.heap.size wr W) => (show Below wr.heap.size wr W ∧ W.cell? ⟨xb, 1, none⟩ = some (.slice (some ⟨b, off, none⟩) m ce) ∧ W.cell? ⟨b, off + j * 2, none⟩ = some (.int .i64 x) ∧ W.cell? ⟨b, off + j * 2 + 1, none⟩ = some (.int .i64 y) from ⟨hb, (HC.out W (HBJ.out.trans (hb.mono HBJ.out.size))).2, (hb.cell (p := ⟨b, off + j * 2, none⟩) hbl).trans d0, (hb.cell (p := ⟨b, off + j * 2 + 1, none⟩) hbl).trans d1⟩))
          have t7 : decide (j < m) = true := decide_eq_true hlt
          have t7' : decide ((j : Int) < m) = true := decide_eq_true (by omega)
          have i1 : (j : Int) < m := by omega
          have i2 : (0 : Int) ≤ j := by omega
          have z2 : (⟨#[101, 32]⟩ : ByteArray).size = 2 := rfl
          have n1 : ¬ 9223372036854775807 < sj.size + 2 := by omega
          have n2 : ¬ 9223372036854775807 < (sj ++ (⟨#[101, 32]⟩ : ByteArray)).size + e1.size := by rw [ByteArray.size_append, z2]; omega
          have n3 : ¬ 9223372036854775807 < sj.size + 2 + e1.size := by omega
          have n4 : ¬ 9223372036854775807 < ((sj ++ (⟨#[101, 32]⟩ : ByteArray)) ++ e1).size + 1 := by rw [ByteArray.size_append, ByteArray.size_append, z2]; omega
          have n5 : ¬ 9223372036854775807 < sj.size + 2 + e1.size + 1 := by omega
          have n6 : ¬ 9223372036854775807 < (((sj ++ (⟨#[101, 32]⟩ : ByteArray)) ++ e1) ++ (⟨#[32]⟩ : ByteArray)).size + e2.size := by rw [ByteArray.size_append, ByteArray.size_append, ByteArray.size_append, z2]; show ¬ _ < _ + 1 + _; omega
          have n7 : ¬ 9223372036854775807 < sj.size + 2 + e1.size + 1 + e2.size := by omega
          have n8 : ¬ 9223372036854775807 < ((((sj ++ (⟨#[101, 32]⟩ : ByteArray)) ++ e1) ++ (⟨#[32]⟩ : ByteArray)) ++ e2).size + 1 := by rw [ByteArray.size_append, ByteArray.size_append, ByteArray.size_append, ByteArray.size_append, z2]; show ¬ _ < _ + 1 + _ + 1; omega
          have n9 : ¬ 9223372036854775807 < sj.size + 2 + e1.size + 1 + e2.size + 1 := by omega
          clear d0 d1 he1 he2 hx hlt hxr hkS hB c0 z2
          go_wp2_with fail
          go_region_held3 (fun W => Below wr.heap.size wr W ∧ W.cell? ⟨xb, 1, none⟩ = some (.slice (some ⟨b, off, none⟩) m ce) ∧ W.cell? ⟨b, off + j * 2, none⟩ = some (.int .i64 x) ∧ W.cell? ⟨b, off + j * 2 + 1, none⟩ = some (.int .i64 y))
            (exact KS.out _ (by first | assumption | exact Below.refl _ _ | exact below_drewN' (Below.refl _ _) _ | exact below_drewN' (by assumption) _))
            (first
              | (go_at_call 24; refine (NX.out _ hBT).mono ?_; rintro e' wU ⟨rfl, hBU⟩)
              | (go_at_call 24; refine (NV.out _ (by first | assumption | exact below_drewN' (Below.refl _ _) _)).mono ?_; rintro e' wT ⟨rfl, hBT⟩))
          all_goals
            go_wp2_with fail
            go_roundg (m - (j + 1))
            case rel => exact ⟨j + 1, HLT.out, rfl, rfl, by rw [HRES.out], HBJ.out.trans (hBU.mono HBJ.out.size)⟩
            case measure => have := HLT.out; omega
        · have t7 : decide (j < m) = false := decide_eq_false hlt
          have t7' : decide ((j : Int) < m) = false := decide_eq_false (by omega)
          obtain rfl : j = m := by omega
          have HFIN : Hid (sj = str (graphT L S)) := Lib.hid (by
            have h := HSJ.out
            rw [List.take_of_length_le (by rw [HM.out]; exact Nat.le_refl _)] at h
            exact h.symm)
          clear hlt hj hB
          go_wp2_with fail
          go_ret
          exact ⟨by rw [← HFIN.out]; rfl, HB1.out.trans (HBJ.out.mono HB1.out.size)⟩
end

section
open Go.RowKit

section
variable {P : Program}
/-- Numbers behind a row of the call's own: the run. -/
theorem run_appInts (w : World) (t ty : TypeId) (base : Nat) (i : TypeInfo) (ht : P.underlying t = some (.slice 3)) (hi : P.info? 3 = some i) (hz : i.zero = some (.int .i64 0))
    (hsize : i.size = 1) (hby : i.bytes = 8) (v : Value) (n : Nat) (xs : List Value) (hown : w.ownsRow base 3 1 v n xs)
    (u : Value) (l : List Int) (hu : SeqV w u l) (hn : n + l.length ≤ 1000000000) (hbase : base ≤ w.heap.size) :
    ∃ A' c' w', (Builtin.append_ #[t, t] ty #[v, u]).run P w = .ok (.slice A' (n + l.length) c') w' ∧ w'.ownsRow base 3 1 (.slice A' (n + l.length) c') (n + l.length) (xs ++ intCells l) ∧ w.grownBy w' v.ownBlock := by
  obtain ⟨A, c, rfl⟩ := IntsV.form hu
  have key : ∀ ad : Addr, A = some ad → ∃ A' c' w', (Builtin.append_ #[t, t] ty #[v, .slice A l.length c]).run P w = .ok (.slice A' (n + l.length) c') w' ∧ w'.ownsRow base 3 1 (.slice A' (n + l.length) c') (n + l.length) (xs ++ intCells l) ∧ w.grownBy w' v.ownBlock := by
    intro ad hA
    subst hA
    obtain ⟨v', w', hr, h2, h3, _⟩ := run_append_own_at (P := P) w base t ty 3 i (.int .i64 0) 1 8 ht hi hz hsize hby rfl (by decide) v n xs hown ad l.length c (intCells l) (by simp [intCells])
      (by
        rcases hu with ⟨h0, _⟩ | ⟨_, b, off, c', e, hc⟩
        · intro j u hj
          rw [List.eq_nil_of_length_eq_zero h0] at hj
          simp [intCells] at hj
        · injection e with e1 e2 e3
          injection e1 with e1
          subst e1
          exact seq_cells (c := l.length) hc rfl (Nat.le_refl _)) (fun u hu => by simp [intCells] at hu; obtain ⟨z, _, rfl⟩ := hu; rfl) (by unfold maxLen; omega) (by omega) hbase
    obtain ⟨A', c', rfl⟩ := own_form h2
    exact ⟨A', c', w', hr, h2, h3⟩
  rcases A with _ | ad
  · have hl0 : l = [] := by
      rcases hu with ⟨h0, _⟩ | ⟨_, b, off, c', e, _⟩
      · exact List.eq_nil_of_length_eq_zero h0
      · cases e
    subst hl0
    obtain ⟨A', c', rfl⟩ := own_form hown
    have hr : (Builtin.append_ #[t, t] ty #[.slice A' n c', .slice none 0 c]).run P w = .ok (.slice A' n c') w := by
      rcases hown.2 with ⟨h1, h2⟩ | ⟨g, cap, cur, h1, _, _, hnc, _⟩
      · injection h1 with e1 e2 e3
        subst e1 e2 e3
        simp [Builtin.append_, run_underlying ht, sizeOf, typeInfo, hi, Builtin.lenOf, Builtin.firstCells]
      · injection h1 with e1 e2 e3
        subst e1 e3
        simp [Builtin.append_, run_underlying ht, sizeOf, typeInfo, hi, Builtin.lenOf, Builtin.firstCells, hnc, storeCells]
    exact ⟨A', c', w, hr, by simpa [intCells] using hown, (Grew.refl w (.slice A' n c')).1⟩
  · exact key ad rfl
/-- At a step of a region that draws. -/
theorem step_appInts {ops : Array Oper} {o : Oper} {a : Act} {w : World} {K : Act → World → Prop} {Q : Exit → Act → World → Prop} {E : Prop} (hw : Region.wanted o (yielded ops a.tmps) = true) (s x : Operand) (t : TypeId)
    (ho : o.op = .call { callee := .builtin .append, args := #[s, x], argTypes := #[t, t] })
    (base : Nat) (i : TypeInfo) (ht : P.underlying t = some (.slice 3)) (hi : P.info? 3 = some i) (hz : i.zero = some (.int .i64 0))
    (hsize : i.size = 1) (hby : i.bytes = 8) (v : Value) (n : Nat) (xs : List Value) (hs : a.eval s = v) (hown : w.ownsRow base 3 1 v n xs)
    (u : Value) (l : List Int) (hx : a.eval x = u) (hu : SeqV w u l) (hn : n + l.length ≤ 1000000000) (hbase : base ≤ w.heap.size)
    (h : ∀ A' c' w', w'.ownsRow base 3 1 (.slice A' (n + l.length) c') (n + l.length) (xs ++ intCells l) → w.grownBy w' v.ownBlock → K (a.put o.dst (.slice A' (n + l.length) c')) w') :
    if Region.wanted o (yielded ops a.tmps) = true then Oper.wp P o a w K Q else E := by
  rw [if_pos hw]
  obtain ⟨A', c', w', hr, h2, h3⟩ := run_appInts (P := P) w t o.type base i ht hi hz hsize hby v n xs hown u l hu hn hbase
  unfold Oper.wp execOp
  simp only [ho, resolve, invoke, builtin, Sem.run_bind, Sem.run_pure, Result.andThen_ok, List.map_toArray, List.map_cons, List.map_nil, hs, hx, hr]
  exact h A' c' w' h2 h3
end
/-- One number in a block of its own. -/
theorem seq_cell1 {w : World} {b : Nat} {x : Int} (h : w.cell? ⟨b, 0, none⟩ = some (.int .i64 x)) : SeqV w (.slice (some ⟨b, 0, none⟩) 1 1) [x] := by
  refine Or.inr ⟨Nat.zero_lt_one, b, 0, 1, rfl, fun i hi => ?_⟩
  obtain rfl : i = 0 := by simpa using hi
  exact h
theorem own_empty (W : World) (base : Nat) (hb : base ≤ W.heap.size) : (W.alloc (.cells #[] 3)).ownsRow base 3 1 (.slice (some ⟨W.heap.size, 0, none⟩) 0 0) 0 [] :=
  World.ownsRow_lit (size := 1) W #[] 0 hb (by decide) rfl
theorem cell_new1 (W : World) (x : Int) : (W.alloc (.cells #[.int .i64 x] 3)).cell? ⟨W.heap.size, 0, none⟩ = some (.int .i64 x) := (Whole.new W 3 #[.int .i64 x]).cell 0
end

section
open Go.RowKit

/-- A list as an item. -/
def itemL (u : Value) (L : List Int) : ItemR := ⟨3, 0, ⟨#[]⟩, u, L.length, fun i => L.getD i 0⟩
theorem itemL_bytes (u : Value) (L : List Int) : itemB (itemL u L) = listB L := by
  unfold itemB listB itemL
  simp
def two (a b : ItemR) (i : Nat) : ItemR := if i = 0 then a else b
theorem two_bytes (u v : Value) (L S : List Int) : itemsB (two (itemL u L) (itemL v S)) 2 = listB L ++ listB S := by
  show (itemsB _ 0 ++ itemB _) ++ itemB _ = _
  show (([] : List UInt8) ++ itemB (itemL u L)) ++ itemB (itemL v S) = _
  rw [itemL_bytes, itemL_bytes]
  rfl
/-- Two lists laid as items. -/
def itemCells (u v : Value) : Array Value := #[.int .i64 3, .int .i64 0, .string ⟨#[]⟩, u, .int .i64 3, .int .i64 0, .string ⟨#[]⟩, v]
theorem two_items {w : World} (t : TypeId) {u v : Value} {L S : List Int} (h1 : SeqV w u L) (h2 : SeqV w v S) : ItemsV (w.alloc (.cells (itemCells u v) t)) (.slice (some ⟨w.heap.size, 0, none⟩) 2 2) 2 (two (itemL u L) (itemL v S)) := by
  have hb : Below w.heap.size w (w.alloc (.cells (itemCells u v) t)) := (Below.refl _ _).alloc (Nat.le_refl _) _
  have hw := Whole.new w t (itemCells u v)
  refine ⟨fun i hi => ?_, Or.inr ⟨by decide, w.heap.size, 0, 2, rfl, fun i hi => ?_⟩⟩
  · match i, hi with
    | 0, _ => exact h1.below hb (Nat.le_refl _)
    | 1, _ => exact h2.below hb (Nat.le_refl _)
  · match i, hi with
    | 0, _ => exact ⟨hw.cell 0, hw.cell 1, hw.cell 2, hw.cell 3⟩
    | 1, _ => exact ⟨hw.cell 4, hw.cell 5, hw.cell 6, hw.cell 7⟩
theorem two_far {u v : Value} {L S : List Int} (h1 : L.length ≤ 60) (h2 : S.length ≤ 60) : FarOk (two (itemL u L) (itemL v S)) 2 := by
  refine ⟨by decide, fun k hk => ?_⟩
  match k, hk with
  | 0, _ => exact ⟨Nat.zero_le _, h1, (by decide : (0 : Int) ≤ 3), (by decide : (3 : Int) ≤ 3)⟩
  | 1, _ => exact ⟨Nat.zero_le _, h2, (by decide : (0 : Int) ≤ 3), (by decide : (3 : Int) ≤ 3)⟩
set_option maxRecDepth 100000 in
set_option maxHeartbeats 8000000 in
theorem refPack_any (L : List Int) (S : List (Int × Int)) (vl ve : Value) (w : World) (hl : SeqV w vl L) (he : EdgesV w ve S) (hn : L.length ≤ 60) (hm : S.length ≤ 30) :
    Calls Tryz.prog 19 #[.agg #[vl, ve]] w fun e w' => ∃ v, e = .returned v ∧ BytesV w' v (packB L S) ∧ Below w.heap.size w w' := by
  obtain ⟨i0, hi, hiz, hi1, hi2⟩ := info_parts Tryz.infoIntP
  obtain ⟨Al, cl, rfl⟩ := IntsV.form hl
  obtain ⟨Ae, ce, rfl⟩ := he.form
  have hb1 : Below w.heap.size w (w.alloc (.cells #[.slice Al L.length cl, .slice Ae S.length ce] 36)) := (Below.refl _ _).alloc (Nat.le_refl _) _
  have hx := Whole.new w 36 #[.slice Al L.length cl, .slice Ae S.length ce]
  have hl1 := hl.below hb1 (Nat.le_refl _)
  have he1 := he.below hb1 (Nat.le_refl _)
  obtain ⟨w1, hw1⟩ : ∃ W, w.alloc (.cells #[.slice Al L.length cl, .slice Ae S.length ce] 36) = W := ⟨_, rfl⟩
  obtain ⟨xb, hxb⟩ : ∃ g, w.heap.size = g := ⟨_, rfl⟩
  rw [hw1] at hb1 hx hl1 he1
  rw [hxb] at hx
  obtain ⟨n, hnn⟩ : ∃ n, L.length = n := ⟨_, rfl⟩
  obtain ⟨m, hmm⟩ : ∃ m, S.length = m := ⟨_, rfl⟩
  rw [hnn] at hx hl1 hw1 hn ⊢
  rw [hmm] at hx he1 hw1 hm ⊢
  have HC : Hid (∀ W, Below w1.heap.size w1 W → W.cell? ⟨xb, 0, none⟩ = some (.slice Al n cl) ∧ W.cell? ⟨xb, 1, none⟩ = some (.slice Ae m ce)) := Lib.hid (fun W hb => by
    have h := hx.below hb hx.lt
    exact ⟨h.cell 0, h.cell 1⟩)
  have HLV : Hid (∀ W, Below w1.heap.size w1 W → SeqV W (.slice Al n cl) L) := Lib.hid (fun W hb => hl1.below hb (Nat.le_refl _))
  have HEV : Hid (∀ W, Below w1.heap.size w1 W → EdgesV W (.slice Ae m ce) S) := Lib.hid (fun W hb => he1.below hb (Nat.le_refl _))
  have HN := Lib.hid hnn; have HM := Lib.hid hmm; have HB1 := Lib.hid hb1; have HW1 := Lib.hid hw1; have HXB := Lib.hid hxb
  clear hl he hb1 hx hl1 he1 hw1 hxb hnn hmm
  go_enter Tryz.func19, Tryz.ntmps19
  go_upto_region 1 with fail
  rw [HW1.out, HXB.out]
  go_wp2_with fail
  go_loopg [3, 4] m (fun g ev y wr => ∃ j, j ≤ m ∧ g = m - j ∧ y = .int .i64 (j : Nat) ∧ wr.ownsRow w1.heap.size 3 1 ev (2 * j) (intCells (endsL (S.take j))) ∧ Below w1.heap.size w1 wr)
  case atStart => exact ⟨0, Nat.zero_le _, rfl, rfl, World.ownsRow_nil _ _ _ 1, Below.refl _ _⟩
  case round =>
    obtain ⟨j, hj, rfl, rfl, hown, hB⟩ := hrel
    obtain ⟨Aj, cj, rfl⟩ := own_form hown
    obtain ⟨c0, c1⟩ := HC.out wr hB
    have HB := Lib.hid hB; have HO := Lib.hid hown
    by_cases hlt : j < m
    · have hkS : j < S.length := by rw [HM.out]; exact hlt
      obtain ⟨b, off, rfl, d0, d1⟩ := (HEV.out wr hB).pos hkS
      obtain ⟨x, y, hx⟩ : ∃ x y, S.getD j (0, 0) = (x, y) := ⟨_, _, rfl⟩
      rw [hx] at d0 d1
      simp only at d0 d1
      have hEC : ∀ W, Below w1.heap.size w1 W → W.cell? ⟨b, off + j * 2, none⟩ = some (.int .i64 x) ∧ W.cell? ⟨b, off + j * 2 + 1, none⟩ = some (.int .i64 y) := fun W hb => by
        obtain ⟨b', off', e, q0, q1⟩ := (HEV.out W hb).pos hkS
        injection e with e
        injection e with e1 e2 e3
        subst e1 e2
        rw [hx] at q0 q1
        exact ⟨q0, q1⟩
      have KS := Lib.hid (fun (W : World) (hb : Below w1.heap.size w1 W) => (show Below w1.heap.size w1 W ∧ W.cell? ⟨xb, 1, none⟩ = some (.slice (some ⟨b, off, none⟩) m ce) ∧ W.cell? ⟨b, off + j * 2, none⟩ = some (.int .i64 x) ∧ W.cell? ⟨b, off + j * 2 + 1, none⟩ = some (.int .i64 y) from ⟨hb, (HC.out W hb).2, (hEC W hb).1, (hEC W hb).2⟩))
      have HX := Lib.hid hx; have HLT := Lib.hid hlt
      have t7 : decide (j < m) = true := decide_eq_true hlt
      have t7' : decide ((j : Int) < m) = true := decide_eq_true (by omega)
      have i1 : (j : Int) < m := by omega
      have i2 : (0 : Int) ≤ j := by omega
      have HB7 := Lib.hid (show Below w1.heap.size w1 (wr.drew.alloc (.cells #[.int .i64 x, .int .i64 y] 3)) from (below_drewN' hB 1).alloc hB.size _)
      have HO7 := Lib.hid (show (wr.drew.alloc (.cells #[.int .i64 x, .int .i64 y] 3)).ownsRow w1.heap.size 3 1 (.slice Aj (2 * j) cj) (2 * j) (intCells (endsL (S.take j))) from (own_drewN hown 1).alloc _)
      have HN2 := Lib.hid (show SeqV (wr.drew.alloc (.cells #[.int .i64 x, .int .i64 y] 3)) (.slice (some ⟨wr.heap.size, 0, none⟩) 2 2) [x, y] from seq_two (w := wr.drew) 3 x y)
      clear hx hlt hown hB c0 hEC hkS
      go_wp2_with fail
      refine wp_region_held_drew (S := fun W => Below w1.heap.size w1 W ∧ W.cell? ⟨xb, 1, none⟩ = some (.slice (some ⟨b, off, none⟩) m ce) ∧ W.cell? ⟨b, off + j * 2, none⟩ = some (.int .i64 x) ∧ W.cell? ⟨b, off + j * 2 + 1, none⟩ = some (.int .i64 y)) (by kernel_rfl) ?_ (fun hHeld => ?_)
      · (try dsimp only); exact KS.out _ (below_drewN' HB.out 1)
      refine wpAnyH_take (i := 0) (oi := ({ dst := some 14, op := Op.move (Operand.tmp 3), type := 33, pos := "ref.go:94", after := #[], guard := none } : Oper)) (v := ?vrp1) rfl (by kernel_rfl) (by kernel_rfl) (by kernel_rfl) (fun _ _ _ h => h) (Or.inl ⟨by rfl, ?hyrp1⟩) (by assumption) ?restrp1
      case hyrp1 => intro w hSw; (try dsimp only at hSw); go_simp; all_goals (with_reducible rfl)
      try simp only [Act.put, List.setIfInBounds_toArray, List.set_cons_zero, List.set_cons_succ]
      refine wpAnyH_take (i := 1) (oi := ({ dst := some 15, op := Op.fieldAddr 36 (Operand.tmp 1) 1, type := 0, pos := "ref.go:94", after := #[], guard := none } : Oper)) (v := ?vrp2) rfl (by kernel_rfl) (by kernel_rfl) (by kernel_rfl) (fun _ _ _ h => h) (Or.inl ⟨by rfl, ?hyrp2⟩) (by assumption) ?restrp2
      case hyrp2 => intro w hSw; (try dsimp only at hSw); go_simp; all_goals (with_reducible rfl)
      try simp only [Act.put, List.setIfInBounds_toArray, List.set_cons_zero, List.set_cons_succ]
      refine wpAnyH_take (i := 2) (oi := ({ dst := some 16, op := Op.load 34 (Operand.tmp 15), type := 34, pos := "ref.go:94", after := #[{ on := 1, ground := Ground.data }], guard := none } : Oper)) (v := ?vrp3) rfl (by kernel_rfl) (by kernel_rfl) (by kernel_rfl) (fun _ _ _ h => h) (Or.inl ⟨by rfl, ?hyrp3⟩) (by assumption) ?restrp3
      case hyrp3 => intro w hSw; (try dsimp only at hSw); go_simp; all_goals (with_reducible rfl)
      try simp only [Act.put, List.setIfInBounds_toArray, List.set_cons_zero, List.set_cons_succ]
      refine wpAnyH_take (i := 3) (oi := ({ dst := some 17, op := Op.move (Operand.tmp 4), type := 3, pos := "ref.go:94", after := #[], guard := none } : Oper)) (v := ?vrp4) rfl (by kernel_rfl) (by kernel_rfl) (by kernel_rfl) (fun _ _ _ h => h) (Or.inl ⟨by rfl, ?hyrp4⟩) (by assumption) ?restrp4
      case hyrp4 => intro w hSw; (try dsimp only at hSw); go_simp; all_goals (with_reducible rfl)
      try simp only [Act.put, List.setIfInBounds_toArray, List.set_cons_zero, List.set_cons_succ]
      refine wpAnyH_take (i := 4) (oi := ({ dst := some 18, op := Op.indexAddr 34 (Operand.tmp 16) (Operand.tmp 17), type := 0, pos := "ref.go:94", after := #[{ on := 2, ground := Ground.data }, { on := 3, ground := Ground.data }], guard := none } : Oper)) (v := ?vrp5) rfl (by kernel_rfl) (by kernel_rfl) (by kernel_rfl) (fun _ _ _ h => h) (Or.inl ⟨by rfl, ?hyrp5⟩) (by assumption) ?restrp5
      case hyrp5 => intro w hSw; (try dsimp only at hSw); go_simp; all_goals (with_reducible rfl)
      try simp only [Act.put, List.setIfInBounds_toArray, List.set_cons_zero, List.set_cons_succ]
      refine wpAnyH_take (i := 5) (oi := ({ dst := some 19, op := Op.fieldAddr 56 (Operand.tmp 18) 0, type := 0, pos := "ref.go:94", after := #[{ on := 4, ground := Ground.data }], guard := none } : Oper)) (v := ?vrp6) rfl (by kernel_rfl) (by kernel_rfl) (by kernel_rfl) (fun _ _ _ h => h) (Or.inl ⟨by rfl, ?hyrp6⟩) (by assumption) ?restrp6
      case hyrp6 => intro w hSw; (try dsimp only at hSw); go_simp; all_goals (with_reducible rfl)
      try simp only [Act.put, List.setIfInBounds_toArray, List.set_cons_zero, List.set_cons_succ]
      refine wpAnyH_take (i := 6) (oi := ({ dst := some 20, op := Op.load 3 (Operand.tmp 19), type := 3, pos := "ref.go:94", after := #[{ on := 5, ground := Ground.data }], guard := none } : Oper)) (v := ?vrp7) rfl (by kernel_rfl) (by kernel_rfl) (by kernel_rfl) (fun _ _ _ h => h) (Or.inl ⟨by rfl, ?hyrp7⟩) (by assumption) ?restrp7
      case hyrp7 => intro w hSw; (try dsimp only at hSw); go_simp; all_goals (with_reducible rfl)
      try simp only [Act.put, List.setIfInBounds_toArray, List.set_cons_zero, List.set_cons_succ]
      refine wpAnyH_take (i := 7) (oi := ({ dst := some 21, op := Op.fieldAddr 36 (Operand.tmp 1) 1, type := 0, pos := "ref.go:94", after := #[], guard := none } : Oper)) (v := ?vrp8) rfl (by kernel_rfl) (by kernel_rfl) (by kernel_rfl) (fun _ _ _ h => h) (Or.inl ⟨by rfl, ?hyrp8⟩) (by assumption) ?restrp8
      case hyrp8 => intro w hSw; (try dsimp only at hSw); go_simp; all_goals (with_reducible rfl)
      try simp only [Act.put, List.setIfInBounds_toArray, List.set_cons_zero, List.set_cons_succ]
      refine wpAnyH_take (i := 8) (oi := ({ dst := some 22, op := Op.load 34 (Operand.tmp 21), type := 34, pos := "ref.go:94", after := #[{ on := 7, ground := Ground.data }], guard := none } : Oper)) (v := ?vrp9) rfl (by kernel_rfl) (by kernel_rfl) (by kernel_rfl) (fun _ _ _ h => h) (Or.inl ⟨by rfl, ?hyrp9⟩) (by assumption) ?restrp9
      case hyrp9 => intro w hSw; (try dsimp only at hSw); go_simp; all_goals (with_reducible rfl)
      try simp only [Act.put, List.setIfInBounds_toArray, List.set_cons_zero, List.set_cons_succ]
      refine wpAnyH_take (i := 9) (oi := ({ dst := some 23, op := Op.move (Operand.tmp 4), type := 3, pos := "ref.go:94", after := #[], guard := none } : Oper)) (v := ?vrp10) rfl (by kernel_rfl) (by kernel_rfl) (by kernel_rfl) (fun _ _ _ h => h) (Or.inl ⟨by rfl, ?hyrp10⟩) (by assumption) ?restrp10
      case hyrp10 => intro w hSw; (try dsimp only at hSw); go_simp; all_goals (with_reducible rfl)
      try simp only [Act.put, List.setIfInBounds_toArray, List.set_cons_zero, List.set_cons_succ]
      refine wpAnyH_take (i := 10) (oi := ({ dst := some 24, op := Op.indexAddr 34 (Operand.tmp 22) (Operand.tmp 23), type := 0, pos := "ref.go:94", after := #[{ on := 8, ground := Ground.data }, { on := 9, ground := Ground.data }], guard := none } : Oper)) (v := ?vrp11) rfl (by kernel_rfl) (by kernel_rfl) (by kernel_rfl) (fun _ _ _ h => h) (Or.inl ⟨by rfl, ?hyrp11⟩) (by assumption) ?restrp11
      case hyrp11 => intro w hSw; (try dsimp only at hSw); go_simp; all_goals (with_reducible rfl)
      try simp only [Act.put, List.setIfInBounds_toArray, List.set_cons_zero, List.set_cons_succ]
      refine wpAnyH_take (i := 11) (oi := ({ dst := some 25, op := Op.fieldAddr 56 (Operand.tmp 24) 1, type := 0, pos := "ref.go:94", after := #[{ on := 10, ground := Ground.data }], guard := none } : Oper)) (v := ?vrp12) rfl (by kernel_rfl) (by kernel_rfl) (by kernel_rfl) (fun _ _ _ h => h) (Or.inl ⟨by rfl, ?hyrp12⟩) (by assumption) ?restrp12
      case hyrp12 => intro w hSw; (try dsimp only at hSw); go_simp; all_goals (with_reducible rfl)
      try simp only [Act.put, List.setIfInBounds_toArray, List.set_cons_zero, List.set_cons_succ]
      refine wpAnyH_take (i := 12) (oi := ({ dst := some 26, op := Op.load 3 (Operand.tmp 25), type := 3, pos := "ref.go:94", after := #[{ on := 11, ground := Ground.data }], guard := none } : Oper)) (v := ?vrp13) rfl (by kernel_rfl) (by kernel_rfl) (by kernel_rfl) (fun _ _ _ h => h) (Or.inl ⟨by rfl, ?hyrp13⟩) (by assumption) ?restrp13
      case hyrp13 => intro w hSw; (try dsimp only at hSw); go_simp; all_goals (with_reducible rfl)
      try simp only [Act.put, List.setIfInBounds_toArray, List.set_cons_zero, List.set_cons_succ]
      refine wpAnyH_ready (rs := [13]) (by kernel_rfl) (by simp) ?_
      refine (AllReadyH.cons (o := ({ dst := some 27, op := Op.buildSlice 33 2 #[(0, Operand.tmp 20), (1, Operand.tmp 26)], type := 33, pos := "ref.go:94", after := #[{ on := 6, ground := Ground.data }, { on := 12, ground := Ground.data }], guard := none } : Oper)) rfl (fun K hK => ?_) AllReadyH.nil)
      go_simp
      refine hK.out _ _ ?_ (fun hHeld => ?_)
      · (try dsimp only); exact KS.out _ HB7.out
      clear hK K
      try simp only [Act.put, List.setIfInBounds_toArray, List.set_cons_zero, List.set_cons_succ]
      refine wpAnyH_ready (rs := [14]) (by kernel_rfl) (by simp) ?_
      refine (AllReadyH.cons (o := ({ dst := some 28, op := Op.call { callee := Callee.builtin Builtin.append, args := #[Operand.tmp 14, Operand.tmp 27], argTypes := #[33, 33] }, type := 33, pos := "ref.go:94", after := #[{ on := 0, ground := Ground.data }, { on := 13, ground := Ground.data }], guard := none } : Oper)) rfl (fun K hK => ?_) AllReadyH.nil)
      refine step_appInts (by rfl) _ _ 33 rfl w1.heap.size i0 Tryz.underlying33 hi hiz hi1 hi2 _ (2 * j) _ rfl HO7.out _ [x, y] rfl HN2.out (by simp; omega) HB7.out.size ?_
      intro A9 c9 w9 hown9 hgrow9
      have hB9 := HB7.out.grown hgrow9 HB7.out.size (fun k hk => (HO7.out.lt k hk).1)
      refine hK.out _ _ ?_ (fun hHeld => ?_)
      · (try dsimp only); exact KS.out _ hB9
      clear hK K
      try simp only [Act.put, List.setIfInBounds_toArray, List.set_cons_zero, List.set_cons_succ]
      refine wpAnyH_take (i := 15) (oi := ({ dst := some 3, op := Op.assign (Operand.tmp 28), type := 33, pos := "ref.go:94", after := #[{ on := 14, ground := Ground.data }, { on := 14, ground := Ground.chain }, { on := 0, ground := Ground.phase }, { on := 1, ground := Ground.phase }, { on := 2, ground := Ground.phase }, { on := 3, ground := Ground.phase }, { on := 4, ground := Ground.phase }, { on := 5, ground := Ground.phase }, { on := 6, ground := Ground.phase }, { on := 7, ground := Ground.phase }, { on := 8, ground := Ground.phase }, { on := 9, ground := Ground.phase }, { on := 10, ground := Ground.phase }, { on := 11, ground := Ground.phase }, { on := 12, ground := Ground.phase }, { on := 13, ground := Ground.phase }, { on := 14, ground := Ground.phase }], guard := none } : Oper)) (v := ?vrp14) rfl (by kernel_rfl) (by kernel_rfl) (by kernel_rfl) (fun _ _ _ h => h) (Or.inl ⟨by rfl, ?hyrp14⟩) (by assumption) ?restrp14
      case hyrp14 => intro w hSw; (try dsimp only at hSw); go_simp; all_goals (with_reducible rfl)
      try simp only [Act.put, List.setIfInBounds_toArray, List.set_cons_zero, List.set_cons_succ]
      refine wpAnyH_done (by kernel_rfl) ?_ _
      go_wp2_with fail
      go_roundg (m - (j + 1))
      case rel =>
        refine ⟨j + 1, HLT.out, rfl, rfl, ?_, hB9⟩
        rw [take_snoc (d := (0, 0)) (by rw [HM.out]; exact HLT.out), HX.out, endsL_snoc, intCells_app]
        exact hown9
      case measure => have := HLT.out; omega
    · have t7 : decide (j < m) = false := decide_eq_false hlt
      have t7' : decide ((j : Int) < m) = false := decide_eq_false (by omega)
      obtain rfl : j = m := by omega
      have hoe : wr.ownsRow w1.heap.size 3 1 (.slice Aj (2 * j) cj) (2 * j) (intCells (endsL S)) := by
        have h := hown
        rwa [List.take_of_length_le (by rw [HM.out]; exact Nat.le_refl _)] at h
      have hit := two_items (w := wr) 49 (HLV.out wr hB) (own_seq hoe)
      have hel : (endsL S).length = 2 * j := by rw [endsL_len, HM.out]
      have hbi : Below w1.heap.size w1 (wr.alloc (.cells (itemCells (.slice Al n cl) (.slice Aj (2 * j) cj)) 49)) := hB.alloc hB.size _
      have RP := Lib.hid (refPut_any 2 _ _ _ hit (two_far (by rw [HN.out]; exact hn) (by rw [hel]; omega)))
      rw [two_bytes] at RP
      have HBI := Lib.hid hbi
      have hlen : (listB L ++ listB (endsL S)).length ≤ 1000 := by rw [List.length_append, listB_len, listB_len, hel, HN.out]; omega
      have HLEN := Lib.hid hlen
      unfold itemCells at RP HBI
      clear hlt hown hB hoe hit hel hbi hlen
      go_wp2_with fail
      refine RP.out.mono ?_; rintro e w6 ⟨v6, rfl, ho6, hb6⟩
      have HB6 := Lib.hid (HBI.out.trans (hb6.mono HBI.out.size))
      have RC := Lib.hid (refParcel_any 1 _ v6 w6 (own_bytesV ho6) (by have := HLEN.out; omega))
      clear ho6 hb6
      go_wp2_with fail
      refine RC.out.mono ?_; rintro e w7 ⟨v7, rfl, ho7, hb7⟩
      have HB7 := Lib.hid (HB1.out.trans ((HB6.out.trans (hb7.mono HB6.out.size)).mono HB1.out.size))
      have HV7 := Lib.hid (own_bytesV ho7)
      clear ho7 hb7
      go_wp2_with fail
      go_ret
      exact ⟨_, rfl, HV7.out, HB7.out⟩
end
end Go.Proofs.YtnjkjgmnnmgngaaGreatDoor
