/- The document's numbers. -/
import Derived.Test.YtbbdammdiplagaaGreatDoorGlob
import Derived.BigQuiet
import Derived.Deep.QuietTactic
import Derived.WalkSmall
import Derived.WalkSpells
namespace Go.Proofs.YtbbdammdiplagaaGreatDoor
open Go.RowKit

theorem conv1 (w : World) (n : Nat) (hn : n ≤ 9) : (convert 69 9 (.slice (some ⟨w.heap.size, 0, none⟩) 1 1)).run Tryz.prog (w.alloc (.cells #[.int .u8 (48 + (n : Int))] 5)) = .ok (.string (str [UInt8.ofNat (48 + n)])) (w.alloc (.cells #[.int .u8 (48 + (n : Int))] 5)) := by
  refine run_convert_bytes_back _ 69 9 5 ⟨w.heap.size, 0, none⟩ 1 [UInt8.ofNat (48 + n)] Tryz.underlying69 Tryz.underlying5 Tryz.underlying9 (fun j hj => ?_)
  obtain rfl : j = 0 := by simpa using hj
  have e : (([UInt8.ofNat (48 + n)] : List UInt8)[0]).toNat = 48 + n := by
    show (UInt8.ofNat (48 + n)).toNat = _
    rw [UInt8.toNat_ofNat']
    omega
  have hc : (w.alloc (.cells #[.int .u8 (48 + (n : Int))] 5)).cell? ⟨w.heap.size, 0, none⟩ = _ := (Whole.new w 5 #[.int .u8 (48 + (n : Int))]).cell 0
  rw [e]
  exact hc
set_option maxRecDepth 100000 in
set_option maxHeartbeats 4000000 in
theorem num_any : ∀ (n : Nat), n ≤ 9999999 → ∀ (w : World), Calls Tryz.prog 38 #[.int .i64 n] w fun e w' => e = .returned (.string (str (Lib.decDigits n))) ∧ Below w.heap.size w w' := by
  intro n
  induction n using Nat.strongRecOn with
  | _ n ih =>
    intro hn w
    by_cases h9 : n ≤ 9
    · have HB : Hid (Below w.heap.size w (w.alloc (.cells #[.int .u8 (48 + (n : Int))] 5))) := Lib.hid ((Below.refl _ _).alloc (Nat.le_refl _) _)
      have cv := conv1 w n h9
      have t1 : decide ((9 : Int) < n) = false := decide_eq_false (by omega)
      have t1' : decide (9 < n) = false := decide_eq_false (by omega)
      have hd1 := Lib.decDigits_one (show n < 10 by omega)
      obtain ⟨u, hu⟩ : ∃ u, UInt8.ofNat (48 + n) = u := ⟨_, rfl⟩
      rw [hu] at cv hd1
      have HD := Lib.hid hd1
      clear hu hd1
      clear ih
      go_enter Tryz.func38, Tryz.ntmps38
      go_wp2_with fail
      go_ret
      exact ⟨by rw [HD.out]; rfl, HB.out⟩
    · have H1 := Lib.hid (ih (n / 10) (by omega) (by omega))
      have H2 := Lib.hid (ih (n % 10) (by omega) (by omega))
      have hdec : Lib.decDigits n = Lib.decDigits (n / 10) ++ Lib.decDigits (n % 10) := by
        rw [Lib.decDigits, dif_neg (by omega), Lib.decDigits_one (Nat.mod_lt n (by decide))]
      have HD := Lib.hid hdec
      have q1 : Int.tdiv (n : Int) 10 = ((n / 10 : Nat) : Int) := rfl
      have q2 : Int.tmod (n : Int) 10 = ((n % 10 : Nat) : Int) := rfl
      obtain ⟨a, ha⟩ : ∃ a, n / 10 = a := ⟨_, rfl⟩
      obtain ⟨b, hb⟩ : ∃ b, n % 10 = b := ⟨_, rfl⟩
      have ha7 : a ≤ 999999 := by omega
      have hb7 : b ≤ 9 := by omega
      have hl1 := (dec_len_iff a 7 (by decide)).2 (by omega)
      have hl2 := (dec_len_iff b 7 (by decide)).2 (by omega)
      rw [ha] at q1 H1 HD
      rw [hb] at q2 H2 HD
      obtain ⟨da, hda⟩ : ∃ d, Lib.decDigits a = d := ⟨_, rfl⟩
      obtain ⟨db, hdb⟩ : ∃ d, Lib.decDigits b = d := ⟨_, rfl⟩
      rw [hda] at H1 HD hl1
      rw [hdb] at H2 HD hl2
      have s1 : (str da).size ≤ 7 := hl1
      have s2 : (str db).size ≤ 7 := hl2
      have t1 : decide ((9 : Int) < n) = true := decide_eq_true (by omega)
      have t1' : decide (9 < n) = true := decide_eq_true (by omega)
      clear ih hdec ha hb hda hdb hl1 hl2
      go_enter Tryz.func38, Tryz.ntmps38
      go_wp2_with fail
      refine (H1.out w).mono ?_; rintro e w1 ⟨rfl, hb1⟩
      have HB1 := Lib.hid hb1
      clear hb1
      go_wp2_with fail
      refine (H2.out w1).mono ?_; rintro e w2 ⟨rfl, hb2⟩
      have HB2 := Lib.hid (HB1.out.trans (hb2.mono HB1.out.size))
      clear hb2
      go_wp2_with fail
      go_ret
      exact ⟨by rw [HD.out, ← str_append]; rfl, HB2.out⟩
end Go.Proofs.YtbbdammdiplagaaGreatDoor
