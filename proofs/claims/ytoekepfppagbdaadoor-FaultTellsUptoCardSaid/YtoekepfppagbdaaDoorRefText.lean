/- fretworkref01.Text: the contract. -/
import Derived.Test.YtoekepfppagbdaaDoorMade
namespace Go.Proofs.YtoekepfppagbdaaDoor
open Go.RowKit Go.Extern.Stop Go.Stop Go.Extern

set_option maxRecDepth 100000 in
set_option maxHeartbeats 4000000 in
theorem refText_any (n : Nat) (S : Nat → ByteArray) (nm : ByteArray) (v : Value) (w : World) (hn : n ≤ 100000) (hs : StrsV w v n S) (hlen : (lead S n).length + nm.size ≤ 140737488355328) :
    Calls Tryd.prog 15 #[v, .string nm] w fun e w' => e = .returned (.string ⟨(lead S n ++ nm.data.toList).toArray⟩) ∧ w' = w := by
  have HS := Lib.hid hs
  obtain ⟨ao, cap, rfl⟩ := hs.form
  clear hs
  go_enter Tryd.func15, Tryd.ntmps15
  go_wp2
  go_loopg [5, 6] n (fun g t x wr => ∃ i, i ≤ n ∧ g = n - i ∧ t = .string ⟨(lead S i).toArray⟩ ∧ x = .int .i64 (i : Int) ∧ wr = w)
  case atStart => exact ⟨0, Nat.zero_le _, rfl, rfl, rfl, rfl⟩
  case round =>
    obtain ⟨i, hile, rfl, rfl, rfl, rfl⟩ := hrel
    by_cases hlt : i < n
    · rcases HS.out with ⟨h0, _⟩ | ⟨_, b0, off, cap', e, hc⟩
      · omega
      injection e with e1 e2 e3
      subst e1
      have hcr := hc i hlt
      have d1 : decide ((i : Int) < n) = true := decide_eq_true (by omega)
      obtain ⟨sw, hsw⟩ : ∃ sw, S i = sw := ⟨_, rfl⟩
      rw [hsw] at hcr
      have HT : Hid ((⟨(lead S (i + 1)).toArray⟩ : ByteArray) = (⟨(lead S i).toArray⟩ ++ sw) ++ ⟨#[58, 32]⟩) := Lib.hid (by
        rw [← hsw]; apply ByteArray.ext; simp [lead])
      have hmono := lead_mono S (show i + 1 ≤ n by omega)
      have hl : (lead S (i + 1)).length = (lead S i).length + (sw.size + 2) := by
        have e5 : sw.data.toList.length = sw.size := Array.length_toList
        simp only [lead, List.length_append, List.length_cons, List.length_nil, hsw, e5]
      have hz : (⟨(lead S i).toArray⟩ : ByteArray).size = (lead S i).length := by simp [ByteArray.size]
      obtain ⟨t0, ht0⟩ : ∃ t0 : ByteArray, (⟨(lead S i).toArray⟩ : ByteArray) = t0 := ⟨_, rfl⟩
      rw [ht0] at HT hz ⊢
      have h1 : ¬ 9223372036854775807 < t0.size + sw.size := by omega
      have h2 : ¬ 9223372036854775807 < t0.size + sw.size + 2 := by omega
      clear hc e3 hsw ht0 hmono hl hz
      go_wp2
      go_roundg (n - (i + 1))
      case rel => exact ⟨i + 1, by omega, rfl, by rw [HT.out], by go_num, rfl⟩
      case measure => omega
    · obtain rfl : i = n := by omega
      have d1 : decide ((i : Int) < i) = false := decide_eq_false (by omega)
      have HT : Hid ((⟨(lead S i ++ nm.data.toList).toArray⟩ : ByteArray) = ⟨(lead S i).toArray⟩ ++ nm) := Lib.hid (by apply ByteArray.ext; simp)
      obtain ⟨t0, ht0⟩ : ∃ t0 : ByteArray, (⟨(lead S i).toArray⟩ : ByteArray) = t0 := ⟨_, rfl⟩
      have hz : (⟨(lead S i).toArray⟩ : ByteArray).size = (lead S i).length := by simp [ByteArray.size]
      rw [ht0] at HT hz ⊢
      have h1 : ¬ 9223372036854775807 < t0.size + nm.size := by omega
      clear ht0 hz
      go_wp2
      go_ret
      exact ⟨by rw [HT.out]; rfl, rfl⟩
end Go.Proofs.YtoekepfppagbdaaDoor
