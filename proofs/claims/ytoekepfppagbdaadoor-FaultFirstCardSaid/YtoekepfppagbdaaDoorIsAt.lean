/- errors.Is against a fault with a place; an error alone as a chain. -/
import Derived.Test.YtoekepfppagbdaaDoorFirst
namespace Go.Proofs.YtoekepfppagbdaaDoor
open Go.RowKit Go.Extern.Stop Go.Stop Go.Extern
section
variable {n : Nat} {V : Nat → Value} {B : Nat → Nat} {S : Nat → ByteArray} {b : Nat} {c a : Int} {nm : ByteArray}
set_option maxRecDepth 100000 in
set_option maxHeartbeats 4000000 in
theorem is_inA (t : Nat) (ct ta : Int) (tn : ByteArray) (hta : ta ≠ 0) (w : World) (h : ErrAt w n V B S b c a nm) (ht : w.heap[t]? = some (.cells #[.int .i64 ct, .int .i64 ta, .string tn] 36)) (hne : b ≠ t) :
    Calls Tryd.prog 32 #[V 0, .iface 32 (.pointer (some ⟨t, 0, none⟩)), .bool true] w fun e w' => e = .returned (.bool false) ∧ ∃ d, w' = w.drewN d := by
  have H := Lib.hid h
  obtain ⟨i0, hi, hcmp⟩ := Option.map_eq_some_iff.1 Tryd.isComp
  obtain ⟨j0, hj, hjs⟩ := Option.map_eq_some_iff.1 Tryd.isSize
  have heq := run_eql_iface_ptr_other (P := Tryd.prog) w Tryd.underlying25 Tryd.underlying32 hi hcmp hj (by rw [hjs]; decide) (a := ⟨b, 0, none⟩) (b := ⟨t, 0, none⟩) (by intro e; apply hne; injection e) h.cells ht
  have c0 := h.code
  have t0 : w.cell? ⟨t, 0, none⟩ = some (.int .i64 ct) := by simp [World.cell?, ht]
  have t1 : w.cell? ⟨t, 1, none⟩ = some (.int .i64 ta) := by simp [World.cell?, ht]
  have nS := Tryd.stepNoIs
  have uS := Tryd.stepUnwraps
  have hF := Tryd.faultHasIs
  have mF := Tryd.methodIs
  have n2 := stp.Tryd.faultNoUnwrap
  have n3 := stp.Tryd.faultNoUnwraps
  have fF := Tryd.faultIsFault
  clear h ht
  go_enter Tryd.func32, Tryd.ntmps32
  go_wp2
  go_loopg [0] n (fun g v wx => wx = w ∧ ∃ i, i ≤ n ∧ g = n - i ∧ v = V i)
  case atStart => exact ⟨rfl, 0, Nat.zero_le _, rfl, rfl⟩
  case round =>
    obtain ⟨rfl, i, hi, rfl, rfl⟩ := hrel
    by_cases hlt : i < n
    · have e1 := H.out.chain.step i hlt
      have hc1 := H.out.chain.next i hlt
      obtain ⟨T, x, hu, hT⟩ := H.out.form (i + 1) hlt
      rw [e1]
      rw [hu] at hc1
      have HU := Lib.hid hu
      clear e1 hu
      obtain ⟨b1, hb⟩ : ∃ b1, B i = b1 := ⟨_, rfl⟩
      rw [hb] at hc1 ⊢
      clear hb
      have hty := run_eql_iface_types (P := Tryd.prog) 75 32 (.pointer (some ⟨b1, 0, none⟩)) (.pointer (some ⟨t, 0, none⟩)) Tryd.underlying25 (by decide) wr
      go_wp2
      go_roundg (n - (i + 1))
      case rel => exact ⟨rfl, i + 1, by omega, rfl, HU.out.symm⟩
      case measure => omega
    · obtain rfl : i = n := by omega
      rw [H.out.last]
      have HIS := Lib.hid (isBool_at b t c ct ta wr c0 t0 t1 hta)
      clear c0 t0 t1
      go_wp2_with (go_at_call 55; refine HIS.out.mono ?_; rintro ev w2 ⟨rfl, d, rfl⟩)
      go_ret
      exact ⟨rfl, d, rfl⟩

theorem errorsIs_chainA (t : Nat) (ct ta : Int) (tn : ByteArray) (hta : ta ≠ 0) (w : World) (h : ErrAt w n V B S b c a nm) (ht : w.heap[t]? = some (.cells #[.int .i64 ct, .int .i64 ta, .string tn] 36)) (hne : b ≠ t) :
    Calls Tryd.prog 22 #[V 0, .iface 32 (.pointer (some ⟨t, 0, none⟩))] w fun e w' => e = .returned (.bool false) ∧ ∃ d, w' = w.drewN d := by
  have hi := is_inA t ct ta tn hta w h ht hne
  have h8 := @run_callFunc_extern Tryd.prog 31 _ ReflectliteType.typeOf Tryd.func31 (by kernel_rfl) (by kernel_rfl) (by kernel_rfl) (by kernel_rfl)
  have h32 := @run_callFunc_extern Tryd.prog 65 _ (ReflectliteType.method cmpFn) Tryd.func65 (by kernel_rfl) (by kernel_rfl) (by kernel_rfl) (by kernel_rfl)
  have tT := Tryd.typeOfP
  have cT := Tryd.isComparableP
  have mR := Tryd.methodComparable
  obtain ⟨T, x, hu, _⟩ := h.form 0 (Nat.zero_le _)
  rw [hu] at hi ⊢
  have HI := Lib.hid hi
  clear hi hu h ht
  go_enter Tryd.func22, Tryd.ntmps22
  go_wp2_with (go_at_call 32; refine HI.out.mono ?_; rintro ev w2 ⟨rfl, d, rfl⟩)
  go_ret
  exact ⟨rfl, d, rfl⟩

end
end Go.Proofs.YtoekepfppagbdaaDoor
