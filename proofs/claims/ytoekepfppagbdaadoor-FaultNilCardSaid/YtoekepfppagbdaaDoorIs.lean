/- errors.Is through steps to a fault; fault.Is; fault.In's loop. -/
import Derived.Test.YtoekepfppagbdaaDoorFault2
import Derived.LaidEql
import Derived.Deep.QuietTactic
import Derived.BigQuiet
import Derived.WalkSmall
import Derived.RangeFuncRecord
namespace Go.Proofs.YtoekepfppagbdaaDoor
open Go.RowKit Go.Extern.Stop Go.Stop Go.Extern

def cmpFn (t : TypeId) : Sem Value := do Rtype.noPackHeld "Comparable" t; pure (.bool (← typeInfo t).comparable)
theorem Tryd.isComparableP (w : World) : (ReflectliteType.method cmpFn #[.agg #[.pointer (some ⟨1, 32, none⟩)]]).run Tryd.prog w = .ok (.bool true) w := by kernel_rfl
theorem Tryd.methodComparable (v : Value) (w : World) : (Go.method 228 86 v "Comparable").run Tryd.prog w = .ok (65, v) w := by kernel_rfl
theorem Tryd.isComp : (Tryd.prog.info? 32).map (·.comparable) = some true := by kernel_rfl
theorem Tryd.isSize : (Tryd.prog.info? 36).map (·.size) = some 3 := by kernel_rfl
theorem Tryd.stepNoIs (v : Value) (w : World) : (Instr.typeAssert (.iface 75 v) 25 95 true).run Tryd.prog w = .ok (.tuple #[.nilIface, .bool false]) w :=
  run_typeAssert_lacksB Tryd.underlying95 (by kernel_rfl) (by kernel_rfl) v 25 w
theorem Tryd.faultHasIs (v : Value) (w : World) : (Instr.typeAssert (.iface 32 v) 25 95 true).run Tryd.prog w = .ok (.tuple #[.iface 32 v, .bool true]) w :=
  run_typeAssert_hasB Tryd.underlying95 (by kernel_rfl) v 25 w
theorem Tryd.methodIs (v : Value) (w : World) : (Go.method 228 32 v "Is").run Tryd.prog w = .ok (55, v) w := by kernel_rfl

theorem Tryd.faultIsFault (v : Value) (w : World) : (Instr.typeAssert (.iface 32 v) 25 32 true).run Tryd.prog w = .ok (.tuple #[v, .bool true]) w := by kernel_rfl

theorem isBool_plain (b t : Nat) (c ct : Int) (w : World) (c0 : w.cell? ⟨b, 0, none⟩ = some (.int .i64 c)) (t0 : w.cell? ⟨t, 0, none⟩ = some (.int .i64 ct)) (t1 : w.cell? ⟨t, 1, none⟩ = some (.int .i64 0)) (t2 : w.cell? ⟨t, 2, none⟩ = some (.string ⟨#[]⟩)) :
    Calls Tryd.prog 55 #[.pointer (some ⟨b, 0, none⟩), .iface 32 (.pointer (some ⟨t, 0, none⟩))] w fun e w' => e = .returned (.bool (decide (c = ct))) ∧ ∃ d, w' = w.drewN d := by
  have fF := Tryd.faultIsFault
  go_enter Tryd.func55, Tryd.ntmps55
  go_wp2
  by_cases hct : c = ct
  · subst hct
    have d1 : (c == c) = true := by simp
    go_quiet (fail)
    go_wp2
    go_ret
    exact ⟨by simp, _, rfl⟩
  · have d1 : (ct == c) = false := by simp; omega
    go_quiet (fail)
    go_wp2
    go_ret
    exact ⟨by simp [hct], _, rfl⟩
theorem isBool_at (b t : Nat) (c ct ta : Int) (w : World) (c0 : w.cell? ⟨b, 0, none⟩ = some (.int .i64 c)) (t0 : w.cell? ⟨t, 0, none⟩ = some (.int .i64 ct)) (t1 : w.cell? ⟨t, 1, none⟩ = some (.int .i64 ta)) (hta : ta ≠ 0) :
    Calls Tryd.prog 55 #[.pointer (some ⟨b, 0, none⟩), .iface 32 (.pointer (some ⟨t, 0, none⟩))] w fun e w' => e = .returned (.bool false) ∧ ∃ d, w' = w.drewN d := by
  have fF := Tryd.faultIsFault
  have d0 : (ta == 0) = false := by simp [hta]
  go_enter Tryd.func55, Tryd.ntmps55
  go_wp2
  by_cases hct : c = ct
  · subst hct
    have d1 : (c == c) = true := by simp
    go_quiet (fail)
    go_wp2
    go_ret
    exact ⟨rfl, _, rfl⟩
  · have d1 : (ct == c) = false := by simp; omega
    go_quiet (fail)
    go_wp2
    go_ret
    exact ⟨rfl, _, rfl⟩

section
variable {n : Nat} {V : Nat → Value} {B : Nat → Nat} {S : Nat → ByteArray} {b : Nat} {c a : Int} {nm : ByteArray}
set_option maxRecDepth 100000 in
set_option maxHeartbeats 4000000 in
theorem is_in (t : Nat) (ct : Int) (w : World) (h : ErrAt w n V B S b c a nm) (ht : w.heap[t]? = some (.cells #[.int .i64 ct, .int .i64 0, .string ⟨#[]⟩] 36)) (hne : b ≠ t) :
    Calls Tryd.prog 32 #[V 0, .iface 32 (.pointer (some ⟨t, 0, none⟩)), .bool true] w fun e w' => e = .returned (.bool (decide (c = ct))) ∧ ∃ d, w' = w.drewN d := by
  have H := Lib.hid h
  obtain ⟨i0, hi, hcmp⟩ := Option.map_eq_some_iff.1 Tryd.isComp
  obtain ⟨j0, hj, hjs⟩ := Option.map_eq_some_iff.1 Tryd.isSize
  have heq := run_eql_iface_ptr_other (P := Tryd.prog) w Tryd.underlying25 Tryd.underlying32 hi hcmp hj (by rw [hjs]; decide) (a := ⟨b, 0, none⟩) (b := ⟨t, 0, none⟩) (by intro e; apply hne; injection e) h.cells ht
  have c0 := h.code
  have t0 : w.cell? ⟨t, 0, none⟩ = some (.int .i64 ct) := by simp [World.cell?, ht]
  have t1 : w.cell? ⟨t, 1, none⟩ = some (.int .i64 0) := by simp [World.cell?, ht]
  have t2 : w.cell? ⟨t, 2, none⟩ = some (.string ⟨#[]⟩) := by simp [World.cell?, ht]
  have nS := Tryd.stepNoIs
  have uS := Tryd.stepUnwraps
  have hF := Tryd.faultHasIs
  have mF := Tryd.methodIs
  have n2 := stp.Tryd.faultNoUnwrap
  have n3 := stp.Tryd.faultNoUnwraps
  have fF := Tryd.faultIsFault
  clear h ht
  go_enter Tryd.func32, Tryd.ntmps32
  go_wp2
  go_loopg [0] n (fun g v wx => wx = w ∧ ∃ i, i ≤ n ∧ g = n - i ∧ v = V i)
  case atStart => exact ⟨rfl, 0, Nat.zero_le _, rfl, rfl⟩
  case round =>
    obtain ⟨rfl, i, hi, rfl, rfl⟩ := hrel
    by_cases hlt : i < n
    · have e1 := H.out.chain.step i hlt
      have hc1 := H.out.chain.next i hlt
      obtain ⟨T, x, hu, hT⟩ := H.out.form (i + 1) hlt
      rw [e1]
      rw [hu] at hc1
      have HU := Lib.hid hu
      clear e1 hu
      obtain ⟨b1, hb⟩ : ∃ b1, B i = b1 := ⟨_, rfl⟩
      rw [hb] at hc1 ⊢
      clear hb
      have hty := run_eql_iface_types (P := Tryd.prog) 75 32 (.pointer (some ⟨b1, 0, none⟩)) (.pointer (some ⟨t, 0, none⟩)) Tryd.underlying25 (by decide) wr
      go_wp2
      go_roundg (n - (i + 1))
      case rel => exact ⟨rfl, i + 1, by omega, rfl, HU.out.symm⟩
      case measure => omega
    · obtain rfl : i = n := by omega
      rw [H.out.last]
      have HIS := Lib.hid (isBool_plain b t c ct wr c0 t0 t1 t2)
      clear c0 t0 t1 t2
      by_cases hct : c = ct
      · have hb1 : decide (c = ct) = true := by simp [hct]
        rw [hb1] at HIS
        have HB := Lib.hid hb1
        clear hct hb1
        go_wp2_with (go_at_call 55; refine HIS.out.mono ?_; rintro ev w2 ⟨rfl, d, rfl⟩)
        go_ret
        exact ⟨by rw [HB.out]; rfl, d, rfl⟩
      · have hb1 : decide (c = ct) = false := by simp [hct]
        rw [hb1] at HIS
        have HB := Lib.hid hb1
        clear hct hb1
        go_wp2_with (go_at_call 55; refine HIS.out.mono ?_; rintro ev w2 ⟨rfl, d, rfl⟩)
        go_ret
        exact ⟨by rw [HB.out]; rfl, d, rfl⟩

theorem errorsIs_chain (t : Nat) (ct : Int) (w : World) (h : ErrAt w n V B S b c a nm) (ht : w.heap[t]? = some (.cells #[.int .i64 ct, .int .i64 0, .string ⟨#[]⟩] 36)) (hne : b ≠ t) :
    Calls Tryd.prog 22 #[V 0, .iface 32 (.pointer (some ⟨t, 0, none⟩))] w fun e w' => e = .returned (.bool (decide (c = ct))) ∧ ∃ d, w' = w.drewN d := by
  have hi := is_in t ct w h ht hne
  have h8 := @run_callFunc_extern Tryd.prog 31 _ ReflectliteType.typeOf Tryd.func31 (by kernel_rfl) (by kernel_rfl) (by kernel_rfl) (by kernel_rfl)
  have h32 := @run_callFunc_extern Tryd.prog 65 _ (ReflectliteType.method cmpFn) Tryd.func65 (by kernel_rfl) (by kernel_rfl) (by kernel_rfl) (by kernel_rfl)
  have tT := Tryd.typeOfP
  have cT := Tryd.isComparableP
  have mR := Tryd.methodComparable
  obtain ⟨T, x, hu, _⟩ := h.form 0 (Nat.zero_le _)
  rw [hu] at hi ⊢
  have HI := Lib.hid hi
  clear hi hu h ht
  go_enter Tryd.func22, Tryd.ntmps22
  go_wp2_with (go_at_call 32; refine HI.out.mono ?_; rintro ev w2 ⟨rfl, d, rfl⟩)
  go_ret
  exact ⟨rfl, d, rfl⟩

theorem faultIs_chain (ct : Int) (w : World) (h : ErrAt w n V B S b c a nm) :
    Calls Tryd.prog 13 #[V 0, .int .i64 ct] w fun e w' => e = .returned (.bool (decide (c = ct))) ∧ Below w.heap.size w w' := by
  have hbl : b < w.heap.size := World.block_lt_of_cell? _ _ h.code
  have h1 := h.below (k := w.heap.size) ((Below.refl _ _).alloc (Nat.le_refl _) (.cells #[.int .i64 ct, .int .i64 0, .string ⟨#[]⟩] 36)) (Nat.le_refl _)
  have hi := errorsIs_chain w.heap.size ct _ h1 (World.alloc_heap_new _ _) (by omega)
  obtain ⟨T, x, hu, _⟩ := h.form 0 (Nat.zero_le _)
  rw [hu] at hi ⊢
  have HI := Lib.hid hi
  clear hi hu h h1
  go_enter Tryd.func13, Tryd.ntmps13
  go_wp2_with (go_at_call 22; refine HI.out.mono ?_; rintro ev w2 ⟨rfl, d, rfl⟩)
  go_ret
  exact ⟨rfl, below_drewN ((Below.refl _ _).alloc (Nat.le_refl _) _) _⟩
end
end Go.Proofs.YtoekepfppagbdaaDoor
