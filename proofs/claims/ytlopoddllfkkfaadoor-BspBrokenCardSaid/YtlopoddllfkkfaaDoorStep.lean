/- errors.As through steps of fault.In. -/
import Derived.Test.YtlopoddllfkkfaaDoorJ2
import Derived.Lib.Hide
import Derived.Deep.LoopGhost
namespace Go.Proofs.YtlopoddllfkkfaaDoor
open Go.RowKit Go.Extern.Stop Go.Stop Go.Extern

theorem Tryd.typeOfStep (v : Value) (w : World) : (ReflectliteType.typeOf #[.iface 88 v]).run Tryd.prog w = .ok (.iface 123 (.agg #[.pointer (some ⟨1, 88, none⟩)])) w := by kernel_rfl
theorem Tryd.assignableStepP (w : World) : (ReflectliteType.relation "AssignableTo" ReflectliteType.assignableTo #[.agg #[.pointer (some ⟨1, 88, none⟩)], .iface 123 (.agg #[.pointer (some ⟨1, 69, none⟩)])]).run Tryd.prog w = .ok (.bool false) w := by kernel_rfl

theorem Tryd.stepNoAs (v : Value) (w : World) : (Instr.typeAssert (.iface 88 v) 31 128 true).run Tryd.prog w = .ok (.tuple #[.nilIface, .bool false]) w :=
  run_typeAssert_lacksB Tryd.underlying128 (by kernel_rfl) (by kernel_rfl) v 31 w
theorem Tryd.stepUnwraps (v : Value) (w : World) : (Instr.typeAssert (.iface 88 v) 31 120 true).run Tryd.prog w = .ok (.tuple #[.iface 88 v, .bool true]) w := by kernel_rfl

/-- A chain of n steps around a last error: V 0 is the outermost; step i lies in block B i, its word is W i. -/
structure ChainAt (w : World) (n : Nat) (V : Nat → Value) (B : Nat → Nat) (S : Nat → ByteArray) : Prop where
  step : ∀ i, i < n → V i = .iface 88 (.pointer (some ⟨B i, 0, none⟩))
  word : ∀ i, i < n → w.cell? ⟨B i, 0, none⟩ = some (.string (S i))
  next : ∀ i, i < n → w.cell? ⟨B i, 1, none⟩ = some (V (i + 1))

theorem ChainAt.below {w w' : World} {n : Nat} {V : Nat → Value} {B : Nat → Nat} {S : Nat → ByteArray} (h : ChainAt w n V B S) {b : Nat} (hb : Below b w w') (hB : w.heap.size ≤ b) : ChainAt w' n V B S :=
  ⟨h.step, fun i hi => (hb.cell (p := ⟨B i, 0, none⟩) (Nat.lt_of_lt_of_le (World.block_lt_of_cell? _ _ (h.word i hi)) hB)).trans (h.word i hi), fun i hi => (hb.cell (p := ⟨B i, 1, none⟩) (Nat.lt_of_lt_of_le (World.block_lt_of_cell? _ _ (h.next i hi)) hB)).trans (h.next i hi)⟩

set_option maxRecDepth 100000 in
set_option maxHeartbeats 4000000 in
theorem as_in (n : Nat) (V : Nat → Value) (B : Nat → Nat) (S : Nat → ByteArray) (e t a : Addr) (old : Value) (w : World) (hch : ChainAt w n V B S) (hV : V n = .iface 69 (.pointer (some e))) (ha : w.cell? a = some (.pointer (some t))) (ht0 : w.cell? t = some old) (hf0 : w.frozen? t = false) :
    Calls Tryd.prog 55 #[V 0, .iface 93 (.pointer (some t)), .agg #[.pointer (some ⟨1, 93, none⟩), .pointer (some a), .int .u64 150], .iface 123 (.agg #[.pointer (some ⟨1, 69, none⟩)])] w fun ev w' => ev = .returned (.bool true) ∧ w' = ((w.alloc (.cells #[.pointer (some ⟨1, 93, none⟩), .pointer (some a), .int .u64 150] 111)).alloc (.cells #[.pointer (some e)] 69)).setCell t (.pointer (some e)) := by
  have HC := Lib.hid hch; clear hch
  have HV := Lib.hid hV; clear hV
  have h10 := @run_callFunc_extern Tryd.prog 56 _ ReflectliteType.typeOf Tryd.func56 (by kernel_rfl) (by kernel_rfl) (by kernel_rfl) (by kernel_rfl)
  have h35 := @run_callFunc_extern Tryd.prog 85 _ (ReflectliteType.relation "AssignableTo" ReflectliteType.assignableTo) Tryd.func85 (by kernel_rfl) (by kernel_rfl) (by kernel_rfl) (by kernel_rfl)
  have h6 := @run_callFunc_extern Tryd.prog 52 _ (fun args => ReflectliteValue.unpack (args.getD 0 (.tuple #[]))) Tryd.func52 (by kernel_rfl) (by kernel_rfl) (by kernel_rfl) (by kernel_rfl)
  have h11 := @run_callFunc_extern Tryd.prog 57 _ (ReflectliteValue.method (ReflectliteValue.valueError "reflectlite.Value.Elem" 0) ReflectliteValue.elem) Tryd.func57 (by kernel_rfl) (by kernel_rfl) (by kernel_rfl) (by kernel_rfl)
  have h12 := @run_callFunc_extern Tryd.prog 58 _ ReflectliteValue.set Tryd.func58 (by kernel_rfl) (by kernel_rfl) (by kernel_rfl) (by kernel_rfl)
  have tS := Tryd.typeOfStep
  have aS := Tryd.assignableStepP
  have mA := Tryd.methodAssignableTo
  have sA := Tryd.stepNoAs
  have sU := Tryd.stepUnwraps
  have tO := Tryd.typeOfP
  have a25 := Tryd.assignableP
  have v25 := Tryd.valueOfP
  have hal : a.block < w.heap.size := World.block_lt_of_cell? _ _ ha
  have htl : t.block < w.heap.size := World.block_lt_of_cell? _ _ ht0
  have el := Tryd.elemVPP a t (w.alloc (.cells #[.pointer (some ⟨1, 93, none⟩), .pointer (some a), .int .u64 150] 111)) (by rw [World.cell?_alloc_lt _ _ a hal]; exact ha)
  have st := Tryd.setP t ⟨w.heap.size + 1, 0, none⟩ e old ((w.alloc (.cells #[.pointer (some ⟨1, 93, none⟩), .pointer (some a), .int .u64 150] 111)).alloc (.cells #[.pointer (some e)] 69))
    (by rw [World.cell?_alloc_at _ _ _ _ (by simp)]; rfl)
    (by rw [World.cell?_alloc_lt _ _ t (by simp; omega), World.cell?_alloc_lt _ _ t htl]; exact ht0)
    (by rw [World.frozen?_alloc_old _ _ t (by simp; omega), World.frozen?_alloc_old _ _ t (Nat.ne_of_lt htl)]; exact hf0)
  clear ha ht0 hf0
  go_enter Tryd.func55, Tryd.ntmps55
  go_wp2
  go_loopg [0] n (fun g v wx => (w.alloc (.cells #[.pointer (some ⟨1, 93, none⟩), .pointer (some a), .int .u64 150] 111)) = wx ∧ ∃ i, i ≤ n ∧ g = n - i ∧ v = V i)
  case atStart => exact ⟨rfl, 0, Nat.zero_le _, rfl, rfl⟩
  case round =>
    obtain ⟨rfl, i, hi, rfl, rfl⟩ := hrel
    by_cases hlt : i < n
    · have e1 := HC.out.step i hlt
      have hc1 : (w.alloc (.cells #[.pointer (some ⟨1, 93, none⟩), .pointer (some a), .int .u64 150] 111)).cell? ⟨B i, 1, none⟩ = some (V (i + 1)) := (World.cell?_alloc_lt _ _ ⟨B i, 1, none⟩ (World.block_lt_of_cell? _ _ (HC.out.next i hlt))).trans (HC.out.next i hlt)
      have hnx : ∃ T x, V (i + 1) = .iface T x ∧ (T = 88 ∨ T = 69) := by
        by_cases hl2 : i + 1 < n
        · exact ⟨_, _, HC.out.step (i + 1) hl2, Or.inl rfl⟩
        · obtain rfl : n = i + 1 := by omega
          exact ⟨_, _, HV.out, Or.inr rfl⟩
      obtain ⟨T, x, hu, hT⟩ := hnx
      rw [e1]
      rw [hu] at hc1
      have HU := Lib.hid hu
      clear e1 hu
      obtain ⟨b, hb⟩ : ∃ b, B i = b := ⟨_, rfl⟩
      rw [hb] at hc1 ⊢
      clear hb
      rcases hT with rfl | rfl
      all_goals
        go_wp2
        go_roundg (n - (i + 1))
        case rel => exact ⟨rfl, i + 1, by omega, rfl, HU.out.symm⟩
        case measure => omega
    · obtain rfl : i = n := by omega
      rw [HV.out]
      go_wp2
      go_ret
      exact ⟨rfl, rfl⟩
set_option maxRecDepth 100000 in
set_option maxHeartbeats 4000000 in
theorem as_any (n : Nat) (V : Nat → Value) (B : Nat → Nat) (S : Nat → ByteArray) (e t : Addr) (old : Value) (w : World) (hch : ChainAt w n V B S) (hV : V n = .iface 69 (.pointer (some e))) (hg0 : ErrT w) (ht0 : w.cell? t = some old) (hf0 : w.frozen? t = false) :
    Calls Tryd.prog 45 #[V 0, .iface 93 (.pointer (some t))] w fun ev w' => ev = .returned (.bool true) ∧ w' = ((((w.alloc (.cells #[.pointer (some t)] 93)).alloc (.cells #[.pointer (some ⟨1, 93, none⟩), .pointer (some ⟨w.heap.size, 0, none⟩), .int .u64 150] 111)).alloc (.cells #[.pointer (some ⟨1, 93, none⟩), .pointer (some ⟨w.heap.size, 0, none⟩), .int .u64 150] 111)).alloc (.cells #[.pointer (some e)] 69)).setCell t (.pointer (some e)) := by
  have HC := Lib.hid hch; clear hch
  have HV := Lib.hid hV; clear hV
  have hg : w.cell? ⟨0, 0, none⟩ = some (.iface 123 (.agg #[.pointer (some ⟨1, 31, none⟩)])) := hg0
  clear hg0
  have h6 := @run_callFunc_extern Tryd.prog 52 _ (fun args => ReflectliteValue.unpack (args.getD 0 (.tuple #[]))) Tryd.func52 (by kernel_rfl) (by kernel_rfl) (by kernel_rfl) (by kernel_rfl)
  have h7 := @run_callFunc_extern Tryd.prog 53 _ (ReflectliteValue.methodAny (ReflectliteValue.valueError "reflectlite.Value.Type" 0) (fun t _ _ _ => ReflectliteType.toType t)) Tryd.func53 (by kernel_rfl) (by kernel_rfl) (by kernel_rfl) (by kernel_rfl)
  have h8 := @run_callFunc_extern Tryd.prog 54 _ (ReflectliteValue.method (ReflectliteValue.valueError "reflectlite.Value.IsNil" 0) ReflectliteValue.isNil) Tryd.func54 (by kernel_rfl) (by kernel_rfl) (by kernel_rfl) (by kernel_rfl)
  have h27 := @run_callFunc_extern Tryd.prog 73 _ (ReflectliteType.abiMethod fun t => do pure (.int .u8 (← Rtype.kind t))) Tryd.func73 (by kernel_rfl) (by kernel_rfl) (by kernel_rfl) (by kernel_rfl)
  have h37 := @run_callFunc_extern Tryd.prog 87 _ (ReflectliteType.method ReflectliteType.elem) Tryd.func87 (by kernel_rfl) (by kernel_rfl) (by kernel_rfl) (by kernel_rfl)
  have h38 := @run_callFunc_extern Tryd.prog 88 _ (ReflectliteType.relation "Implements" ReflectliteType.implements_) Tryd.func88 (by kernel_rfl) (by kernel_rfl) (by kernel_rfl) (by kernel_rfl)
  have f6 := Tryd.valueOfPP
  have f7 := Tryd.typePP
  have mK := Tryd.methodKind
  have mE := Tryd.methodElem
  have mI := Tryd.methodImplements
  have k27 := Tryd.kindPP
  have k25 := Tryd.kindP
  have e27 := Tryd.elemPP
  have i25 := Tryd.implementsP
  have n8 := Tryd.isNilPP ⟨w.heap.size, 0, none⟩ t ((w.alloc (.cells #[.pointer (some t)] 93)).alloc (.cells #[.pointer (some ⟨1, 93, none⟩), .pointer (some ⟨w.heap.size, 0, none⟩), .int .u64 150] 111)) (by simp)
  have hlt : 0 < w.heap.size := by
    rcases Nat.lt_or_ge 0 w.heap.size with h | h
    · exact h
    · simp [World.cell?, Array.getElem?_eq_none h] at hg
  have hg2 : ((w.alloc (.cells #[.pointer (some t)] 93)).alloc (.cells #[.pointer (some ⟨1, 93, none⟩), .pointer (some ⟨w.heap.size, 0, none⟩), .int .u64 150] 111)).cell? ⟨0, 0, none⟩ = some (.iface 123 (.agg #[.pointer (some ⟨1, 31, none⟩)])) := by
    rw [World.cell?_alloc_lt _ _ ⟨0, 0, none⟩ (by simp <;> omega), World.cell?_alloc_lt _ _ ⟨0, 0, none⟩ hlt]; exact hg
  have htl : t.block < w.heap.size := by
    rcases Nat.lt_or_ge t.block w.heap.size with h | h
    · exact h
    · simp [World.cell?, Array.getElem?_eq_none h] at ht0
  have st := Tryd.setP t ⟨w.heap.size + 1 + 1 + 1, 0, none⟩ e old ((((w.alloc (.cells #[.pointer (some t)] 93)).alloc (.cells #[.pointer (some ⟨1, 93, none⟩), .pointer (some ⟨w.heap.size, 0, none⟩), .int .u64 150] 111)).alloc (.cells #[.pointer (some ⟨1, 93, none⟩), .pointer (some ⟨w.heap.size, 0, none⟩), .int .u64 150] 111)).alloc (.cells #[.pointer (some e)] 69))
    (by rw [World.cell?_alloc_at _ _ _ _ (by simp)]; rfl)
    (by rw [World.cell?_alloc_lt _ _ t (by simp; omega), World.cell?_alloc_lt _ _ t (by simp; omega), World.cell?_alloc_lt _ _ t (by simp; omega), World.cell?_alloc_lt _ _ t htl]; exact ht0)
    (by rw [World.frozen?_alloc_old _ _ t (by simp; omega), World.frozen?_alloc_old _ _ t (by simp; omega), World.frozen?_alloc_old _ _ t (by simp; omega), World.frozen?_alloc_old _ _ t (Nat.ne_of_lt htl)]; exact hf0)
  have hB : Below w.heap.size w ((w.alloc (.cells #[.pointer (some t)] 93)).alloc (.cells #[.pointer (some ⟨1, 93, none⟩), .pointer (some ⟨w.heap.size, 0, none⟩), .int .u64 150] 111)) := ((Below.refl _ _).alloc (Nat.le_refl _) _).alloc (by simp) _
  have hin := as_in n V B S e t ⟨w.heap.size, 0, none⟩ old ((w.alloc (.cells #[.pointer (some t)] 93)).alloc (.cells #[.pointer (some ⟨1, 93, none⟩), .pointer (some ⟨w.heap.size, 0, none⟩), .int .u64 150] 111)) (HC.out.below hB (Nat.le_refl _)) HV.out (by simp) ((hB.cell (p := t) htl).trans ht0) ((hB.frozen (p := t) htl).trans hf0)
  have HIN := Lib.hid hin
  clear hin ht0 hf0 hB
  obtain ⟨T, x, hu⟩ : ∃ T x, V 0 = .iface T x := by
    rcases Nat.eq_zero_or_pos n with rfl | hp
    · exact ⟨_, _, HV.out⟩
    · exact ⟨_, _, HC.out.step 0 hp⟩
  rw [hu] at HIN ⊢
  clear hu HC HV
  go_enter Tryd.func45, Tryd.ntmps45
  go_wp2_with (go_at_call 55; refine HIN.out.mono ?_; rintro ev w' ⟨rfl, rfl⟩)
  go_ret
  exact ⟨rfl, rfl⟩
end Go.Proofs.YtlopoddllfkkfaaDoor
