/- errors.As through steps of fault.In. -/
import Derived.Test.YtnjkjgmnnmgngaaGreatDoorJ2
import Derived.Lib.Hide
import Derived.Deep.LoopGhost
namespace Go.Proofs.YtnjkjgmnnmgngaaGreatDoor
open Go.RowKit Go.Extern.Stop Go.Stop Go.Extern

theorem Tryz.typeOfStep (v : Value) (w : World) : (ReflectliteType.typeOf #[.iface 135 v]).run Tryz.prog w = .ok (.iface 168 (.agg #[.pointer (some ⟨14, 135, none⟩)])) w := by kernel_rfl
theorem Tryz.assignableStepP (w : World) : (ReflectliteType.relation "AssignableTo" ReflectliteType.assignableTo #[.agg #[.pointer (some ⟨14, 135, none⟩)], .iface 168 (.agg #[.pointer (some ⟨14, 60, none⟩)])]).run Tryz.prog w = .ok (.bool false) w := by kernel_rfl

theorem Tryz.stepNoAs (v : Value) (w : World) : (Instr.typeAssert (.iface 135 v) 26 173 true).run Tryz.prog w = .ok (.tuple #[.nilIface, .bool false]) w :=
  run_typeAssert_lacksB Tryz.underlying173 (by kernel_rfl) (by kernel_rfl) v 26 w
theorem Tryz.stepUnwraps (v : Value) (w : World) : (Instr.typeAssert (.iface 135 v) 26 165 true).run Tryz.prog w = .ok (.tuple #[.iface 135 v, .bool true]) w := by kernel_rfl

/-- A chain of n steps around a last error: V 0 is the outermost; step i lies in block B i, its word is W i. -/
structure ChainAt (w : World) (n : Nat) (V : Nat → Value) (B : Nat → Nat) (S : Nat → ByteArray) : Prop where
  step : ∀ i, i < n → V i = .iface 135 (.pointer (some ⟨B i, 0, none⟩))
  word : ∀ i, i < n → w.cell? ⟨B i, 0, none⟩ = some (.string (S i))
  next : ∀ i, i < n → w.cell? ⟨B i, 1, none⟩ = some (V (i + 1))

theorem ChainAt.below {w w' : World} {n : Nat} {V : Nat → Value} {B : Nat → Nat} {S : Nat → ByteArray} (h : ChainAt w n V B S) {b : Nat} (hb : Below b w w') (hB : w.heap.size ≤ b) : ChainAt w' n V B S :=
  ⟨h.step, fun i hi => (hb.cell (p := ⟨B i, 0, none⟩) (Nat.lt_of_lt_of_le (World.block_lt_of_cell? _ _ (h.word i hi)) hB)).trans (h.word i hi), fun i hi => (hb.cell (p := ⟨B i, 1, none⟩) (Nat.lt_of_lt_of_le (World.block_lt_of_cell? _ _ (h.next i hi)) hB)).trans (h.next i hi)⟩

set_option maxRecDepth 100000 in
set_option maxHeartbeats 4000000 in
theorem as_in (n : Nat) (V : Nat → Value) (B : Nat → Nat) (S : Nat → ByteArray) (e t a : Addr) (old : Value) (w : World) (hch : ChainAt w n V B S) (hV : V n = .iface 60 (.pointer (some e))) (ha : w.cell? a = some (.pointer (some t))) (ht0 : w.cell? t = some old) (hf0 : w.frozen? t = false) :
    Calls Tryz.prog 86 #[V 0, .iface 107 (.pointer (some t)), .agg #[.pointer (some ⟨14, 107, none⟩), .pointer (some a), .int .u64 150], .iface 168 (.agg #[.pointer (some ⟨14, 60, none⟩)])] w fun ev w' => ev = .returned (.bool true) ∧ w' = ((w.alloc (.cells #[.pointer (some ⟨14, 107, none⟩), .pointer (some a), .int .u64 150] 143)).alloc (.cells #[.pointer (some e)] 60)).setCell t (.pointer (some e)) := by
  have HC := Lib.hid hch; clear hch
  have HV := Lib.hid hV; clear hV
  have h10 := @run_callFunc_extern Tryz.prog 100 _ ReflectliteType.typeOf Tryz.func100 (by kernel_rfl) (by kernel_rfl) (by kernel_rfl) (by kernel_rfl)
  have h35 := @run_callFunc_extern Tryz.prog 185 _ (ReflectliteType.relation "AssignableTo" ReflectliteType.assignableTo) Tryz.func185 (by kernel_rfl) (by kernel_rfl) (by kernel_rfl) (by kernel_rfl)
  have h6 := @run_callFunc_extern Tryz.prog 83 _ (fun args => ReflectliteValue.unpack (args.getD 0 (.tuple #[]))) Tryz.func83 (by kernel_rfl) (by kernel_rfl) (by kernel_rfl) (by kernel_rfl)
  have h11 := @run_callFunc_extern Tryz.prog 101 _ (ReflectliteValue.method (ReflectliteValue.valueError "reflectlite.Value.Elem" 0) ReflectliteValue.elem) Tryz.func101 (by kernel_rfl) (by kernel_rfl) (by kernel_rfl) (by kernel_rfl)
  have h12 := @run_callFunc_extern Tryz.prog 102 _ ReflectliteValue.set Tryz.func102 (by kernel_rfl) (by kernel_rfl) (by kernel_rfl) (by kernel_rfl)
  have tS := Tryz.typeOfStep
  have aS := Tryz.assignableStepP
  have mA := Tryz.methodAssignableTo
  have sA := Tryz.stepNoAs
  have sU := Tryz.stepUnwraps
  have tO := Tryz.typeOfP
  have a25 := Tryz.assignableP
  have v25 := Tryz.valueOfP
  have hal : a.block < w.heap.size := World.block_lt_of_cell? _ _ ha
  have htl : t.block < w.heap.size := World.block_lt_of_cell? _ _ ht0
  have el := Tryz.elemVPP a t (w.alloc (.cells #[.pointer (some ⟨14, 107, none⟩), .pointer (some a), .int .u64 150] 143)) (by rw [World.cell?_alloc_lt _ _ a hal]; exact ha)
  have st := Tryz.setP t ⟨w.heap.size + 1, 0, none⟩ e old ((w.alloc (.cells #[.pointer (some ⟨14, 107, none⟩), .pointer (some a), .int .u64 150] 143)).alloc (.cells #[.pointer (some e)] 60))
    (by rw [World.cell?_alloc_at _ _ _ _ (by simp)]; rfl)
    (by rw [World.cell?_alloc_lt _ _ t (by simp; omega), World.cell?_alloc_lt _ _ t htl]; exact ht0)
    (by rw [World.frozen?_alloc_old _ _ t (by simp; omega), World.frozen?_alloc_old _ _ t (Nat.ne_of_lt htl)]; exact hf0)
  clear ha ht0 hf0
  go_enter Tryz.func86, Tryz.ntmps86
  go_wp2
  go_loopg [0] n (fun g v wx => (w.alloc (.cells #[.pointer (some ⟨14, 107, none⟩), .pointer (some a), .int .u64 150] 143)) = wx ∧ ∃ i, i ≤ n ∧ g = n - i ∧ v = V i)
  case atStart => exact ⟨rfl, 0, Nat.zero_le _, rfl, rfl⟩
  case round =>
    obtain ⟨rfl, i, hi, rfl, rfl⟩ := hrel
    by_cases hlt : i < n
    · have e1 := HC.out.step i hlt
      have hc1 : (w.alloc (.cells #[.pointer (some ⟨14, 107, none⟩), .pointer (some a), .int .u64 150] 143)).cell? ⟨B i, 1, none⟩ = some (V (i + 1)) := (World.cell?_alloc_lt _ _ ⟨B i, 1, none⟩ (World.block_lt_of_cell? _ _ (HC.out.next i hlt))).trans (HC.out.next i hlt)
      have hnx : ∃ T x, V (i + 1) = .iface T x ∧ (T = 135 ∨ T = 60) := by
        by_cases hl2 : i + 1 < n
        · exact ⟨_, _, HC.out.step (i + 1) hl2, Or.inl rfl⟩
        · obtain rfl : n = i + 1 := by omega
          exact ⟨_, _, HV.out, Or.inr rfl⟩
      obtain ⟨T, x, hu, hT⟩ := hnx
      rw [e1]
      rw [hu] at hc1
      have HU := Lib.hid hu
      clear e1 hu
      obtain ⟨b, hb⟩ : ∃ b, B i = b := ⟨_, rfl⟩
      rw [hb] at hc1 ⊢
      clear hb
      rcases hT with rfl | rfl
      all_goals
        go_wp2
        go_roundg (n - (i + 1))
        case rel => exact ⟨rfl, i + 1, by omega, rfl, HU.out.symm⟩
        case measure => omega
    · obtain rfl : i = n := by omega
      rw [HV.out]
      go_wp2
      go_ret
      exact ⟨rfl, rfl⟩
set_option maxRecDepth 100000 in
set_option maxHeartbeats 4000000 in
theorem as_any (n : Nat) (V : Nat → Value) (B : Nat → Nat) (S : Nat → ByteArray) (e t : Addr) (old : Value) (w : World) (hch : ChainAt w n V B S) (hV : V n = .iface 60 (.pointer (some e))) (hg0 : ErrT w) (ht0 : w.cell? t = some old) (hf0 : w.frozen? t = false) :
    Calls Tryz.prog 58 #[V 0, .iface 107 (.pointer (some t))] w fun ev w' => ev = .returned (.bool true) ∧ w' = ((((w.alloc (.cells #[.pointer (some t)] 107)).alloc (.cells #[.pointer (some ⟨14, 107, none⟩), .pointer (some ⟨w.heap.size, 0, none⟩), .int .u64 150] 143)).alloc (.cells #[.pointer (some ⟨14, 107, none⟩), .pointer (some ⟨w.heap.size, 0, none⟩), .int .u64 150] 143)).alloc (.cells #[.pointer (some e)] 60)).setCell t (.pointer (some e)) := by
  have HC := Lib.hid hch; clear hch
  have HV := Lib.hid hV; clear hV
  have hg : w.cell? ⟨0, 0, none⟩ = some (.iface 168 (.agg #[.pointer (some ⟨14, 26, none⟩)])) := hg0
  clear hg0
  have h6 := @run_callFunc_extern Tryz.prog 83 _ (fun args => ReflectliteValue.unpack (args.getD 0 (.tuple #[]))) Tryz.func83 (by kernel_rfl) (by kernel_rfl) (by kernel_rfl) (by kernel_rfl)
  have h7 := @run_callFunc_extern Tryz.prog 84 _ (ReflectliteValue.methodAny (ReflectliteValue.valueError "reflectlite.Value.Type" 0) (fun t _ _ _ => ReflectliteType.toType t)) Tryz.func84 (by kernel_rfl) (by kernel_rfl) (by kernel_rfl) (by kernel_rfl)
  have h8 := @run_callFunc_extern Tryz.prog 85 _ (ReflectliteValue.method (ReflectliteValue.valueError "reflectlite.Value.IsNil" 0) ReflectliteValue.isNil) Tryz.func85 (by kernel_rfl) (by kernel_rfl) (by kernel_rfl) (by kernel_rfl)
  have h27 := @run_callFunc_extern Tryz.prog 172 _ (ReflectliteType.abiMethod fun t => do pure (.int .u8 (← Rtype.kind t))) Tryz.func172 (by kernel_rfl) (by kernel_rfl) (by kernel_rfl) (by kernel_rfl)
  have h37 := @run_callFunc_extern Tryz.prog 187 _ (ReflectliteType.method ReflectliteType.elem) Tryz.func187 (by kernel_rfl) (by kernel_rfl) (by kernel_rfl) (by kernel_rfl)
  have h38 := @run_callFunc_extern Tryz.prog 188 _ (ReflectliteType.relation "Implements" ReflectliteType.implements_) Tryz.func188 (by kernel_rfl) (by kernel_rfl) (by kernel_rfl) (by kernel_rfl)
  have f6 := Tryz.valueOfPP
  have f7 := Tryz.typePP
  have mK := Tryz.methodKind
  have mE := Tryz.methodElem
  have mI := Tryz.methodImplements
  have k27 := Tryz.kindPP
  have k25 := Tryz.kindP
  have e27 := Tryz.elemPP
  have i25 := Tryz.implementsP
  have n8 := Tryz.isNilPP ⟨w.heap.size, 0, none⟩ t ((w.alloc (.cells #[.pointer (some t)] 107)).alloc (.cells #[.pointer (some ⟨14, 107, none⟩), .pointer (some ⟨w.heap.size, 0, none⟩), .int .u64 150] 143)) (by simp)
  have hlt : 0 < w.heap.size := by
    rcases Nat.lt_or_ge 0 w.heap.size with h | h
    · exact h
    · simp [World.cell?, Array.getElem?_eq_none h] at hg
  have hg2 : ((w.alloc (.cells #[.pointer (some t)] 107)).alloc (.cells #[.pointer (some ⟨14, 107, none⟩), .pointer (some ⟨w.heap.size, 0, none⟩), .int .u64 150] 143)).cell? ⟨0, 0, none⟩ = some (.iface 168 (.agg #[.pointer (some ⟨14, 26, none⟩)])) := by
    rw [World.cell?_alloc_lt _ _ ⟨0, 0, none⟩ (by simp <;> omega), World.cell?_alloc_lt _ _ ⟨0, 0, none⟩ hlt]; exact hg
  have htl : t.block < w.heap.size := by
    rcases Nat.lt_or_ge t.block w.heap.size with h | h
    · exact h
    · simp [World.cell?, Array.getElem?_eq_none h] at ht0
  have st := Tryz.setP t ⟨w.heap.size + 1 + 1 + 1, 0, none⟩ e old ((((w.alloc (.cells #[.pointer (some t)] 107)).alloc (.cells #[.pointer (some ⟨14, 107, none⟩), .pointer (some ⟨w.heap.size, 0, none⟩), .int .u64 150] 143)).alloc (.cells #[.pointer (some ⟨14, 107, none⟩), .pointer (some ⟨w.heap.size, 0, none⟩), .int .u64 150] 143)).alloc (.cells #[.pointer (some e)] 60))
    (by rw [World.cell?_alloc_at _ _ _ _ (by simp)]; rfl)
    (by rw [World.cell?_alloc_lt _ _ t (by simp; omega), World.cell?_alloc_lt _ _ t (by simp; omega), World.cell?_alloc_lt _ _ t (by simp; omega), World.cell?_alloc_lt _ _ t htl]; exact ht0)
    (by rw [World.frozen?_alloc_old _ _ t (by simp; omega), World.frozen?_alloc_old _ _ t (by simp; omega), World.frozen?_alloc_old _ _ t (by simp; omega), World.frozen?_alloc_old _ _ t (Nat.ne_of_lt htl)]; exact hf0)
  have hB : Below w.heap.size w ((w.alloc (.cells #[.pointer (some t)] 107)).alloc (.cells #[.pointer (some ⟨14, 107, none⟩), .pointer (some ⟨w.heap.size, 0, none⟩), .int .u64 150] 143)) := ((Below.refl _ _).alloc (Nat.le_refl _) _).alloc (by simp) _
  have hin := as_in n V B S e t ⟨w.heap.size, 0, none⟩ old ((w.alloc (.cells #[.pointer (some t)] 107)).alloc (.cells #[.pointer (some ⟨14, 107, none⟩), .pointer (some ⟨w.heap.size, 0, none⟩), .int .u64 150] 143)) (HC.out.below hB (Nat.le_refl _)) HV.out (by simp) ((hB.cell (p := t) htl).trans ht0) ((hB.frozen (p := t) htl).trans hf0)
  have HIN := Lib.hid hin
  clear hin ht0 hf0 hB
  obtain ⟨T, x, hu⟩ : ∃ T x, V 0 = .iface T x := by
    rcases Nat.eq_zero_or_pos n with rfl | hp
    · exact ⟨_, _, HV.out⟩
    · exact ⟨_, _, HC.out.step 0 hp⟩
  rw [hu] at HIN ⊢
  clear hu HC HV
  go_enter Tryz.func58, Tryz.ntmps58
  go_wp2_with (go_at_call 86; refine HIN.out.mono ?_; rintro ev w' ⟨rfl, rfl⟩)
  go_ret
  exact ⟨rfl, rfl⟩
end Go.Proofs.YtnjkjgmnnmgngaaGreatDoor
