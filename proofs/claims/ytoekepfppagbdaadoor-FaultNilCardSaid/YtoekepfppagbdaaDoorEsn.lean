/- A chain that ends in an error of errors.New: fault's calls over it. -/
import Derived.Test.YtoekepfppagbdaaDoorText
import Derived.Test.YtoekepfppagbdaaDoorIs
namespace Go.Proofs.YtoekepfppagbdaaDoor
open Go.RowKit Go.Extern.Stop Go.Stop Go.Extern

namespace stp
theorem Tryd.typeOfES (v : Value) (w : World) : (ReflectliteType.typeOf #[.iface 72 v]).run Tryd.prog w = .ok (.iface 86 (.agg #[.pointer (some ⟨1, 72, none⟩)])) w := by kernel_rfl
theorem Tryd.assignableES (w : World) : (ReflectliteType.relation "AssignableTo" ReflectliteType.assignableTo #[.agg #[.pointer (some ⟨1, 72, none⟩)], .iface 86 (.agg #[.pointer (some ⟨1, 75, none⟩)])]).run Tryd.prog w = .ok (.bool false) w := by kernel_rfl
theorem Tryd.esNoAs (v : Value) (w : World) : (Instr.typeAssert (.iface 72 v) 25 90 true).run Tryd.prog w = .ok (.tuple #[.nilIface, .bool false]) w :=
  run_typeAssert_lacksB Tryd.underlying90 (by kernel_rfl) (by kernel_rfl) v 25 w
theorem Tryd.esNoUnwrap (v : Value) (w : World) : (Instr.typeAssert (.iface 72 v) 25 78 true).run Tryd.prog w = .ok (.tuple #[.nilIface, .bool false]) w :=
  run_typeAssert_lacksB Tryd.underlying78 (by kernel_rfl) (by kernel_rfl) v 25 w
theorem Tryd.esNoUnwraps (v : Value) (w : World) : (Instr.typeAssert (.iface 72 v) 25 93 true).run Tryd.prog w = .ok (.tuple #[.nilIface, .bool false]) w :=
  run_typeAssert_lacksB Tryd.underlying93 (by kernel_rfl) (by kernel_rfl) v 25 w

set_option maxHeartbeats 4000000 in
theorem as_missES (e t : Addr) (old : Value) (w : World) (hg0 : ErrT w) (ht0 : w.cell? t = some old) (_hf0 : w.frozen? t = false) :
    Calls Tryd.prog 16 #[.iface 72 (.pointer (some e)), .iface 83 (.pointer (some t))] w fun ev w' => ev = .returned (.bool false) ∧ w' = (((w.alloc (.cells #[.pointer (some t)] 83)).alloc (.cells #[.pointer (some ⟨1, 83, none⟩), .pointer (some ⟨w.heap.size, 0, none⟩), .int .u64 150] 63)).alloc (.cells #[.pointer (some ⟨1, 83, none⟩), .pointer (some ⟨w.heap.size, 0, none⟩), .int .u64 150] 63)) := by
  have hg : w.cell? ⟨0, 0, none⟩ = some (.iface 86 (.agg #[.pointer (some ⟨1, 25, none⟩)])) := hg0
  clear hg0
  have h6 := @run_callFunc_extern Tryd.prog 27 _ (fun args => ReflectliteValue.unpack (args.getD 0 (.tuple #[]))) Tryd.func27 (by kernel_rfl) (by kernel_rfl) (by kernel_rfl) (by kernel_rfl)
  have h7 := @run_callFunc_extern Tryd.prog 28 _ (ReflectliteValue.methodAny (ReflectliteValue.valueError "reflectlite.Value.Type" 0) (fun t _ _ _ => ReflectliteType.toType t)) Tryd.func28 (by kernel_rfl) (by kernel_rfl) (by kernel_rfl) (by kernel_rfl)
  have h8 := @run_callFunc_extern Tryd.prog 29 _ (ReflectliteValue.method (ReflectliteValue.valueError "reflectlite.Value.IsNil" 0) ReflectliteValue.isNil) Tryd.func29 (by kernel_rfl) (by kernel_rfl) (by kernel_rfl) (by kernel_rfl)
  have h27 := @run_callFunc_extern Tryd.prog 51 _ (ReflectliteType.abiMethod fun t => do pure (.int .u8 (← Rtype.kind t))) Tryd.func51 (by kernel_rfl) (by kernel_rfl) (by kernel_rfl) (by kernel_rfl)
  have h37 := @run_callFunc_extern Tryd.prog 66 _ (ReflectliteType.method ReflectliteType.elem) Tryd.func66 (by kernel_rfl) (by kernel_rfl) (by kernel_rfl) (by kernel_rfl)
  have h38 := @run_callFunc_extern Tryd.prog 67 _ (ReflectliteType.relation "Implements" ReflectliteType.implements_) Tryd.func67 (by kernel_rfl) (by kernel_rfl) (by kernel_rfl) (by kernel_rfl)
  have h10 := @run_callFunc_extern Tryd.prog 31 _ ReflectliteType.typeOf Tryd.func31 (by kernel_rfl) (by kernel_rfl) (by kernel_rfl) (by kernel_rfl)
  have h35 := @run_callFunc_extern Tryd.prog 64 _ (ReflectliteType.relation "AssignableTo" ReflectliteType.assignableTo) Tryd.func64 (by kernel_rfl) (by kernel_rfl) (by kernel_rfl) (by kernel_rfl)
  have tO := Tryd.typeOfES
  have mA := Tryd.methodAssignableTo
  have a25 := Tryd.assignableES
  have n1 := Tryd.esNoAs
  have n2 := Tryd.esNoUnwrap
  have n3 := Tryd.esNoUnwraps
  have f6 := Tryd.valueOfPP
  have f7 := Tryd.typePP
  have mK := Tryd.methodKind
  have mE := Tryd.methodElem
  have mI := Tryd.methodImplements
  have k27 := Tryd.kindPP
  have k25 := Tryd.kindP
  have e27 := Tryd.elemPP
  have i25 := Tryd.implementsP
  have n8 := Tryd.isNilPP ⟨w.heap.size, 0, none⟩ t ((w.alloc (.cells #[.pointer (some t)] 83)).alloc (.cells #[.pointer (some ⟨1, 83, none⟩), .pointer (some ⟨w.heap.size, 0, none⟩), .int .u64 150] 63)) (by simp)
  have hlt : 0 < w.heap.size := by
    rcases Nat.lt_or_ge 0 w.heap.size with h | h
    · exact h
    · simp [World.cell?, Array.getElem?_eq_none h] at hg
  have hg2 : ((w.alloc (.cells #[.pointer (some t)] 83)).alloc (.cells #[.pointer (some ⟨1, 83, none⟩), .pointer (some ⟨w.heap.size, 0, none⟩), .int .u64 150] 63)).cell? ⟨0, 0, none⟩ = some (.iface 86 (.agg #[.pointer (some ⟨1, 25, none⟩)])) := by
    rw [World.cell?_alloc_lt _ _ ⟨0, 0, none⟩ (by simp <;> omega), World.cell?_alloc_lt _ _ ⟨0, 0, none⟩ hlt]; exact hg
  have htl : t.block < w.heap.size := by
    rcases Nat.lt_or_ge t.block w.heap.size with h | h
    · exact h
    · simp [World.cell?, Array.getElem?_eq_none h] at ht0
  go_enter Tryd.func16, Tryd.ntmps16
  go_wp2
  refine wp_loop_rounds 1 ?_
  rw [rounds_succ]
  go_wp2
  go_ret
  exact ⟨rfl, rfl⟩
end stp

theorem Tryd.assignableESF (w : World) : (ReflectliteType.relation "AssignableTo" ReflectliteType.assignableTo #[.agg #[.pointer (some ⟨1, 72, none⟩)], .iface 86 (.agg #[.pointer (some ⟨1, 32, none⟩)])]).run Tryd.prog w = .ok (.bool false) w := by kernel_rfl
set_option maxRecDepth 100000 in
set_option maxHeartbeats 4000000 in
theorem as_inES (n : Nat) (V : Nat → Value) (B : Nat → Nat) (S : Nat → ByteArray) (e t a : Addr) (old : Value) (w : World) (hch : ChainAt w n V B S) (hV : V n = .iface 72 (.pointer (some e))) (ha : w.cell? a = some (.pointer (some t))) (ht0 : w.cell? t = some old) (_hf0 : w.frozen? t = false) :
    Calls Tryd.prog 30 #[V 0, .iface 34 (.pointer (some t)), .agg #[.pointer (some ⟨1, 34, none⟩), .pointer (some a), .int .u64 150], .iface 86 (.agg #[.pointer (some ⟨1, 32, none⟩)])] w fun ev w' => ev = .returned (.bool false) ∧ Below w.heap.size w w' := by
  have HC := Lib.hid hch; clear hch
  have HV := Lib.hid hV; clear hV
  have h10 := @run_callFunc_extern Tryd.prog 31 _ ReflectliteType.typeOf Tryd.func31 (by kernel_rfl) (by kernel_rfl) (by kernel_rfl) (by kernel_rfl)
  have h35 := @run_callFunc_extern Tryd.prog 64 _ (ReflectliteType.relation "AssignableTo" ReflectliteType.assignableTo) Tryd.func64 (by kernel_rfl) (by kernel_rfl) (by kernel_rfl) (by kernel_rfl)
  have tS := Tryd.typeOfStep
  have aS := Tryd.assignableStepP
  have mA := Tryd.methodAssignableTo
  have sA := Tryd.stepNoAs
  have sU := Tryd.stepUnwraps
  have tE := stp.Tryd.typeOfES
  have aE := Tryd.assignableESF
  have n1 := stp.Tryd.esNoAs
  have n2 := stp.Tryd.esNoUnwrap
  have n3 := stp.Tryd.esNoUnwraps
  have hal : a.block < w.heap.size := World.block_lt_of_cell? _ _ ha
  have htl : t.block < w.heap.size := World.block_lt_of_cell? _ _ ht0
  clear ha ht0
  go_enter Tryd.func30, Tryd.ntmps30
  go_wp2
  go_loopg [0] n (fun g v wx => (w.alloc (.cells #[.pointer (some ⟨1, 34, none⟩), .pointer (some a), .int .u64 150] 63)) = wx ∧ ∃ i, i ≤ n ∧ g = n - i ∧ v = V i)
  case atStart => exact ⟨rfl, 0, Nat.zero_le _, rfl, rfl⟩
  case round =>
    obtain ⟨rfl, i, hi, rfl, rfl⟩ := hrel
    by_cases hlt : i < n
    · have e1 := HC.out.step i hlt
      have hc1 : (w.alloc (.cells #[.pointer (some ⟨1, 34, none⟩), .pointer (some a), .int .u64 150] 63)).cell? ⟨B i, 1, none⟩ = some (V (i + 1)) := (World.cell?_alloc_lt _ _ ⟨B i, 1, none⟩ (World.block_lt_of_cell? _ _ (HC.out.next i hlt))).trans (HC.out.next i hlt)
      have hnx : ∃ T x, V (i + 1) = .iface T x ∧ (T = 75 ∨ T = 72) := by
        by_cases hl2 : i + 1 < n
        · exact ⟨_, _, HC.out.step (i + 1) hl2, Or.inl rfl⟩
        · obtain rfl : n = i + 1 := by omega
          exact ⟨_, _, HV.out, Or.inr rfl⟩
      obtain ⟨T, x, hu, hT⟩ := hnx
      rw [e1]
      rw [hu] at hc1
      have HU := Lib.hid hu
      clear e1 hu
      obtain ⟨b, hb⟩ : ∃ b, B i = b := ⟨_, rfl⟩
      rw [hb] at hc1 ⊢
      clear hb
      rcases hT with rfl | rfl
      all_goals
        go_wp2
        go_roundg (n - (i + 1))
        case rel => exact ⟨rfl, i + 1, by omega, rfl, HU.out.symm⟩
        case measure => omega
    · obtain rfl : i = n := by omega
      rw [HV.out]
      go_wp2
      go_ret
      exact ⟨rfl, (Below.refl _ _).alloc (Nat.le_refl _) _⟩
set_option maxRecDepth 100000 in
set_option maxHeartbeats 4000000 in
theorem as_anyES (n : Nat) (V : Nat → Value) (B : Nat → Nat) (S : Nat → ByteArray) (e t : Addr) (old : Value) (w : World) (hch : ChainAt w n V B S) (hV : V n = .iface 72 (.pointer (some e))) (hg0 : ErrT w) (ht0 : w.cell? t = some old) (hf0 : w.frozen? t = false) :
    Calls Tryd.prog 16 #[V 0, .iface 34 (.pointer (some t))] w fun ev w' => ev = .returned (.bool false) ∧ Below w.heap.size w w' := by
  have HC := Lib.hid hch; clear hch
  have HV := Lib.hid hV; clear hV
  have hg : w.cell? ⟨0, 0, none⟩ = some (.iface 86 (.agg #[.pointer (some ⟨1, 25, none⟩)])) := hg0
  clear hg0
  have h6 := @run_callFunc_extern Tryd.prog 27 _ (fun args => ReflectliteValue.unpack (args.getD 0 (.tuple #[]))) Tryd.func27 (by kernel_rfl) (by kernel_rfl) (by kernel_rfl) (by kernel_rfl)
  have h7 := @run_callFunc_extern Tryd.prog 28 _ (ReflectliteValue.methodAny (ReflectliteValue.valueError "reflectlite.Value.Type" 0) (fun t _ _ _ => ReflectliteType.toType t)) Tryd.func28 (by kernel_rfl) (by kernel_rfl) (by kernel_rfl) (by kernel_rfl)
  have h8 := @run_callFunc_extern Tryd.prog 29 _ (ReflectliteValue.method (ReflectliteValue.valueError "reflectlite.Value.IsNil" 0) ReflectliteValue.isNil) Tryd.func29 (by kernel_rfl) (by kernel_rfl) (by kernel_rfl) (by kernel_rfl)
  have h27 := @run_callFunc_extern Tryd.prog 51 _ (ReflectliteType.abiMethod fun t => do pure (.int .u8 (← Rtype.kind t))) Tryd.func51 (by kernel_rfl) (by kernel_rfl) (by kernel_rfl) (by kernel_rfl)
  have h37 := @run_callFunc_extern Tryd.prog 66 _ (ReflectliteType.method ReflectliteType.elem) Tryd.func66 (by kernel_rfl) (by kernel_rfl) (by kernel_rfl) (by kernel_rfl)
  have h38 := @run_callFunc_extern Tryd.prog 67 _ (ReflectliteType.relation "Implements" ReflectliteType.implements_) Tryd.func67 (by kernel_rfl) (by kernel_rfl) (by kernel_rfl) (by kernel_rfl)
  have f6 := Tryd.valueOfPP
  have f7 := Tryd.typePP
  have mK := Tryd.methodKind
  have mE := Tryd.methodElem
  have mI := Tryd.methodImplements
  have k27 := Tryd.kindPP
  have k25 := Tryd.kindP
  have e27 := Tryd.elemPP
  have i25 := Tryd.implementsP
  have n8 := Tryd.isNilPP ⟨w.heap.size, 0, none⟩ t ((w.alloc (.cells #[.pointer (some t)] 34)).alloc (.cells #[.pointer (some ⟨1, 34, none⟩), .pointer (some ⟨w.heap.size, 0, none⟩), .int .u64 150] 63)) (by simp)
  have hlt : 0 < w.heap.size := by
    rcases Nat.lt_or_ge 0 w.heap.size with h | h
    · exact h
    · simp [World.cell?, Array.getElem?_eq_none h] at hg
  have hg2 : ((w.alloc (.cells #[.pointer (some t)] 34)).alloc (.cells #[.pointer (some ⟨1, 34, none⟩), .pointer (some ⟨w.heap.size, 0, none⟩), .int .u64 150] 63)).cell? ⟨0, 0, none⟩ = some (.iface 86 (.agg #[.pointer (some ⟨1, 25, none⟩)])) := by
    rw [World.cell?_alloc_lt _ _ ⟨0, 0, none⟩ (by simp <;> omega), World.cell?_alloc_lt _ _ ⟨0, 0, none⟩ hlt]; exact hg
  have htl : t.block < w.heap.size := by
    rcases Nat.lt_or_ge t.block w.heap.size with h | h
    · exact h
    · simp [World.cell?, Array.getElem?_eq_none h] at ht0
  have hB : Below w.heap.size w ((w.alloc (.cells #[.pointer (some t)] 34)).alloc (.cells #[.pointer (some ⟨1, 34, none⟩), .pointer (some ⟨w.heap.size, 0, none⟩), .int .u64 150] 63)) := ((Below.refl _ _).alloc (Nat.le_refl _) _).alloc (by simp) _
  have hin := as_inES n V B S e t ⟨w.heap.size, 0, none⟩ old ((w.alloc (.cells #[.pointer (some t)] 34)).alloc (.cells #[.pointer (some ⟨1, 34, none⟩), .pointer (some ⟨w.heap.size, 0, none⟩), .int .u64 150] 63)) (HC.out.below hB (Nat.le_refl _)) HV.out (by simp) ((hB.cell (p := t) htl).trans ht0) ((hB.frozen (p := t) htl).trans hf0)
  have HIN := Lib.hid hin
  have HBB := Lib.hid hB
  clear hin ht0 hf0 hB
  obtain ⟨T, x, hu⟩ : ∃ T x, V 0 = .iface T x := by
    rcases Nat.eq_zero_or_pos n with rfl | hp
    · exact ⟨_, _, HV.out⟩
    · exact ⟨_, _, HC.out.step 0 hp⟩
  rw [hu] at HIN ⊢
  clear hu HC HV
  go_enter Tryd.func16, Tryd.ntmps16
  go_wp2_with (go_at_call 30; refine HIN.out.mono ?_; rintro ev w' ⟨rfl, hw⟩)
  go_ret
  exact ⟨rfl, HBB.out.trans (hw.mono (by simp; omega))⟩

/-- An error: n steps around one of errors.New's in block b. -/
structure EsAt (w : World) (n : Nat) (V : Nat → Value) (B : Nat → Nat) (S : Nat → ByteArray) (b : Nat) (nm : ByteArray) : Prop where
  chain : ChainAt w n V B S
  last : V n = .iface 72 (.pointer (some ⟨b, 0, none⟩))
  text : w.cell? ⟨b, 0, none⟩ = some (.string nm)
theorem EsAt.below {w w' : World} {n : Nat} {V : Nat → Value} {B : Nat → Nat} {S : Nat → ByteArray} {b : Nat} {nm : ByteArray} (h : EsAt w n V B S b nm) {k : Nat} (hb : Below k w w') (hk : w.heap.size ≤ k) : EsAt w' n V B S b nm := by
  have hl : b < k := Nat.lt_of_lt_of_le (World.block_lt_of_cell? _ _ h.text) hk
  exact ⟨h.chain.below hb hk, h.last, (hb.cell (p := ⟨b, 0, none⟩) hl).trans h.text⟩
theorem EsAt.form {w : World} {n : Nat} {V : Nat → Value} {B : Nat → Nat} {S : Nat → ByteArray} {b : Nat} {nm : ByteArray} (h : EsAt w n V B S b nm) (i : Nat) (hi : i ≤ n) : ∃ T x, V i = .iface T x ∧ (T = 75 ∨ T = 72) := by
  by_cases h2 : i < n
  · exact ⟨_, _, h.chain.step i h2, Or.inl rfl⟩
  · obtain rfl : i = n := by omega
    exact ⟨_, _, h.last, Or.inr rfl⟩

section
variable {n : Nat} {V : Nat → Value} {B : Nat → Nat} {S : Nat → ByteArray} {b : Nat} {nm : ByteArray}

theorem find_es (w : World) (hg : ErrT w) (h : EsAt w n V B S b nm) :
    Calls Tryd.prog 24 #[V 0] w fun ev w' => ev = .returned (.pointer none) ∧ Below w.heap.size w w' := by
  have hbl : Below w.heap.size w (w.alloc (.cells #[.pointer none] 32)) := (Below.refl _ _).alloc (Nat.le_refl _) _
  have hh := as_anyES n V B S ⟨b, 0, none⟩ ⟨w.heap.size, 0, none⟩ (.pointer none) (w.alloc (.cells #[.pointer none] 32)) (h.chain.below hbl (Nat.le_refl _)) h.last (hg.alloc _) (by simp) (by simp)
  obtain ⟨T, x, hu, _⟩ := h.form 0 (Nat.zero_le _)
  rw [hu] at hh ⊢
  have HH := Lib.hid hh
  have HB := Lib.hid hbl
  clear hh hu hbl
  go_enter Tryd.func24, Tryd.ntmps24
  go_wp2_with (go_at_call 16; refine HH.out.mono ?_; rintro ev w' ⟨rfl, hw⟩)
  go_ret
  exact ⟨rfl, HB.out.trans (hw.mono (by simp))⟩
theorem code_es (w : World) (hg : ErrT w) (h : EsAt w n V B S b nm) :
    Calls Tryd.prog 11 #[V 0] w fun e w' => e = .returned (.int .i64 (-1)) ∧ Below w.heap.size w w' := by
  have hf := find_es w hg h
  obtain ⟨T, x, hu, _⟩ := h.form 0 (Nat.zero_le _)
  rw [hu] at hf ⊢
  have HF := Lib.hid hf
  clear hf hu h
  go_enter Tryd.func11, Tryd.ntmps11
  go_wp2_with fail
  refine HF.out.mono ?_; rintro e w' ⟨rfl, hw⟩
  go_wp2_with fail
  go_ret
  exact ⟨rfl, hw⟩
theorem at_es (w : World) (hg : ErrT w) (h : EsAt w n V B S b nm) :
    Calls Tryd.prog 12 #[V 0] w fun e w' => e = .returned (.int .i64 0) ∧ Below w.heap.size w w' := by
  have hf := find_es w hg h
  obtain ⟨T, x, hu, _⟩ := h.form 0 (Nat.zero_le _)
  rw [hu] at hf ⊢
  have HF := Lib.hid hf
  clear hf hu h
  go_enter Tryd.func12, Tryd.ntmps12
  go_wp2_with fail
  refine HF.out.mono ?_; rintro e w' ⟨rfl, hw⟩
  go_wp2_with fail
  go_ret
  exact ⟨rfl, hw⟩
theorem unwrap_esv (x : Value) (w : World) :
    Calls Tryd.prog 21 #[.iface 72 x] w fun e w' => e = .returned .nilIface ∧ w = w' := by
  have n2 := stp.Tryd.esNoUnwrap
  go_enter Tryd.func21, Tryd.ntmps21
  go_wp2
  go_ret
  exact ⟨rfl, rfl⟩

theorem as_es_new (e : Addr) (w : World) (hg : ErrT w) :
    Calls Tryd.prog 16 #[.iface 72 (.pointer (some e)), .iface 83 (.pointer (some ⟨w.heap.size, 0, none⟩))] (w.alloc (.cells #[.pointer none] 75)) fun ev w' => ev = .returned (.bool false) ∧ Below w.heap.size w w' ∧ w.heap.size < w'.heap.size := by
  refine (stp.as_missES e ⟨w.heap.size, 0, none⟩ (.pointer none) (w.alloc (.cells #[.pointer none] 75)) (hg.alloc _) (by simp) (by simp)).mono ?_
  rintro ev w' ⟨rfl, rfl⟩
  exact ⟨rfl, by go_grown, by simp; omega⟩
set_option maxRecDepth 100000 in
set_option maxHeartbeats 4000000 in
theorem unroll_es (w : World) (hg : ErrT w) (hn : n ≤ 100000) (h : EsAt w n V B S b nm) :
    Calls Tryd.prog 23 #[V 0] w (UnrollTells w n S (V n)) := by
  have H := Lib.hid h
  have HF := Lib.hid (fun i hi => h.form i hi)
  clear h
  obtain ⟨i0, hi, hz0, hz1, hz2⟩ := info_parts Tryd.infoString
  go_enter Tryd.func23, Tryd.ntmps23
  go_wp2
  go_loopg [0, 4] n (fun g v l wr => ∃ i, i ≤ n ∧ g = n - i ∧ v = V i ∧ wr.ownsRow w.heap.size 9 1 l i ((List.range i).map fun i => Value.string (S i)) ∧ Below w.heap.size w wr)
  case atStart => exact ⟨0, Nat.zero_le _, rfl, rfl, World.ownsRow_nil _ _ _ _, Below.refl _ _⟩
  case round =>
    obtain ⟨i, hile, rfl, rfl, ho, hb⟩ := hrel
    have hs := hb.size
    have hgr := hg.below hb (Nat.le_refl _)
    by_cases hlt : i < n
    · have e1 := H.out.chain.step i hlt
      have hlb : B i < w.heap.size := World.block_lt_of_cell? _ _ (H.out.chain.word i hlt)
      have HAS := Lib.hid (as_step_new ⟨B i, 0, none⟩ wr hgr)
      rw [e1]
      clear e1
      go_wp2_with fail
      refine HAS.out.mono ?_; rintro ev w2 ⟨rfl, hb2, hc2, hs2⟩
      have B2 := hb.trans (hb2.mono hs)
      have ho2 := own_below ho hb2 (Nat.le_refl _)
      have hol := Lib.hid (fun k hk => (ho.lt k hk).2)
      have cw := (B2.cell (p := ⟨B i, 0, none⟩) hlb).trans (H.out.chain.word i hlt)
      have cn := (B2.cell (p := ⟨B i, 1, none⟩) hlb).trans (H.out.chain.next i hlt)
      have HEQ : Hid (V (i + 1) = V (i + 1)) := rfl
      obtain ⟨u, hu⟩ : ∃ u, V (i + 1) = u := ⟨_, rfl⟩
      rw [hu] at cn
      have HU := Lib.hid hu
      obtain ⟨sw, hsw⟩ : ∃ sw, S i = sw := ⟨_, rfl⟩
      rw [hsw] at cw
      have HSW := Lib.hid hsw
      clear hb2 hu hsw HAS ho hb HEQ
      go_wp2_with (at_builtin; refine wpList_append_own _ rfl _ _ 22 rfl w.heap.size 9 i0 (.string ⟨#[]⟩) 1 16 Tryd.underlying22 hi hz0 hz1 hz2 rfl (by decide) _ _ _ rfl (ho2.alloc _) ⟨w2.heap.size, 0, none⟩ 1 1 [.string sw] rfl rfl ?_ ?_ ?_ ?_ ?_ ?_)
      rotate_right
      · intro v' w5 hown' hgrow _
        have hbw5 := (B2.alloc (by omega) (.cells #[.string sw] 9)).grown hgrow (by simp; omega) (fun k hk => (ho2.lt k hk).1)
        have hcs : w5.cell? ⟨wr.heap.size, 0, none⟩ = some (.pointer (some ⟨B i, 0, none⟩)) := by
          refine (World.cell?_of_block (w := w2.alloc (.cells #[.string sw] 9)) (hgrow.block wr.heap.size (by simp; omega) (fun e => ?_))).trans ((World.cell?_alloc_lt _ _ ⟨wr.heap.size, 0, none⟩ hs2).trans hc2)
          have := hol.out _ e.symm
          omega
        have cn5 := (hbw5.cell (p := ⟨B i, 1, none⟩) hlb).trans (H.out.chain.next i hlt)
        rw [HU.out] at cn5
        have e1 : ((List.range i).map fun i => Value.string (S i)) ++ [Value.string sw] = (List.range (i + 1)).map fun i => Value.string (S i) := by rw [List.range_succ, List.map_append, ← HSW.out]; rfl
        rw [e1] at hown'
        clear e1 hgrow ho2 hc2 cn cw B2
        go_wp2_with fail
        go_roundg (n - (i + 1))
        case rel => exact ⟨i + 1, by omega, rfl, HU.out.symm, hown', hbw5⟩
        case measure => omega
      · intro j u hj
        match j, hj with
        | 0, hj => simp at hj; subst hj; simp [Addr.add]
      · intro u hu; simp at hu; subst hu; rfl
      · unfold maxLen; omega
      · omega
      · simp; omega
    · obtain rfl : i = n := by omega
      have HAS := Lib.hid (as_es_new ⟨b, 0, none⟩ wr hgr)
      have n2 := unwrap_esv (.pointer (some ⟨b, 0, none⟩))
      have N2 := Lib.hid n2
      clear n2
      rw [H.out.last]
      go_wp2_with fail
      refine HAS.out.mono ?_; rintro ev w2 ⟨rfl, hb2, hs2⟩
      have B2 := hb.trans (hb2.mono hs)
      have ho2 := own_below ho hb2 (Nat.le_refl _)
      clear hb2 HAS ho hb
      go_wp2_with fail
      refine wp_loop_rounds 2 ?_
      rw [rounds_succ]
      go_wp2_with fail
      refine (N2.out _).mono ?_; rintro ev w3 ⟨rfl, rfl⟩
      go_wp2_with fail
      rw [rounds_succ]
      go_wp2_with fail
      go_ret2
      refine ⟨_, ?_, ho2, B2⟩
      rw [H.out.last]
      rfl

theorem words_es (w : World) (hg : ErrT w) (hn : n ≤ 100000) (h : EsAt w n V B S b nm) :
    Calls Tryd.prog 10 #[V 0] w (WordsTells w n S) := by
  have hu := unroll_es w hg hn h
  obtain ⟨T, x, h0, _⟩ := h.form 0 (Nat.zero_le _)
  rw [h0] at hu ⊢
  have HU := Lib.hid hu
  clear hu h0
  go_enter Tryd.func10, Tryd.ntmps10
  go_wp2_with fail
  refine HU.out.mono ?_; rintro e w2 ⟨v, rfl, ho, hb⟩
  go_wp2_with fail
  go_ret
  exact ⟨_, rfl, own_strsV ho, hb⟩

end
theorem Tryd.methodErrorES (v : Value) (w : World) : (Go.method 228 72 v "Error").run Tryd.prog w = .ok (60, v) w := by kernel_rfl
theorem errorTextES (b : Nat) (s : ByteArray) (w : World) (h : w.cell? ⟨b, 0, none⟩ = some (.string s)) :
    Calls Tryd.prog 60 #[.pointer (some ⟨b, 0, none⟩)] w fun e w' => e = .returned (.string s) ∧ w' = w := by
  go_enter Tryd.func60, Tryd.ntmps60
  go_wp2
  go_ret
  exact ⟨rfl, rfl⟩
theorem Tryd.esNoIs (v : Value) (w : World) : (Instr.typeAssert (.iface 72 v) 25 95 true).run Tryd.prog w = .ok (.tuple #[.nilIface, .bool false]) w :=
  run_typeAssert_lacksB Tryd.underlying95 (by kernel_rfl) (by kernel_rfl) v 25 w
section
variable {n : Nat} {V : Nat → Value} {B : Nat → Nat} {S : Nat → ByteArray} {b : Nat} {nm : ByteArray}
set_option maxRecDepth 100000 in
set_option maxHeartbeats 4000000 in
theorem text_es (w : World) (hg : ErrT w) (hn : n ≤ 100000) (h : EsAt w n V B S b nm) (hlen : (lead S n).length + nm.size ≤ 140737488355328) :
    Calls Tryd.prog 14 #[V 0] w fun e w' => e = .returned (.string ⟨(lead S n ++ nm.data.toList).toArray⟩) ∧ Below w.heap.size w w' := by
  have hu := unroll_es w hg hn h
  have H := Lib.hid h
  rw [h.last] at hu
  obtain ⟨T, x, h0, _⟩ := h.form 0 (Nat.zero_le _)
  rw [h0] at hu ⊢
  have HU := Lib.hid hu
  have mE := Tryd.methodErrorES
  clear hu h0 h
  go_enter Tryd.func14, Tryd.ntmps14
  go_wp2_with (go_at_call 23; fail)
  refine HU.out.mono ?_; rintro e w2 ⟨v, rfl, ho, hb⟩
  have hsv := own_strsV ho
  have HE := Lib.hid (H.out.below hb (Nat.le_refl _))
  have hsz := hb.size
  clear ho
  obtain ⟨ao, cap, rfl⟩ := hsv.form
  have HS := Lib.hid hsv
  clear hsv
  have hfr := Lib.fresh_isBuilder 56 5 w2
  have HF := Lib.hid hfr
  clear hfr
  go_wp2_with fail
  go_loopg [17] n (fun g v wr => ∃ i, i ≤ n ∧ g = n - i ∧ v = .int .i64 (i : Int) ∧ TextLoop w2.heap.size S w2 i wr)
  case atStart => exact ⟨0, Nat.zero_le _, rfl, rfl, HF.out, (Below.refl _ _).alloc (Nat.le_refl _) _⟩
  case round =>
    obtain ⟨i, hile, rfl, rfl, hB, hb2⟩ := hrel
    have hs2 := hb2.size
    by_cases hlt : i < n
    · have hmono := lead_mono S (show i + 1 ≤ n by omega)
      simp only [lead, List.length_append, List.length_cons, List.length_nil] at hmono
      have hsz1 : (S i).data.toList.length = (S i).size := Array.length_toList
      rcases HS.out with ⟨h0, _⟩ | ⟨_, b0, off, cap', e, hc⟩
      · omega
      · injection e with e1 e2 e3
        subst e1
        have hci := hc i hlt
        have hl0 := World.block_lt_of_cell? _ _ hci
        have hcr := (hb2.cell (p := ⟨b0, off + i, none⟩) hl0).trans hci
        obtain ⟨sw, hsw⟩ : ∃ sw, S i = sw := ⟨_, rfl⟩
        rw [hsw] at hcr hsz1 hmono
        have d1 : decide ((i : Int) < n) = true := decide_eq_true (by omega)
        have HW1 := Lib.hid (writeString_any w2.heap.size w2.heap.size (Lib.byteCells (lead S i)) sw wr hB (by rw [Lib.byteCells_length]; omega) hs2)
        have HSW := Lib.hid hsw
        clear hsw hc hci hB e3
        go_wp2_with (go_at_call 25; fail)
        refine HW1.out.mono ?_; rintro ev w3 ⟨rfl, hB3, hb3⟩
        have hs3 := hb3.size
        have HW2 := Lib.hid (writeString_any w2.heap.size w2.heap.size (Lib.byteCells (lead S i) ++ Lib.strCells sw) ⟨#[58, 32]⟩ w3 hB3 (by rw [List.length_append, Lib.byteCells_length, Lib.strCells_length]; have e2 : (⟨#[58, 32]⟩ : ByteArray).size = 2 := rfl; rw [e2]; omega) (by omega))
        clear hB3
        go_wp2_with (go_at_call 25; fail)
        refine HW2.out.mono ?_; rintro ev w4 ⟨rfl, hB4, hb4⟩
        have hb5 := (hb2.trans hb3).trans hb4
        rw [byteCells_app, byteCells_app, List.append_assoc] at hB4
        have he : lead S i ++ (sw.data.toList ++ [58, 32]) = lead S (i + 1) := by rw [← HSW.out]; rfl
        have hB5 : TextLoop w2.heap.size S w2 (i + 1) w4 := ⟨by rw [← he]; exact hB4, hb5⟩
        clear hB4 hb5 hb2 hb3 hb4 hcr
        go_wp2_with fail
        go_roundg (n - (i + 1))
        case rel => exact ⟨i + 1, by omega, rfl, by go_num, hB5⟩
        case measure => omega
    · obtain rfl : i = n := by omega
      have d1 : decide ((i : Int) < i) = false := decide_eq_false (by omega)
      have hE := (HE.out.below hb2 (Nat.le_refl _)).text
      have hB0 := hB
      have HET := Lib.hid (errorTextES b nm wr hE)
      have HW1 := Lib.hid (writeString_any w2.heap.size w2.heap.size (Lib.byteCells (lead S i)) nm wr hB0 (by rw [Lib.byteCells_length]; omega) hs2)
      clear hB0 hE hB
      go_wp2_with fail
      refine HET.out.mono ?_; rintro ev w3 ⟨rfl, rfl⟩
      go_wp2_with fail
      refine HW1.out.mono ?_; rintro ev w4 ⟨rfl, hB4, hb4⟩
      rw [byteCells_app] at hB4
      have hs4 := hb4.size
      have HST := Lib.hid (string_any w2.heap.size w2.heap.size _ w4 hB4 (by omega))
      clear hB4
      go_wp2_with fail
      refine HST.out.mono ?_; rintro ev w5 ⟨rfl, hb5⟩
      go_wp2_with fail
      go_ret
      exact ⟨rfl, hb.trans ((((hb2.trans hb4).trans hb5)).mono hsz)⟩
set_option maxRecDepth 100000 in
set_option maxHeartbeats 4000000 in
theorem is_inES (t : Nat) (ct : Int) (w : World) (h : EsAt w n V B S b nm) (ht : w.heap[t]? = some (.cells #[.int .i64 ct, .int .i64 0, .string ⟨#[]⟩] 36)) :
    Calls Tryd.prog 32 #[V 0, .iface 32 (.pointer (some ⟨t, 0, none⟩)), .bool true] w fun e w' => e = .returned (.bool (false)) ∧ ∃ d, w' = w.drewN d := by
  have H := Lib.hid h
  have nS := Tryd.stepNoIs
  have uS := Tryd.stepUnwraps
  have nI := Tryd.esNoIs
  have n2 := stp.Tryd.esNoUnwrap
  have n3 := stp.Tryd.esNoUnwraps
  have HTT := Lib.hid ht
  clear h ht
  go_enter Tryd.func32, Tryd.ntmps32
  go_wp2
  go_loopg [0] n (fun g v wx => wx = w ∧ ∃ i, i ≤ n ∧ g = n - i ∧ v = V i)
  case atStart => exact ⟨rfl, 0, Nat.zero_le _, rfl, rfl⟩
  case round =>
    obtain ⟨rfl, i, hi, rfl, rfl⟩ := hrel
    by_cases hlt : i < n
    · have e1 := H.out.chain.step i hlt
      have hc1 := H.out.chain.next i hlt
      obtain ⟨T, x, hu, hT⟩ := H.out.form (i + 1) hlt
      rw [e1]
      rw [hu] at hc1
      have HU := Lib.hid hu
      clear e1 hu
      obtain ⟨b1, hb⟩ : ∃ b1, B i = b1 := ⟨_, rfl⟩
      rw [hb] at hc1 ⊢
      clear hb
      have hty := run_eql_iface_types (P := Tryd.prog) 75 32 (.pointer (some ⟨b1, 0, none⟩)) (.pointer (some ⟨t, 0, none⟩)) Tryd.underlying25 (by decide) wr
      go_wp2
      go_roundg (n - (i + 1))
      case rel => exact ⟨rfl, i + 1, by omega, rfl, HU.out.symm⟩
      case measure => omega
    · obtain rfl : i = n := by omega
      rw [H.out.last]
      have hty := run_eql_iface_types (P := Tryd.prog) 72 32 (.pointer (some ⟨b, 0, none⟩)) (.pointer (some ⟨t, 0, none⟩)) Tryd.underlying25 (by decide) wr
      go_wp2
      go_ret
      exact ⟨rfl, 0, rfl⟩

theorem errorsIs_es (t : Nat) (ct : Int) (w : World) (h : EsAt w n V B S b nm) (ht : w.heap[t]? = some (.cells #[.int .i64 ct, .int .i64 0, .string ⟨#[]⟩] 36)) :
    Calls Tryd.prog 22 #[V 0, .iface 32 (.pointer (some ⟨t, 0, none⟩))] w fun e w' => e = .returned (.bool (false)) ∧ ∃ d, w' = w.drewN d := by
  have hi := is_inES t ct w h ht
  have h8 := @run_callFunc_extern Tryd.prog 31 _ ReflectliteType.typeOf Tryd.func31 (by kernel_rfl) (by kernel_rfl) (by kernel_rfl) (by kernel_rfl)
  have h32 := @run_callFunc_extern Tryd.prog 65 _ (ReflectliteType.method cmpFn) Tryd.func65 (by kernel_rfl) (by kernel_rfl) (by kernel_rfl) (by kernel_rfl)
  have tT := Tryd.typeOfP
  have cT := Tryd.isComparableP
  have mR := Tryd.methodComparable
  obtain ⟨T, x, hu, _⟩ := h.form 0 (Nat.zero_le _)
  rw [hu] at hi ⊢
  have HI := Lib.hid hi
  clear hi hu h ht
  go_enter Tryd.func22, Tryd.ntmps22
  go_wp2_with (go_at_call 32; refine HI.out.mono ?_; rintro ev w2 ⟨rfl, d, rfl⟩)
  go_ret
  exact ⟨rfl, d, rfl⟩

theorem faultIs_es (ct : Int) (w : World) (h : EsAt w n V B S b nm) :
    Calls Tryd.prog 13 #[V 0, .int .i64 ct] w fun e w' => e = .returned (.bool (false)) ∧ Below w.heap.size w w' := by
  have h1 := h.below (k := w.heap.size) ((Below.refl _ _).alloc (Nat.le_refl _) (.cells #[.int .i64 ct, .int .i64 0, .string ⟨#[]⟩] 36)) (Nat.le_refl _)
  have hi := errorsIs_es w.heap.size ct _ h1 (World.alloc_heap_new _ _)
  obtain ⟨T, x, hu, _⟩ := h.form 0 (Nat.zero_le _)
  rw [hu] at hi ⊢
  have HI := Lib.hid hi
  clear hi hu h h1
  go_enter Tryd.func13, Tryd.ntmps13
  go_wp2_with (go_at_call 22; refine HI.out.mono ?_; rintro ev w2 ⟨rfl, d, rfl⟩)
  go_ret
  exact ⟨rfl, below_drewN ((Below.refl _ _).alloc (Nat.le_refl _) _) _⟩
end
end Go.Proofs.YtoekepfppagbdaaDoor
