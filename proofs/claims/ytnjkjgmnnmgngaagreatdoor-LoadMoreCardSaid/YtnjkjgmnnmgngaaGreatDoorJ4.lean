/- fault's calls over chains of steps around a fault: contracts. errors.Is through steps to a fault; fault.Is; fault.In's loop. strings.Builder's copyCheck, WriteString and String, where NoEscape stands in place. fault.Text over a chain; fault.In's loop. -/
import Derived.Test.YtnjkjgmnnmgngaaGreatDoorAsStep
import Derived.LaidEql
import Derived.Deep.QuietTactic
import Derived.BigQuiet
import Derived.WalkSmall
import Derived.RangeFuncRecord
import Derived.Shelf.Strings.Builder1
namespace Go.Proofs.YtnjkjgmnnmgngaaGreatDoor
section
open Go.RowKit Go.Extern.Stop Go.Stop Go.Extern

/-- An error: n steps around a fault in block b of code c, at a place, with a name. -/
structure ErrAt (w : World) (n : Nat) (V : Nat → Value) (B : Nat → Nat) (S : Nat → ByteArray) (b : Nat) (c a : Int) (nm : ByteArray) : Prop where
  chain : ChainAt w n V B S
  last : V n = .iface 60 (.pointer (some ⟨b, 0, none⟩))
  cells : w.heap[b]? = some (.cells #[.int .i64 c, .int .i64 a, .string nm] 63)
theorem ErrAt.code {w : World} {n : Nat} {V : Nat → Value} {B : Nat → Nat} {S : Nat → ByteArray} {b : Nat} {c a : Int} {nm : ByteArray} (h : ErrAt w n V B S b c a nm) : w.cell? ⟨b, 0, none⟩ = some (.int .i64 c) := by simp [World.cell?, h.cells]
theorem ErrAt.place {w : World} {n : Nat} {V : Nat → Value} {B : Nat → Nat} {S : Nat → ByteArray} {b : Nat} {c a : Int} {nm : ByteArray} (h : ErrAt w n V B S b c a nm) : w.cell? ⟨b, 1, none⟩ = some (.int .i64 a) := by simp [World.cell?, h.cells]
theorem ErrAt.name {w : World} {n : Nat} {V : Nat → Value} {B : Nat → Nat} {S : Nat → ByteArray} {b : Nat} {c a : Int} {nm : ByteArray} (h : ErrAt w n V B S b c a nm) : w.cell? ⟨b, 2, none⟩ = some (.string nm) := by simp [World.cell?, h.cells]
theorem ErrAt.below {w w' : World} {n : Nat} {V : Nat → Value} {B : Nat → Nat} {S : Nat → ByteArray} {b : Nat} {c a : Int} {nm : ByteArray} (h : ErrAt w n V B S b c a nm) {k : Nat} (hb : Below k w w') (hk : w.heap.size ≤ k) : ErrAt w' n V B S b c a nm := by
  have hl : b < k := Nat.lt_of_lt_of_le (World.block_lt_of_cell? _ _ h.code) hk
  exact ⟨h.chain.below hb hk, h.last, (hb.block b hl).trans h.cells⟩
theorem ErrAt.form {w : World} {n : Nat} {V : Nat → Value} {B : Nat → Nat} {S : Nat → ByteArray} {b : Nat} {c a : Int} {nm : ByteArray} (h : ErrAt w n V B S b c a nm) (i : Nat) (hi : i ≤ n) : ∃ T x, V i = .iface T x ∧ (T = 135 ∨ T = 60) := by
  by_cases h2 : i < n
  · exact ⟨_, _, h.chain.step i h2, Or.inl rfl⟩
  · obtain rfl : i = n := by omega
    exact ⟨_, _, h.last, Or.inr rfl⟩

section
variable {n : Nat} {V : Nat → Value} {B : Nat → Nat} {S : Nat → ByteArray} {b : Nat} {c a : Int} {nm : ByteArray}

theorem find_chain (w : World) (hg : ErrT w) (h : ErrAt w n V B S b c a nm) :
    Calls Tryz.prog 30 #[V 0] w fun ev w' => ev = .returned (.pointer (some ⟨b, 0, none⟩)) ∧ Below w.heap.size w w' := by
  have hbl : Below w.heap.size w (w.alloc (.cells #[.pointer none] 60)) := (Below.refl _ _).alloc (Nat.le_refl _) _
  have hh := as_any n V B S ⟨b, 0, none⟩ ⟨w.heap.size, 0, none⟩ (.pointer none) (w.alloc (.cells #[.pointer none] 60)) (h.chain.below hbl (Nat.le_refl _)) h.last (hg.alloc _) (by simp) (by simp)
  obtain ⟨T, x, hu, _⟩ := h.form 0 (Nat.zero_le _)
  rw [hu] at hh ⊢
  have HH := Lib.hid hh
  clear hh hu hbl
  go_enter Tryz.func30, Tryz.ntmps30
  go_wp2_with (go_at_call 58; refine HH.out.mono ?_; rintro ev w' ⟨rfl, rfl⟩)
  go_ret
  refine ⟨rfl, ?_⟩
  go_grown

theorem code_chain (w : World) (hg : ErrT w) (h : ErrAt w n V B S b c a nm) :
    Calls Tryz.prog 10 #[V 0] w fun e w' => e = .returned (.int .i64 c) ∧ Below w.heap.size w w' := by
  have hf := find_chain w hg h
  have hbl : b < w.heap.size := World.block_lt_of_cell? _ _ h.code
  have hc := h.code
  obtain ⟨T, x, hu, _⟩ := h.form 0 (Nat.zero_le _)
  rw [hu] at hf ⊢
  have HF := Lib.hid hf
  clear hf hu
  go_enter Tryz.func10, Tryz.ntmps10
  go_wp2_with (go_at_call 30; refine HF.out.mono ?_; rintro ev w' ⟨rfl, hw⟩; have hc' := (hw.cell (p := ⟨b, 0, none⟩) hbl).trans hc; clear hc)
  go_ret
  exact ⟨rfl, by assumption⟩
theorem at_chain (w : World) (hg : ErrT w) (h : ErrAt w n V B S b c a nm) :
    Calls Tryz.prog 11 #[V 0] w fun e w' => e = .returned (.int .i64 a) ∧ Below w.heap.size w w' := by
  have hf := find_chain w hg h
  have hbl : b < w.heap.size := World.block_lt_of_cell? _ _ h.code
  have hc := h.place
  obtain ⟨T, x, hu, _⟩ := h.form 0 (Nat.zero_le _)
  rw [hu] at hf ⊢
  have HF := Lib.hid hf
  clear hf hu
  go_enter Tryz.func11, Tryz.ntmps11
  go_wp2_with (go_at_call 30; refine HF.out.mono ?_; rintro ev w' ⟨rfl, hw⟩; have hc' := (hw.cell (p := ⟨b, 1, none⟩) hbl).trans hc; clear hc)
  go_ret
  exact ⟨rfl, by assumption⟩

theorem unwrap_step (b1 : Nat) (u : Value) (w : World) (h : w.cell? ⟨b1, 1, none⟩ = some u) :
    Calls Tryz.prog 82 #[.iface 135 (.pointer (some ⟨b1, 0, none⟩))] w fun e w' => e = .returned u ∧ w = w' := by
  have sU := Tryz.stepUnwraps
  go_enter Tryz.func82, Tryz.ntmps82
  go_wp2
  go_ret
  exact ⟨rfl, rfl⟩
theorem unwrap_fault (x : Value) (w : World) :
    Calls Tryz.prog 82 #[.iface 60 x] w fun e w' => e = .returned .nilIface ∧ w = w' := by
  have n2 := stp.Tryz.faultNoUnwrap
  go_enter Tryz.func82, Tryz.ntmps82
  go_wp2
  go_ret
  exact ⟨rfl, rfl⟩

theorem as_step_new (e : Addr) (w : World) (hg : ErrT w) :
    Calls Tryz.prog 58 #[.iface 135 (.pointer (some e)), .iface 136 (.pointer (some ⟨w.heap.size, 0, none⟩))] (w.alloc (.cells #[.pointer none] 135)) fun ev w' => ev = .returned (.bool true) ∧ Below w.heap.size w w' ∧ w'.cell? ⟨w.heap.size, 0, none⟩ = some (.pointer (some e)) ∧ w.heap.size < w'.heap.size := by
  refine (stp.as_hit e ⟨w.heap.size, 0, none⟩ (.pointer none) (w.alloc (.cells #[.pointer none] 135)) (hg.alloc _) (by simp) (by simp)).mono ?_
  rintro ev w' ⟨rfl, rfl⟩
  refine ⟨rfl, ?_, ?_, ?_⟩
  · go_grown
  · apply World.cell?_setCell_same (u := .pointer none)
    rw [World.cell?_alloc_lt _ _ ⟨w.heap.size, 0, none⟩ (by simp; omega), World.cell?_alloc_lt _ _ ⟨w.heap.size, 0, none⟩ (by simp; omega), World.cell?_alloc_lt _ _ ⟨w.heap.size, 0, none⟩ (by simp; omega), World.cell?_alloc_lt _ _ ⟨w.heap.size, 0, none⟩ (by simp)]
    simp
  · simp; omega
theorem as_fault_new (e : Addr) (w : World) (hg : ErrT w) :
    Calls Tryz.prog 58 #[.iface 60 (.pointer (some e)), .iface 136 (.pointer (some ⟨w.heap.size, 0, none⟩))] (w.alloc (.cells #[.pointer none] 135)) fun ev w' => ev = .returned (.bool false) ∧ Below w.heap.size w w' ∧ w.heap.size < w'.heap.size := by
  refine (stp.as_miss e ⟨w.heap.size, 0, none⟩ (.pointer none) (w.alloc (.cells #[.pointer none] 135)) (hg.alloc _) (by simp) (by simp)).mono ?_
  rintro ev w' ⟨rfl, rfl⟩
  exact ⟨rfl, by go_grown, by simp; omega⟩
theorem own_below {w w' : World} {base e size n B : Nat} {v : Value} {xs : List Value} (h : w.ownsRow base e size v n xs) (hb : Below B w w') (hB : w.heap.size ≤ B) : w'.ownsRow base e size v n xs := by
  refine ⟨h.1, ?_⟩
  rcases h.2 with hn | ⟨g, cap, cur, rfl, hg, hh, r⟩
  · exact Or.inl hn
  · have hlt : g < w.heap.size := (Array.getElem?_eq_some_iff.1 hh).1
    exact Or.inr ⟨g, cap, cur, rfl, hg, by rw [hb.block g (by omega)]; exact hh, r⟩

theorem Tryz.infoString : (Tryz.prog.info? 9).map (fun i => (i.zero, i.size, i.bytes)) = some (some (.string ⟨#[]⟩), 1, 16) := by kernel_rfl

/-- What unroll tells: the words as a list of the call's own, and the last error. -/
def UnrollTells (w : World) (n : Nat) (S : Nat → ByteArray) (last : Value) (e : Ending) (w' : World) : Prop :=
  ∃ v, e = .returned (.tuple #[v, last]) ∧ w'.ownsRow w.heap.size 9 1 v n ((List.range n).map fun i => Value.string (S i)) ∧ Below w.heap.size w w'

set_option maxRecDepth 100000 in
set_option maxHeartbeats 4000000 in
theorem unroll_chain (w : World) (hg : ErrT w) (hn : n ≤ 100000) (h : ErrAt w n V B S b c a nm) :
    Calls Tryz.prog 56 #[V 0] w (UnrollTells w n S (V n)) := by
  have H := Lib.hid h
  have HF := Lib.hid (fun i hi => h.form i hi)
  clear h
  obtain ⟨i0, hi, hz0, hz1, hz2⟩ := info_parts Tryz.infoString
  go_enter Tryz.func56, Tryz.ntmps56
  go_wp2
  go_loopg [0, 4] n (fun g v l wr => ∃ i, i ≤ n ∧ g = n - i ∧ v = V i ∧ wr.ownsRow w.heap.size 9 1 l i ((List.range i).map fun i => Value.string (S i)) ∧ Below w.heap.size w wr)
  case atStart => exact ⟨0, Nat.zero_le _, rfl, rfl, World.ownsRow_nil _ _ _ _, Below.refl _ _⟩
  case round =>
    obtain ⟨i, hile, rfl, rfl, ho, hb⟩ := hrel
    have hs := hb.size
    have hgr := hg.below hb (Nat.le_refl _)
    by_cases hlt : i < n
    · have e1 := H.out.chain.step i hlt
      have hlb : B i < w.heap.size := World.block_lt_of_cell? _ _ (H.out.chain.word i hlt)
      have HAS := Lib.hid (as_step_new ⟨B i, 0, none⟩ wr hgr)
      rw [e1]
      clear e1
      go_wp2_with fail
      refine HAS.out.mono ?_; rintro ev w2 ⟨rfl, hb2, hc2, hs2⟩
      have B2 := hb.trans (hb2.mono hs)
      have ho2 := own_below ho hb2 (Nat.le_refl _)
      have hol := Lib.hid (fun k hk => (ho.lt k hk).2)
      have cw := (B2.cell (p := ⟨B i, 0, none⟩) hlb).trans (H.out.chain.word i hlt)
      have cn := (B2.cell (p := ⟨B i, 1, none⟩) hlb).trans (H.out.chain.next i hlt)
      have HEQ : Hid (V (i + 1) = V (i + 1)) := rfl
      obtain ⟨u, hu⟩ : ∃ u, V (i + 1) = u := ⟨_, rfl⟩
      rw [hu] at cn
      have HU := Lib.hid hu
      obtain ⟨sw, hsw⟩ : ∃ sw, S i = sw := ⟨_, rfl⟩
      rw [hsw] at cw
      have HSW := Lib.hid hsw
      clear hb2 hu hsw HAS ho hb HEQ
      go_wp2_with (at_builtin; refine wpList_append_own _ rfl _ _ 45 rfl w.heap.size 9 i0 (.string ⟨#[]⟩) 1 16 Tryz.underlying45 hi hz0 hz1 hz2 rfl (by decide) _ _ _ rfl (ho2.alloc _) ⟨w2.heap.size, 0, none⟩ 1 1 [.string sw] rfl rfl ?_ ?_ ?_ ?_ ?_ ?_)
      rotate_right
      · intro v' w5 hown' hgrow _
        have hbw5 := (B2.alloc (by omega) (.cells #[.string sw] 9)).grown hgrow (by simp; omega) (fun k hk => (ho2.lt k hk).1)
        have hcs : w5.cell? ⟨wr.heap.size, 0, none⟩ = some (.pointer (some ⟨B i, 0, none⟩)) := by
          refine (World.cell?_of_block (w := w2.alloc (.cells #[.string sw] 9)) (hgrow.block wr.heap.size (by simp; omega) (fun e => ?_))).trans ((World.cell?_alloc_lt _ _ ⟨wr.heap.size, 0, none⟩ hs2).trans hc2)
          have := hol.out _ e.symm
          omega
        have cn5 := (hbw5.cell (p := ⟨B i, 1, none⟩) hlb).trans (H.out.chain.next i hlt)
        rw [HU.out] at cn5
        have e1 : ((List.range i).map fun i => Value.string (S i)) ++ [Value.string sw] = (List.range (i + 1)).map fun i => Value.string (S i) := by rw [List.range_succ, List.map_append, ← HSW.out]; rfl
        rw [e1] at hown'
        clear e1 hgrow ho2 hc2 cn cw B2
        go_wp2_with fail
        go_roundg (n - (i + 1))
        case rel => exact ⟨i + 1, by omega, rfl, HU.out.symm, hown', hbw5⟩
        case measure => omega
      · intro j u hj
        match j, hj with
        | 0, hj => simp at hj; subst hj; simp [Addr.add]
      · intro u hu; simp at hu; subst hu; rfl
      · unfold maxLen; omega
      · omega
      · simp; omega
    · obtain rfl : i = n := by omega
      have HAS := Lib.hid (as_fault_new ⟨b, 0, none⟩ wr hgr)
      have n2 := unwrap_fault (.pointer (some ⟨b, 0, none⟩))
      have N2 := Lib.hid n2
      clear n2
      rw [H.out.last]
      go_wp2_with fail
      refine HAS.out.mono ?_; rintro ev w2 ⟨rfl, hb2, hs2⟩
      have B2 := hb.trans (hb2.mono hs)
      have ho2 := own_below ho hb2 (Nat.le_refl _)
      clear hb2 HAS ho hb
      go_wp2_with fail
      refine wp_loop_rounds 2 ?_
      rw [rounds_succ]
      go_wp2_with fail
      refine (N2.out _).mono ?_; rintro ev w3 ⟨rfl, rfl⟩
      go_wp2_with fail
      rw [rounds_succ]
      go_wp2_with fail
      go_ret2
      refine ⟨_, ?_, ho2, B2⟩
      rw [H.out.last]
      rfl

/-- A list of n strings in a world. -/
def StrsV (w : World) (v : Value) (n : Nat) (S : Nat → ByteArray) : Prop :=
  (n = 0 ∧ ∃ (ao : Option Addr) (cap : Nat), v = .slice ao 0 cap) ∨ (0 < n ∧ ∃ b off cap : Nat, v = .slice (some ⟨b, off, none⟩) n cap ∧ ∀ i, i < n → w.cell? ⟨b, off + i, none⟩ = some (.string (S i)))
theorem StrsV.below {w w' : World} {v : Value} {n : Nat} {S : Nat → ByteArray} (h : StrsV w v n S) {k : Nat} (hb : Below k w w') (hk : w.heap.size ≤ k) : StrsV w' v n S := by
  rcases h with h | ⟨h0, b, off, cap, rfl, hc⟩
  · exact Or.inl h
  · exact Or.inr ⟨h0, b, off, cap, rfl, fun i hi => (hb.cell (p := ⟨b, off + i, none⟩) (Nat.lt_of_lt_of_le (World.block_lt_of_cell? _ _ (hc i hi)) hk)).trans (hc i hi)⟩
theorem own_strsV {w : World} {base e : Nat} {v : Value} {n : Nat} {S : Nat → ByteArray} (h : w.ownsRow base e 1 v n ((List.range n).map fun i => Value.string (S i))) : StrsV w v n S := by
  have h0 := h
  obtain ⟨hl, hc⟩ := h
  rcases Nat.eq_zero_or_pos n with rfl | hp
  · rcases hc with ⟨rfl, _⟩ | ⟨g, cap, cur, rfl, _⟩
    · exact Or.inl ⟨rfl, _, _, rfl⟩
    · exact Or.inl ⟨rfl, _, _, rfl⟩
  · rcases hc with ⟨_, hn⟩ | ⟨g, cap, cur, rfl, _⟩
    · omega
    · exact Or.inr ⟨hp, g, 0, cap, rfl, fun i hi => by rw [Nat.zero_add, h0.cellAt i (by omega)]; simp [hi]⟩
def WordsTells (w : World) (n : Nat) (S : Nat → ByteArray) (e : Ending) (w' : World) : Prop :=
  ∃ v, e = .returned v ∧ StrsV w' v n S ∧ Below w.heap.size w w'
theorem StrsV.form {w : World} {v : Value} {n : Nat} {S : Nat → ByteArray} (h : StrsV w v n S) : ∃ ao cap, v = .slice ao n cap := by
  rcases h with ⟨rfl, ao, cap, rfl⟩ | ⟨_, b, off, cap, rfl, _⟩
  · exact ⟨_, _, rfl⟩
  · exact ⟨_, _, rfl⟩
end
end

section
open Go.RowKit Go.Extern.Stop Go.Stop Go.Extern

def cmpFn (t : TypeId) : Sem Value := do Rtype.noPackHeld "Comparable" t; pure (.bool (← typeInfo t).comparable)
theorem Tryz.isComparableP (w : World) : (ReflectliteType.method cmpFn #[.agg #[.pointer (some ⟨14, 60, none⟩)]]).run Tryz.prog w = .ok (.bool true) w := by kernel_rfl
theorem Tryz.methodComparable (v : Value) (w : World) : (Go.method 377 168 v "Comparable").run Tryz.prog w = .ok (186, v) w := by kernel_rfl
theorem Tryz.isComp : (Tryz.prog.info? 60).map (·.comparable) = some true := by kernel_rfl
theorem Tryz.isSize : (Tryz.prog.info? 63).map (·.size) = some 3 := by kernel_rfl
theorem Tryz.stepNoIs (v : Value) (w : World) : (Instr.typeAssert (.iface 135 v) 26 212 true).run Tryz.prog w = .ok (.tuple #[.nilIface, .bool false]) w :=
  run_typeAssert_lacksB Tryz.underlying212 (by kernel_rfl) (by kernel_rfl) v 26 w
theorem Tryz.faultHasIs (v : Value) (w : World) : (Instr.typeAssert (.iface 60 v) 26 212 true).run Tryz.prog w = .ok (.tuple #[.iface 60 v, .bool true]) w :=
  run_typeAssert_hasB Tryz.underlying212 (by kernel_rfl) v 26 w
theorem Tryz.methodIs (v : Value) (w : World) : (Go.method 377 60 v "Is").run Tryz.prog w = .ok (176, v) w := by kernel_rfl

theorem Tryz.faultIsFault (v : Value) (w : World) : (Instr.typeAssert (.iface 60 v) 26 60 true).run Tryz.prog w = .ok (.tuple #[v, .bool true]) w := by kernel_rfl

theorem isBool_plain (b t : Nat) (c ct : Int) (w : World) (c0 : w.cell? ⟨b, 0, none⟩ = some (.int .i64 c)) (t0 : w.cell? ⟨t, 0, none⟩ = some (.int .i64 ct)) (t1 : w.cell? ⟨t, 1, none⟩ = some (.int .i64 0)) (t2 : w.cell? ⟨t, 2, none⟩ = some (.string ⟨#[]⟩)) :
    Calls Tryz.prog 176 #[.pointer (some ⟨b, 0, none⟩), .iface 60 (.pointer (some ⟨t, 0, none⟩))] w fun e w' => e = .returned (.bool (decide (c = ct))) ∧ ∃ d, w' = w.drewN d := by
  have fF := Tryz.faultIsFault
  go_enter Tryz.func176, Tryz.ntmps176
  go_wp2
  by_cases hct : c = ct
  · subst hct
    have d1 : (c == c) = true := by simp
    go_quiet (fail)
    go_wp2
    go_ret
    exact ⟨by simp, _, rfl⟩
  · have d1 : (ct == c) = false := by simp; omega
    go_quiet (fail)
    go_wp2
    go_ret
    exact ⟨by simp [hct], _, rfl⟩
theorem isBool_at (b t : Nat) (c ct ta : Int) (w : World) (c0 : w.cell? ⟨b, 0, none⟩ = some (.int .i64 c)) (t0 : w.cell? ⟨t, 0, none⟩ = some (.int .i64 ct)) (t1 : w.cell? ⟨t, 1, none⟩ = some (.int .i64 ta)) (hta : ta ≠ 0) :
    Calls Tryz.prog 176 #[.pointer (some ⟨b, 0, none⟩), .iface 60 (.pointer (some ⟨t, 0, none⟩))] w fun e w' => e = .returned (.bool false) ∧ ∃ d, w' = w.drewN d := by
  have fF := Tryz.faultIsFault
  have d0 : (ta == 0) = false := by simp [hta]
  go_enter Tryz.func176, Tryz.ntmps176
  go_wp2
  by_cases hct : c = ct
  · subst hct
    have d1 : (c == c) = true := by simp
    go_quiet (fail)
    go_wp2
    go_ret
    exact ⟨rfl, _, rfl⟩
  · have d1 : (ct == c) = false := by simp; omega
    go_quiet (fail)
    go_wp2
    go_ret
    exact ⟨rfl, _, rfl⟩

section
variable {n : Nat} {V : Nat → Value} {B : Nat → Nat} {S : Nat → ByteArray} {b : Nat} {c a : Int} {nm : ByteArray}
set_option maxRecDepth 100000 in
set_option maxHeartbeats 4000000 in
theorem is_in (t : Nat) (ct : Int) (w : World) (h : ErrAt w n V B S b c a nm) (ht : w.heap[t]? = some (.cells #[.int .i64 ct, .int .i64 0, .string ⟨#[]⟩] 63)) (hne : b ≠ t) :
    Calls Tryz.prog 119 #[V 0, .iface 60 (.pointer (some ⟨t, 0, none⟩)), .bool true] w fun e w' => e = .returned (.bool (decide (c = ct))) ∧ ∃ d, w' = w.drewN d := by
  have H := Lib.hid h
  obtain ⟨i0, hi, hcmp⟩ := Option.map_eq_some_iff.1 Tryz.isComp
  obtain ⟨j0, hj, hjs⟩ := Option.map_eq_some_iff.1 Tryz.isSize
  have heq := run_eql_iface_ptr_other (P := Tryz.prog) w Tryz.underlying26 Tryz.underlying60 hi hcmp hj (by rw [hjs]; decide) (a := ⟨b, 0, none⟩) (b := ⟨t, 0, none⟩) (by intro e; apply hne; injection e) h.cells ht
  have c0 := h.code
  have t0 : w.cell? ⟨t, 0, none⟩ = some (.int .i64 ct) := by simp [World.cell?, ht]
  have t1 : w.cell? ⟨t, 1, none⟩ = some (.int .i64 0) := by simp [World.cell?, ht]
  have t2 : w.cell? ⟨t, 2, none⟩ = some (.string ⟨#[]⟩) := by simp [World.cell?, ht]
  have nS := Tryz.stepNoIs
  have uS := Tryz.stepUnwraps
  have hF := Tryz.faultHasIs
  have mF := Tryz.methodIs
  have n2 := stp.Tryz.faultNoUnwrap
  have n3 := stp.Tryz.faultNoUnwraps
  have fF := Tryz.faultIsFault
  clear h ht
  go_enter Tryz.func119, Tryz.ntmps119
  go_wp2
  go_loopg [0] n (fun g v wx => wx = w ∧ ∃ i, i ≤ n ∧ g = n - i ∧ v = V i)
  case atStart => exact ⟨rfl, 0, Nat.zero_le _, rfl, rfl⟩
  case round =>
    obtain ⟨rfl, i, hi, rfl, rfl⟩ := hrel
    by_cases hlt : i < n
    · have e1 := H.out.chain.step i hlt
      have hc1 := H.out.chain.next i hlt
      obtain ⟨T, x, hu, hT⟩ := H.out.form (i + 1) hlt
      rw [e1]
      rw [hu] at hc1
      have HU := Lib.hid hu
      clear e1 hu
      obtain ⟨b1, hb⟩ : ∃ b1, B i = b1 := ⟨_, rfl⟩
      rw [hb] at hc1 ⊢
      clear hb
      have hty := run_eql_iface_types (P := Tryz.prog) 135 60 (.pointer (some ⟨b1, 0, none⟩)) (.pointer (some ⟨t, 0, none⟩)) Tryz.underlying26 (by decide) wr
      go_wp2
      go_roundg (n - (i + 1))
      case rel => exact ⟨rfl, i + 1, by omega, rfl, HU.out.symm⟩
      case measure => omega
    · obtain rfl : i = n := by omega
      rw [H.out.last]
      have HIS := Lib.hid (isBool_plain b t c ct wr c0 t0 t1 t2)
      clear c0 t0 t1 t2
      by_cases hct : c = ct
      · have hb1 : decide (c = ct) = true := by simp [hct]
        rw [hb1] at HIS
        have HB := Lib.hid hb1
        clear hct hb1
        go_wp2_with (go_at_call 176; refine HIS.out.mono ?_; rintro ev w2 ⟨rfl, d, rfl⟩)
        go_ret
        exact ⟨by rw [HB.out]; rfl, d, rfl⟩
      · have hb1 : decide (c = ct) = false := by simp [hct]
        rw [hb1] at HIS
        have HB := Lib.hid hb1
        clear hct hb1
        go_wp2_with (go_at_call 176; refine HIS.out.mono ?_; rintro ev w2 ⟨rfl, d, rfl⟩)
        go_ret
        exact ⟨by rw [HB.out]; rfl, d, rfl⟩

theorem errorsIs_chain (t : Nat) (ct : Int) (w : World) (h : ErrAt w n V B S b c a nm) (ht : w.heap[t]? = some (.cells #[.int .i64 ct, .int .i64 0, .string ⟨#[]⟩] 63)) (hne : b ≠ t) :
    Calls Tryz.prog 97 #[V 0, .iface 60 (.pointer (some ⟨t, 0, none⟩))] w fun e w' => e = .returned (.bool (decide (c = ct))) ∧ ∃ d, w' = w.drewN d := by
  have hi := is_in t ct w h ht hne
  have h8 := @run_callFunc_extern Tryz.prog 100 _ ReflectliteType.typeOf Tryz.func100 (by kernel_rfl) (by kernel_rfl) (by kernel_rfl) (by kernel_rfl)
  have h32 := @run_callFunc_extern Tryz.prog 186 _ (ReflectliteType.method cmpFn) Tryz.func186 (by kernel_rfl) (by kernel_rfl) (by kernel_rfl) (by kernel_rfl)
  have tT := Tryz.typeOfP
  have cT := Tryz.isComparableP
  have mR := Tryz.methodComparable
  obtain ⟨T, x, hu, _⟩ := h.form 0 (Nat.zero_le _)
  rw [hu] at hi ⊢
  have HI := Lib.hid hi
  clear hi hu h ht
  go_enter Tryz.func97, Tryz.ntmps97
  go_wp2_with (go_at_call 119; refine HI.out.mono ?_; rintro ev w2 ⟨rfl, d, rfl⟩)
  go_ret
  exact ⟨rfl, d, rfl⟩

theorem faultIs_chain (ct : Int) (w : World) (h : ErrAt w n V B S b c a nm) :
    Calls Tryz.prog 75 #[V 0, .int .i64 ct] w fun e w' => e = .returned (.bool (decide (c = ct))) ∧ Below w.heap.size w w' := by
  have hbl : b < w.heap.size := World.block_lt_of_cell? _ _ h.code
  have h1 := h.below (k := w.heap.size) ((Below.refl _ _).alloc (Nat.le_refl _) (.cells #[.int .i64 ct, .int .i64 0, .string ⟨#[]⟩] 63)) (Nat.le_refl _)
  have hi := errorsIs_chain w.heap.size ct _ h1 (World.alloc_heap_new _ _) (by omega)
  obtain ⟨T, x, hu, _⟩ := h.form 0 (Nat.zero_le _)
  rw [hu] at hi ⊢
  have HI := Lib.hid hi
  clear hi hu h h1
  go_enter Tryz.func75, Tryz.ntmps75
  go_wp2_with (go_at_call 97; refine HI.out.mono ?_; rintro ev w2 ⟨rfl, d, rfl⟩)
  go_ret
  exact ⟨rfl, below_drewN ((Below.refl _ _).alloc (Nat.le_refl _) _) _⟩
end
end

section
open Go.RowKit Go.Extern.Stop Go.Stop Go.Extern Go.Shelf

theorem Tryz.sizeBuilder : (Tryz.prog.info? 83).map (·.size) = some 2 := by kernel_rfl
theorem Tryz.liesBuilder : liesAt Tryz.prog Tryz.prog.depth 83 (2 / Tryz.prog.cellsOf 83) 0 83 1 = true := by kernel_rfl
theorem Tryz.infoByte : (Tryz.prog.info? 5).map (fun i => (i.zero, i.size, i.bytes)) = some (some (.int .u8 0), 1, 1) := by kernel_rfl

set_option maxRecDepth 100000 in
set_option maxHeartbeats 4000000 in
theorem copyCheck_used (b : Nat) (w : World) (h0 : w.cell? ⟨b, 0, none⟩ = some (.pointer (some ⟨b, 0, none⟩))) :
    Calls Tryz.prog 70 #[.pointer (some ⟨b, 0, none⟩)] w fun e w' => e = .returned (.tuple #[]) ∧ w' = w := by
  obtain ⟨j, hj, _⟩ := Option.map_eq_some_iff.1 Tryz.sizeBuilder
  go_enter Tryz.func70, Tryz.ntmps70
  go_wp2
  rw [Lib.run_neq_ptr_same w _ Tryz.underlying81 hj]
  go_wp2
  go_end0
  exact ⟨rfl, rfl⟩
set_option maxRecDepth 100000 in
set_option maxHeartbeats 4000000 in
theorem copyCheck_fresh (b : Nat) (w : World) (h0 : w.cell? ⟨b, 0, none⟩ = some (.pointer none)) (hsh : w.shape? b = some (83, 2)) (hfz : w.frozen? ⟨b, 0, none⟩ = false) :
    Calls Tryz.prog 70 #[.pointer (some ⟨b, 0, none⟩)] w fun e w' => e = .returned (.tuple #[]) ∧ w' = w.setCell ⟨b, 0, none⟩ (.pointer (some ⟨b, 0, none⟩)) := by
  obtain ⟨j, hj, hjs⟩ := Option.map_eq_some_iff.1 Tryz.sizeBuilder
  go_enter Tryz.func70, Tryz.ntmps70
  go_wp2
  rw [Lib.run_to_unsafe w ⟨b, 0, none⟩ Tryz.underlying81 Tryz.underlying140 hj (by rw [hjs]; decide) hsh (Nat.zero_lt_succ 1)]
  simp only [Result.andThen]
  rw [Oper.upon_value]
  go_wp2
  rw [run_callFunc_extern Tryz.func92 (by kernel_rfl) (by kernel_rfl) (by kernel_rfl) (e := Extern.AbiNoEscape.same) (by kernel_rfl)]
  rw [Lib.run_noEscape]
  simp only [Result.andThen]
  rw [Oper.upon_value]
  go_wp2
  rw [Lib.run_from_unsafe w ⟨b, 0, none⟩ Tryz.underlying140 Tryz.underlying81 hj hsh Tryz.liesBuilder]
  simp only [Result.andThen]
  rw [Oper.upon_value]
  go_wp2
  go_end0
  exact ⟨rfl, rfl⟩
theorem copyCheck_any (B b : Nat) (bs : List Value) (w : World) (h : Lib.IsBuilder 83 5 B b bs w) :
    Calls Tryz.prog 70 #[.pointer (some ⟨b, 0, none⟩)] w fun e w' => e = .returned (.tuple #[]) ∧ (Lib.BuilderAt 83 5 B b (.pointer (some ⟨b, 0, none⟩)) bs w' ∧ Below B w w') := by
  rcases h with h | h
  · refine (copyCheck_fresh b w h.cell0 h.shape h.frozen0).mono ?_
    rintro e w' ⟨rfl, rfl⟩
    exact ⟨rfl, h.used _, (Below.refl B w).setCell (p := ⟨b, 0, none⟩) h.1 _⟩
  · refine (copyCheck_used b w h.cell0).mono ?_
    rintro e w' ⟨rfl, rfl⟩
    exact ⟨rfl, h, Below.refl B _⟩

set_option maxRecDepth 100000 in
set_option maxHeartbeats 4000000 in
theorem writeString_any (B b : Nat) (bs : List Value) (s : ByteArray) (w : World) (h : Lib.IsBuilder 83 5 B b bs w) (hlen : bs.length + s.size ≤ 140737488355328) (hBw : B ≤ w.heap.size) :
    Calls Tryz.prog 42 #[.pointer (some ⟨b, 0, none⟩), .string s] w fun e w' => e = .returned (.tuple #[.int .i64 s.size, .nilIface]) ∧ (Lib.IsBuilder 83 5 B b (bs ++ Lib.strCells s) w' ∧ Below B w w') := by
  obtain ⟨i0, hi, hz0, hz1, hz2⟩ := info_parts Tryz.infoByte
  have HC := Lib.hid (copyCheck_any B b bs w h)
  clear h
  go_enter Tryz.func42, Tryz.ntmps42
  go_wp2_with (go_at_call 70; refine HC.out.mono ?_)
  rintro e w1 ⟨rfl, h1, hb1⟩
  obtain ⟨hB, v, hbk, hown, hne⟩ := h1
  have c0 : w1.cell? ⟨b, 0, none⟩ = some (.pointer (some ⟨b, 0, none⟩)) := by rw [Lib.cell_of_heap hbk]; rfl
  have c1 : w1.cell? ⟨b, 1, none⟩ = some v := by rw [Lib.cell_of_heap hbk]; rfl
  go_wp2_with (at_builtin; refine Lib.wpList_append_own_string _ rfl _ _ 22 9 rfl B 5 i0 Tryz.underlying22 Tryz.underlying9 hi hz0 hz1 hz2 _ _ _ rfl hown s rfl ?c3 ?c4 ?c5 ?_)
  case c3 => unfold maxLen; omega
  case c4 => omega
  case c5 => have := hb1.size; omega
  intro v' w2 hown' hgrow _
  have hlt : b < w1.heap.size := by
    rcases Nat.lt_or_ge b w1.heap.size with h' | h'
    · exact h'
    · simp [Array.getElem?_eq_none h'] at hbk
  have hb2 : w2.heap[b]? = some (.cells #[.pointer (some ⟨b, 0, none⟩), v] 83 (0, 0)) := by
    rw [hgrow.block b hlt (fun e => hne e.symm)]
    exact hbk
  have d0 : w2.cell? ⟨b, 0, none⟩ = some (.pointer (some ⟨b, 0, none⟩)) := by rw [Lib.cell_of_heap hb2]; rfl
  have d1 : w2.cell? ⟨b, 1, none⟩ = some v := by rw [Lib.cell_of_heap hb2]; rfl
  have f1 : w2.frozen? ⟨b, 1, none⟩ = false := Lib.frozen_of_heap hb2 1
  obtain ⟨ao, n', cap, rfl⟩ : ∃ ao n' cap, v' = .slice ao n' cap := by
    rcases hown'.2 with ⟨hv, _⟩ | ⟨g, cap, cur, hv, _⟩
    · exact ⟨_, _, _, hv⟩
    · exact ⟨_, _, _, hv⟩
  go_wp2
  go_ret2
  refine ⟨rfl, Or.inr ?_, ?_⟩
  · exact Lib.BuilderAt.put (T := 83) (e := 5) hB hb2 (bs' := bs ++ Lib.strCells s) (by simpa [Lib.strCells_length] using hown') (by decide)
  · exact (hb1.grown hgrow (by have := hb1.size; omega) (fun k hk => (hown.lt k hk).1)).setCell (p := ⟨b, 1, none⟩) hB _

def Tryz.lays169_ren : Go.Shelf.Ren := ⟨fun | 169 => 44 | n => n, fun | 70 => 81 | 9 => 9 | 0 => 0 | 72 => 83 | 37 => 22 | 127 => 123 | 3 => 3 | 5 => 5 | n => n, fun | n => n⟩
theorem Tryz.lays169 : Go.Proofs.Lays.n169 Tryz.prog Tryz.lays169_ren := {
  mixed := by kernel_rfl
  f169 := Tryz.func44.trans (congrArg some (by kernel_rfl))
  t0 := Tryz.underlying0
  a0 := Tryz.isAgg0
  z0 := Tryz.sizeOf0
  v0 := Tryz.zeroValue0
  t3 := Tryz.underlying3
  a3 := Tryz.isAgg3
  z3 := Tryz.sizeOf3
  v3 := Tryz.zeroValue3
  t9 := Tryz.underlying9
  a9 := Tryz.isAgg9
  z9 := Tryz.sizeOf9
  v9 := Tryz.zeroValue9
  t37 := Tryz.underlying22
  a37 := Tryz.isAgg22
  z37 := Tryz.sizeOf22
  v37 := Tryz.zeroValue22
  t70 := Tryz.underlying81
  a70 := Tryz.isAgg81
  z70 := Tryz.sizeOf81
  v70 := Tryz.zeroValue81
  t72 := Tryz.underlying83
  a72 := Tryz.isAgg83
  z72 := Tryz.sizeOf83
  v72 := Tryz.zeroValue83
  t127 := Tryz.underlying123
  a127 := Tryz.isAgg123
  z127 := Tryz.sizeOf123
  v127 := Tryz.zeroValue123 }
theorem Tryz.builderExtra : Builder.Extra Tryz.prog Tryz.lays169_ren := {
  sizeBuilder := by kernel_rfl
  liesBuilder := by kernel_rfl
  t5 := Tryz.underlying5
  a5 := Tryz.isAgg5
  z5 := Tryz.sizeOf5
  v5 := Tryz.zeroValue5
  infoByte := by kernel_rfl
  cellsByte := by kernel_rfl
  sizeByte := by kernel_rfl
  neB5 := by decide }
theorem string_any (B b : Nat) (l : List UInt8) (w : World) (h : Lib.IsBuilder 83 5 B b (Lib.byteCells l) w) (hBw : B ≤ w.heap.size) :
    Calls Tryz.prog 44 #[.pointer (some ⟨b, 0, none⟩)] w fun e w' => e = .returned (.string ⟨l.toArray⟩) ∧ Below B w w' := Any.Builder_String_any Tryz.lays169 Tryz.builderExtra B b l w h hBw
end

section
open Go.RowKit Go.Extern.Stop Go.Stop Go.Extern

theorem Tryz.methodError (v : Value) (w : World) : (Go.method 377 60 v "Error").run Tryz.prog w = .ok (175, v) w := by kernel_rfl

theorem errorText (b : Nat) (s : ByteArray) (w : World) (h : w.cell? ⟨b, 2, none⟩ = some (.string s)) :
    Calls Tryz.prog 175 #[.pointer (some ⟨b, 0, none⟩)] w fun e w' => e = .returned (.string s) ∧ w' = w := by
  go_enter Tryz.func175, Tryz.ntmps175
  go_wp2
  go_ret
  exact ⟨rfl, rfl⟩

/-- The letters of the first i words, each with ": " behind it. -/
def lead (S : Nat → ByteArray) : Nat → List UInt8
  | 0 => []
  | i + 1 => lead S i ++ ((S i).data.toList ++ [58, 32])
theorem lead_mono (S : Nat → ByteArray) {i n : Nat} (h : i ≤ n) : (lead S i).length ≤ (lead S n).length := by
  induction n with
  | zero => obtain rfl : i = 0 := by omega
            exact Nat.le_refl _
  | succ n ih =>
    rcases Nat.lt_or_ge n i with h1 | h1
    · obtain rfl : i = n + 1 := by omega
      exact Nat.le_refl _
    · have := ih h1
      simp only [lead, List.length_append]
      omega
theorem byteCells_appT (l : List UInt8) (s : ByteArray) : Lib.byteCells l ++ Lib.strCells s = Lib.byteCells (l ++ s.data.toList) := by
  simp [Lib.byteCells, Lib.strCells]

/-- The state of Text's loop. -/
def TextLoop (B : Nat) (S : Nat → ByteArray) (w : World) (i : Nat) (wr : World) : Prop :=
  Lib.IsBuilder 83 5 B B (Lib.byteCells (lead S i)) wr ∧ Below B w wr

section
variable {n : Nat} {V : Nat → Value} {B : Nat → Nat} {S : Nat → ByteArray} {b : Nat} {c a : Int} {nm : ByteArray}

set_option maxRecDepth 100000 in
set_option maxHeartbeats 4000000 in
theorem text_chain (w : World) (hg : ErrT w) (hn : n ≤ 100000) (h : ErrAt w n V B S b c a nm) (hlen : (lead S n).length + nm.size ≤ 140737488355328) :
    Calls Tryz.prog 28 #[V 0] w fun e w' => e = .returned (.string ⟨(lead S n ++ nm.data.toList).toArray⟩) ∧ Below w.heap.size w w' := by
  have hu := unroll_chain w hg hn h
  have H := Lib.hid h
  rw [h.last] at hu
  obtain ⟨T, x, h0, _⟩ := h.form 0 (Nat.zero_le _)
  rw [h0] at hu ⊢
  have HU := Lib.hid hu
  have mE := Tryz.methodError
  clear hu h0 h
  go_enter Tryz.func28, Tryz.ntmps28
  go_wp2_with (go_at_call 56; fail)
  refine HU.out.mono ?_; rintro e w2 ⟨v, rfl, ho, hb⟩
  have hsv := own_strsV ho
  have HE := Lib.hid (H.out.below hb (Nat.le_refl _))
  have hsz := hb.size
  clear ho
  obtain ⟨ao, cap, rfl⟩ := hsv.form
  have HS := Lib.hid hsv
  clear hsv
  have hfr := Lib.fresh_isBuilder 83 5 w2
  have HF := Lib.hid hfr
  clear hfr
  go_wp2_with fail
  go_loopg [17] n (fun g v wr => ∃ i, i ≤ n ∧ g = n - i ∧ v = .int .i64 (i : Int) ∧ TextLoop w2.heap.size S w2 i wr)
  case atStart => exact ⟨0, Nat.zero_le _, rfl, rfl, HF.out, (Below.refl _ _).alloc (Nat.le_refl _) _⟩
  case round =>
    obtain ⟨i, hile, rfl, rfl, hB, hb2⟩ := hrel
    have hs2 := hb2.size
    by_cases hlt : i < n
    · have hmono := lead_mono S (show i + 1 ≤ n by omega)
      simp only [lead, List.length_append, List.length_cons, List.length_nil] at hmono
      have hsz1 : (S i).data.toList.length = (S i).size := Array.length_toList
      rcases HS.out with ⟨h0, _⟩ | ⟨_, b0, off, cap', e, hc⟩
      · omega
      · injection e with e1 e2 e3
        subst e1
        have hci := hc i hlt
        have hl0 := World.block_lt_of_cell? _ _ hci
        have hcr := (hb2.cell (p := ⟨b0, off + i, none⟩) hl0).trans hci
        obtain ⟨sw, hsw⟩ : ∃ sw, S i = sw := ⟨_, rfl⟩
        rw [hsw] at hcr hsz1 hmono
        have d1 : decide ((i : Int) < n) = true := decide_eq_true (by omega)
        have HW1 := Lib.hid (writeString_any w2.heap.size w2.heap.size (Lib.byteCells (lead S i)) sw wr hB (by rw [Lib.byteCells_length]; omega) hs2)
        have HSW := Lib.hid hsw
        clear hsw hc hci hB e3
        go_wp2_with (go_at_call 42; fail)
        refine HW1.out.mono ?_; rintro ev w3 ⟨rfl, hB3, hb3⟩
        have hs3 := hb3.size
        have HW2 := Lib.hid (writeString_any w2.heap.size w2.heap.size (Lib.byteCells (lead S i) ++ Lib.strCells sw) ⟨#[58, 32]⟩ w3 hB3 (by rw [List.length_append, Lib.byteCells_length, Lib.strCells_length]; have e2 : (⟨#[58, 32]⟩ : ByteArray).size = 2 := rfl; rw [e2]; omega) (by omega))
        clear hB3
        go_wp2_with (go_at_call 42; fail)
        refine HW2.out.mono ?_; rintro ev w4 ⟨rfl, hB4, hb4⟩
        have hb5 := (hb2.trans hb3).trans hb4
        rw [byteCells_appT, byteCells_appT, List.append_assoc] at hB4
        have he : lead S i ++ (sw.data.toList ++ [58, 32]) = lead S (i + 1) := by rw [← HSW.out]; rfl
        have hB5 : TextLoop w2.heap.size S w2 (i + 1) w4 := ⟨by rw [← he]; exact hB4, hb5⟩
        clear hB4 hb5 hb2 hb3 hb4 hcr
        go_wp2_with fail
        go_roundg (n - (i + 1))
        case rel => exact ⟨i + 1, by omega, rfl, by go_num, hB5⟩
        case measure => omega
    · obtain rfl : i = n := by omega
      have d1 : decide ((i : Int) < i) = false := decide_eq_false (by omega)
      have hE := (HE.out.below hb2 (Nat.le_refl _)).name
      have hB0 := hB
      have HET := Lib.hid (errorText b nm wr hE)
      have HW1 := Lib.hid (writeString_any w2.heap.size w2.heap.size (Lib.byteCells (lead S i)) nm wr hB0 (by rw [Lib.byteCells_length]; omega) hs2)
      clear hB0 hE hB
      go_wp2_with fail
      refine HET.out.mono ?_; rintro ev w3 ⟨rfl, rfl⟩
      go_wp2_with fail
      refine HW1.out.mono ?_; rintro ev w4 ⟨rfl, hB4, hb4⟩
      rw [byteCells_appT] at hB4
      have hs4 := hb4.size
      have HST := Lib.hid (string_any w2.heap.size w2.heap.size _ w4 hB4 (by omega))
      clear hB4
      go_wp2_with fail
      refine HST.out.mono ?_; rintro ev w5 ⟨rfl, hb5⟩
      go_wp2_with fail
      go_ret
      exact ⟨rfl, hb.trans ((((hb2.trans hb4).trans hb5)).mono hsz)⟩
end
end
end Go.Proofs.YtnjkjgmnnmgngaaGreatDoor
