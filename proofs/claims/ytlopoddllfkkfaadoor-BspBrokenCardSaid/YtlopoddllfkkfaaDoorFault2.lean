/- fault's calls over chains of steps around a fault: contracts. -/
import Derived.Test.YtlopoddllfkkfaaDoorAsStep
namespace Go.Proofs.YtlopoddllfkkfaaDoor
open Go.RowKit Go.Extern.Stop Go.Stop Go.Extern

theorem in_any (s : ByteArray) (T : TypeId) (x : Value) (w : World) :
    Calls Tryd.prog 28 #[.string s, .iface T x] w fun e w' => e = .returned (.iface 88 (.pointer (some ⟨w.heap.size, 0, none⟩))) ∧ w.alloc (.cells #[.string s, .iface T x] 90) = w' := by
  go_enter Tryd.func28, Tryd.ntmps28
  go_wp2
  go_ret
  exact ⟨rfl, rfl⟩
theorem in_nil (s : ByteArray) (w : World) :
    Calls Tryd.prog 28 #[.string s, .nilIface] w fun e w' => e = .returned .nilIface ∧ w = w' := by
  go_enter Tryd.func28, Tryd.ntmps28
  go_wp2
  go_ret
  exact ⟨rfl, rfl⟩

/-- An error: n steps around a fault in block b of code c, at a place, with a name. -/
structure ErrAt (w : World) (n : Nat) (V : Nat → Value) (B : Nat → Nat) (S : Nat → ByteArray) (b : Nat) (c a : Int) (nm : ByteArray) : Prop where
  chain : ChainAt w n V B S
  last : V n = .iface 69 (.pointer (some ⟨b, 0, none⟩))
  cells : w.heap[b]? = some (.cells #[.int .i64 c, .int .i64 a, .string nm] 72)
theorem ErrAt.code {w : World} {n : Nat} {V : Nat → Value} {B : Nat → Nat} {S : Nat → ByteArray} {b : Nat} {c a : Int} {nm : ByteArray} (h : ErrAt w n V B S b c a nm) : w.cell? ⟨b, 0, none⟩ = some (.int .i64 c) := by simp [World.cell?, h.cells]
theorem ErrAt.place {w : World} {n : Nat} {V : Nat → Value} {B : Nat → Nat} {S : Nat → ByteArray} {b : Nat} {c a : Int} {nm : ByteArray} (h : ErrAt w n V B S b c a nm) : w.cell? ⟨b, 1, none⟩ = some (.int .i64 a) := by simp [World.cell?, h.cells]
theorem ErrAt.name {w : World} {n : Nat} {V : Nat → Value} {B : Nat → Nat} {S : Nat → ByteArray} {b : Nat} {c a : Int} {nm : ByteArray} (h : ErrAt w n V B S b c a nm) : w.cell? ⟨b, 2, none⟩ = some (.string nm) := by simp [World.cell?, h.cells]
theorem ErrAt.below {w w' : World} {n : Nat} {V : Nat → Value} {B : Nat → Nat} {S : Nat → ByteArray} {b : Nat} {c a : Int} {nm : ByteArray} (h : ErrAt w n V B S b c a nm) {k : Nat} (hb : Below k w w') (hk : w.heap.size ≤ k) : ErrAt w' n V B S b c a nm := by
  have hl : b < k := Nat.lt_of_lt_of_le (World.block_lt_of_cell? _ _ h.code) hk
  exact ⟨h.chain.below hb hk, h.last, (hb.block b hl).trans h.cells⟩
theorem ErrAt.form {w : World} {n : Nat} {V : Nat → Value} {B : Nat → Nat} {S : Nat → ByteArray} {b : Nat} {c a : Int} {nm : ByteArray} (h : ErrAt w n V B S b c a nm) (i : Nat) (hi : i ≤ n) : ∃ T x, V i = .iface T x ∧ (T = 88 ∨ T = 69) := by
  by_cases h2 : i < n
  · exact ⟨_, _, h.chain.step i h2, Or.inl rfl⟩
  · obtain rfl : i = n := by omega
    exact ⟨_, _, h.last, Or.inr rfl⟩

section
variable {n : Nat} {V : Nat → Value} {B : Nat → Nat} {S : Nat → ByteArray} {b : Nat} {c a : Int} {nm : ByteArray}

theorem find_chain (w : World) (hg : ErrT w) (h : ErrAt w n V B S b c a nm) :
    Calls Tryd.prog 31 #[V 0] w fun ev w' => ev = .returned (.pointer (some ⟨b, 0, none⟩)) ∧ Below w.heap.size w w' := by
  have hbl : Below w.heap.size w (w.alloc (.cells #[.pointer none] 69)) := (Below.refl _ _).alloc (Nat.le_refl _) _
  have hh := as_any n V B S ⟨b, 0, none⟩ ⟨w.heap.size, 0, none⟩ (.pointer none) (w.alloc (.cells #[.pointer none] 69)) (h.chain.below hbl (Nat.le_refl _)) h.last (hg.alloc _) (by simp) (by simp)
  obtain ⟨T, x, hu, _⟩ := h.form 0 (Nat.zero_le _)
  rw [hu] at hh ⊢
  have HH := Lib.hid hh
  clear hh hu hbl
  go_enter Tryd.func31, Tryd.ntmps31
  go_wp2_with (go_at_call 45; refine HH.out.mono ?_; rintro ev w' ⟨rfl, rfl⟩)
  go_ret
  refine ⟨rfl, ?_⟩
  go_grown

theorem code_chain (w : World) (hg : ErrT w) (h : ErrAt w n V B S b c a nm) :
    Calls Tryd.prog 11 #[V 0] w fun e w' => e = .returned (.int .i64 c) ∧ Below w.heap.size w w' := by
  have hf := find_chain w hg h
  have hbl : b < w.heap.size := World.block_lt_of_cell? _ _ h.code
  have hc := h.code
  obtain ⟨T, x, hu, _⟩ := h.form 0 (Nat.zero_le _)
  rw [hu] at hf ⊢
  have HF := Lib.hid hf
  clear hf hu
  go_enter Tryd.func11, Tryd.ntmps11
  go_wp2_with (go_at_call 31; refine HF.out.mono ?_; rintro ev w' ⟨rfl, hw⟩; have hc' := (hw.cell (p := ⟨b, 0, none⟩) hbl).trans hc; clear hc)
  go_ret
  exact ⟨rfl, by assumption⟩
theorem at_chain (w : World) (hg : ErrT w) (h : ErrAt w n V B S b c a nm) :
    Calls Tryd.prog 24 #[V 0] w fun e w' => e = .returned (.int .i64 a) ∧ Below w.heap.size w w' := by
  have hf := find_chain w hg h
  have hbl : b < w.heap.size := World.block_lt_of_cell? _ _ h.code
  have hc := h.place
  obtain ⟨T, x, hu, _⟩ := h.form 0 (Nat.zero_le _)
  rw [hu] at hf ⊢
  have HF := Lib.hid hf
  clear hf hu
  go_enter Tryd.func24, Tryd.ntmps24
  go_wp2_with (go_at_call 31; refine HF.out.mono ?_; rintro ev w' ⟨rfl, hw⟩; have hc' := (hw.cell (p := ⟨b, 1, none⟩) hbl).trans hc; clear hc)
  go_ret
  exact ⟨rfl, by assumption⟩

theorem unwrap_step (b1 : Nat) (u : Value) (w : World) (h : w.cell? ⟨b1, 1, none⟩ = some u) :
    Calls Tryd.prog 51 #[.iface 88 (.pointer (some ⟨b1, 0, none⟩))] w fun e w' => e = .returned u ∧ w = w' := by
  have sU := Tryd.stepUnwraps
  go_enter Tryd.func51, Tryd.ntmps51
  go_wp2
  go_ret
  exact ⟨rfl, rfl⟩
theorem unwrap_fault (x : Value) (w : World) :
    Calls Tryd.prog 51 #[.iface 69 x] w fun e w' => e = .returned .nilIface ∧ w = w' := by
  have n2 := stp.Tryd.faultNoUnwrap
  go_enter Tryd.func51, Tryd.ntmps51
  go_wp2
  go_ret
  exact ⟨rfl, rfl⟩

theorem as_step_new (e : Addr) (w : World) (hg : ErrT w) :
    Calls Tryd.prog 45 #[.iface 88 (.pointer (some e)), .iface 106 (.pointer (some ⟨w.heap.size, 0, none⟩))] (w.alloc (.cells #[.pointer none] 88)) fun ev w' => ev = .returned (.bool true) ∧ Below w.heap.size w w' ∧ w'.cell? ⟨w.heap.size, 0, none⟩ = some (.pointer (some e)) ∧ w.heap.size < w'.heap.size := by
  refine (stp.as_hit e ⟨w.heap.size, 0, none⟩ (.pointer none) (w.alloc (.cells #[.pointer none] 88)) (hg.alloc _) (by simp) (by simp)).mono ?_
  rintro ev w' ⟨rfl, rfl⟩
  refine ⟨rfl, ?_, ?_, ?_⟩
  · go_grown
  · apply World.cell?_setCell_same (u := .pointer none)
    rw [World.cell?_alloc_lt _ _ ⟨w.heap.size, 0, none⟩ (by simp; omega), World.cell?_alloc_lt _ _ ⟨w.heap.size, 0, none⟩ (by simp; omega), World.cell?_alloc_lt _ _ ⟨w.heap.size, 0, none⟩ (by simp; omega), World.cell?_alloc_lt _ _ ⟨w.heap.size, 0, none⟩ (by simp)]
    simp
  · simp; omega
theorem as_fault_new (e : Addr) (w : World) (hg : ErrT w) :
    Calls Tryd.prog 45 #[.iface 69 (.pointer (some e)), .iface 106 (.pointer (some ⟨w.heap.size, 0, none⟩))] (w.alloc (.cells #[.pointer none] 88)) fun ev w' => ev = .returned (.bool false) ∧ Below w.heap.size w w' ∧ w.heap.size < w'.heap.size := by
  refine (stp.as_miss e ⟨w.heap.size, 0, none⟩ (.pointer none) (w.alloc (.cells #[.pointer none] 88)) (hg.alloc _) (by simp) (by simp)).mono ?_
  rintro ev w' ⟨rfl, rfl⟩
  exact ⟨rfl, by go_grown, by simp; omega⟩
theorem own_belowF {w w' : World} {base e size n B : Nat} {v : Value} {xs : List Value} (h : w.ownsRow base e size v n xs) (hb : Below B w w') (hB : w.heap.size ≤ B) : w'.ownsRow base e size v n xs := by
  refine ⟨h.1, ?_⟩
  rcases h.2 with hn | ⟨g, cap, cur, rfl, hg, hh, r⟩
  · exact Or.inl hn
  · have hlt : g < w.heap.size := (Array.getElem?_eq_some_iff.1 hh).1
    exact Or.inr ⟨g, cap, cur, rfl, hg, by rw [hb.block g (by omega)]; exact hh, r⟩

theorem Tryd.infoString : (Tryd.prog.info? 9).map (fun i => (i.zero, i.size, i.bytes)) = some (some (.string ⟨#[]⟩), 1, 16) := by kernel_rfl

/-- What unroll tells: the words as a list of the call's own, and the last error. -/
def UnrollTells (w : World) (n : Nat) (S : Nat → ByteArray) (last : Value) (e : Ending) (w' : World) : Prop :=
  ∃ v, e = .returned (.tuple #[v, last]) ∧ w'.ownsRow w.heap.size 9 1 v n ((List.range n).map fun i => Value.string (S i)) ∧ Below w.heap.size w w'

set_option maxRecDepth 100000 in
set_option maxHeartbeats 4000000 in
theorem unroll_chain (w : World) (hg : ErrT w) (hn : n ≤ 100000) (h : ErrAt w n V B S b c a nm) :
    Calls Tryd.prog 42 #[V 0] w (UnrollTells w n S (V n)) := by
  have H := Lib.hid h
  have HF := Lib.hid (fun i hi => h.form i hi)
  clear h
  obtain ⟨i0, hi, hz0, hz1, hz2⟩ := info_parts Tryd.infoString
  go_enter Tryd.func42, Tryd.ntmps42
  go_wp2
  go_loopg [0, 4] n (fun g v l wr => ∃ i, i ≤ n ∧ g = n - i ∧ v = V i ∧ wr.ownsRow w.heap.size 9 1 l i ((List.range i).map fun i => Value.string (S i)) ∧ Below w.heap.size w wr)
  case atStart => exact ⟨0, Nat.zero_le _, rfl, rfl, World.ownsRow_nil _ _ _ _, Below.refl _ _⟩
  case round =>
    obtain ⟨i, hile, rfl, rfl, ho, hb⟩ := hrel
    have hs := hb.size
    have hgr := hg.below hb (Nat.le_refl _)
    by_cases hlt : i < n
    · have e1 := H.out.chain.step i hlt
      have hlb : B i < w.heap.size := World.block_lt_of_cell? _ _ (H.out.chain.word i hlt)
      have HAS := Lib.hid (as_step_new ⟨B i, 0, none⟩ wr hgr)
      rw [e1]
      clear e1
      go_wp2_with fail
      refine HAS.out.mono ?_; rintro ev w2 ⟨rfl, hb2, hc2, hs2⟩
      have B2 := hb.trans (hb2.mono hs)
      have ho2 := own_belowF ho hb2 (Nat.le_refl _)
      have hol := Lib.hid (fun k hk => (ho.lt k hk).2)
      have cw := (B2.cell (p := ⟨B i, 0, none⟩) hlb).trans (H.out.chain.word i hlt)
      have cn := (B2.cell (p := ⟨B i, 1, none⟩) hlb).trans (H.out.chain.next i hlt)
      have HEQ : Hid (V (i + 1) = V (i + 1)) := rfl
      obtain ⟨u, hu⟩ : ∃ u, V (i + 1) = u := ⟨_, rfl⟩
      rw [hu] at cn
      have HU := Lib.hid hu
      obtain ⟨sw, hsw⟩ : ∃ sw, S i = sw := ⟨_, rfl⟩
      rw [hsw] at cw
      have HSW := Lib.hid hsw
      clear hb2 hu hsw HAS ho hb HEQ
      go_wp2_with (at_builtin; refine wpList_append_own _ rfl _ _ 22 rfl w.heap.size 9 i0 (.string ⟨#[]⟩) 1 16 Tryd.underlying22 hi hz0 hz1 hz2 rfl (by decide) _ _ _ rfl (ho2.alloc _) ⟨w2.heap.size, 0, none⟩ 1 1 [.string sw] rfl rfl ?_ ?_ ?_ ?_ ?_ ?_)
      rotate_right
      · intro v' w5 hown' hgrow _
        have hbw5 := (B2.alloc (by omega) (.cells #[.string sw] 9)).grown hgrow (by simp; omega) (fun k hk => (ho2.lt k hk).1)
        have hcs : w5.cell? ⟨wr.heap.size, 0, none⟩ = some (.pointer (some ⟨B i, 0, none⟩)) := by
          refine (World.cell?_of_block (w := w2.alloc (.cells #[.string sw] 9)) (hgrow.block wr.heap.size (by simp; omega) (fun e => ?_))).trans ((World.cell?_alloc_lt _ _ ⟨wr.heap.size, 0, none⟩ hs2).trans hc2)
          have := hol.out _ e.symm
          omega
        have cn5 := (hbw5.cell (p := ⟨B i, 1, none⟩) hlb).trans (H.out.chain.next i hlt)
        rw [HU.out] at cn5
        have e1 : ((List.range i).map fun i => Value.string (S i)) ++ [Value.string sw] = (List.range (i + 1)).map fun i => Value.string (S i) := by rw [List.range_succ, List.map_append, ← HSW.out]; rfl
        rw [e1] at hown'
        clear e1 hgrow ho2 hc2 cn cw B2
        go_wp2_with fail
        go_roundg (n - (i + 1))
        case rel => exact ⟨i + 1, by omega, rfl, HU.out.symm, hown', hbw5⟩
        case measure => omega
      · intro j u hj
        match j, hj with
        | 0, hj => simp at hj; subst hj; simp [Addr.add]
      · intro u hu; simp at hu; subst hu; rfl
      · unfold maxLen; omega
      · omega
      · simp; omega
    · obtain rfl : i = n := by omega
      have HAS := Lib.hid (as_fault_new ⟨b, 0, none⟩ wr hgr)
      have n2 := unwrap_fault (.pointer (some ⟨b, 0, none⟩))
      have N2 := Lib.hid n2
      clear n2
      rw [H.out.last]
      go_wp2_with fail
      refine HAS.out.mono ?_; rintro ev w2 ⟨rfl, hb2, hs2⟩
      have B2 := hb.trans (hb2.mono hs)
      have ho2 := own_belowF ho hb2 (Nat.le_refl _)
      clear hb2 HAS ho hb
      go_wp2_with fail
      refine wp_loop_rounds 2 ?_
      rw [rounds_succ]
      go_wp2_with fail
      refine (N2.out _).mono ?_; rintro ev w3 ⟨rfl, rfl⟩
      go_wp2_with fail
      rw [rounds_succ]
      go_wp2_with fail
      go_ret2
      refine ⟨_, ?_, ho2, B2⟩
      rw [H.out.last]
      rfl

/-- A list of n strings in a world. -/
def StrsV (w : World) (v : Value) (n : Nat) (S : Nat → ByteArray) : Prop :=
  (n = 0 ∧ ∃ (ao : Option Addr) (cap : Nat), v = .slice ao 0 cap) ∨ (0 < n ∧ ∃ b off cap : Nat, v = .slice (some ⟨b, off, none⟩) n cap ∧ ∀ i, i < n → w.cell? ⟨b, off + i, none⟩ = some (.string (S i)))
theorem StrsV.below {w w' : World} {v : Value} {n : Nat} {S : Nat → ByteArray} (h : StrsV w v n S) {k : Nat} (hb : Below k w w') (hk : w.heap.size ≤ k) : StrsV w' v n S := by
  rcases h with h | ⟨h0, b, off, cap, rfl, hc⟩
  · exact Or.inl h
  · exact Or.inr ⟨h0, b, off, cap, rfl, fun i hi => (hb.cell (p := ⟨b, off + i, none⟩) (Nat.lt_of_lt_of_le (World.block_lt_of_cell? _ _ (hc i hi)) hk)).trans (hc i hi)⟩
theorem own_strsV {w : World} {base e : Nat} {v : Value} {n : Nat} {S : Nat → ByteArray} (h : w.ownsRow base e 1 v n ((List.range n).map fun i => Value.string (S i))) : StrsV w v n S := by
  have h0 := h
  obtain ⟨hl, hc⟩ := h
  rcases Nat.eq_zero_or_pos n with rfl | hp
  · rcases hc with ⟨rfl, _⟩ | ⟨g, cap, cur, rfl, _⟩
    · exact Or.inl ⟨rfl, _, _, rfl⟩
    · exact Or.inl ⟨rfl, _, _, rfl⟩
  · rcases hc with ⟨_, hn⟩ | ⟨g, cap, cur, rfl, _⟩
    · omega
    · exact Or.inr ⟨hp, g, 0, cap, rfl, fun i hi => by rw [Nat.zero_add, h0.cellAt i (by omega)]; simp [hi]⟩
def WordsTells (w : World) (n : Nat) (S : Nat → ByteArray) (e : Ending) (w' : World) : Prop :=
  ∃ v, e = .returned v ∧ StrsV w' v n S ∧ Below w.heap.size w w'
theorem StrsV.form {w : World} {v : Value} {n : Nat} {S : Nat → ByteArray} (h : StrsV w v n S) : ∃ ao cap, v = .slice ao n cap := by
  rcases h with ⟨rfl, ao, cap, rfl⟩ | ⟨_, b, off, cap, rfl, _⟩
  · exact ⟨_, _, rfl⟩
  · exact ⟨_, _, rfl⟩
theorem words_chain (w : World) (hg : ErrT w) (hn : n ≤ 100000) (h : ErrAt w n V B S b c a nm) :
    Calls Tryd.prog 23 #[V 0] w (WordsTells w n S) := by
  have hu := unroll_chain w hg hn h
  obtain ⟨T, x, h0, _⟩ := h.form 0 (Nat.zero_le _)
  rw [h0] at hu ⊢
  have HU := Lib.hid hu
  clear hu h0
  go_enter Tryd.func23, Tryd.ntmps23
  go_wp2_with fail
  refine HU.out.mono ?_; rintro e w2 ⟨v, rfl, ho, hb⟩
  go_wp2_with fail
  go_ret
  exact ⟨_, rfl, own_strsV ho, hb⟩

end
end Go.Proofs.YtlopoddllfkkfaaDoor
