/- NetPlays: the document's Inbox. -/
import Derived.Test.YtbecgfeoacncdaaDoorSame19
import Derived.Laws.Slices
namespace Go.Proofs.YtbecgfeoacncdaaDoor
open Go.RowKit

theorem Tryd.infoRefL : (Tryd.prog.info? 62).map (fun i => (i.zero, i.size, i.bytes)) = some (some (letV letZ), 4, 40) := by kernel_rfl
/-- What the document's Inbox has so far. -/
def OutV (W : World) (v : Value) (L : List Let) : Prop := (v = .slice none 0 0 ∧ L = []) ∨ ∃ g c, v = .slice (some ⟨g, 0, none⟩) L.length c ∧ L.length ≤ c ∧ L ≠ [] ∧ LetsAt W v L
theorem OutV.below {W W' : World} {v : Value} {L : List Let} {B : Nat} (h : OutV W v L) (hb : Below B W W') (hB : W.heap.size ≤ B) : OutV W' v L := by
  rcases h with h | ⟨g, c, e, hc, hn, hl⟩
  · exact Or.inl h
  · exact Or.inr ⟨g, c, e, hc, hn, hl.below hb hB⟩
theorem OutV.lets {W : World} {v : Value} {L : List Let} (h : OutV W v L) : LetsAt W v L := by
  rcases h with ⟨rfl, rfl⟩ | ⟨g, c, _, _, _, hl⟩
  · exact LetsAt.nil W
  · exact hl
theorem OutV.own {W : World} {base n : Nat} {A : Option Addr} {c : Nat} {L : List Let} (h : W.ownsRow base 62 4 (.slice A n c) n (letsC L)) (hn : L.length = n) (hL : L ≠ []) : OutV W (.slice A n c) L := by
  have hl := own_lets h
  rcases h.2 with ⟨_, e⟩ | ⟨g, cap, cur, e, _, _, hc, _⟩
  · exact absurd (List.eq_nil_of_length_eq_zero (hn.trans e)) hL
  · injection e with e1 e2 e3
    subst e1 e3
    exact Or.inr ⟨g, c, by rw [hn], by omega, hL, hl⟩
section
variable {P : Program}
theorem wpList_app_stop {ops : Array Oper} {rest : List Oper} {o : Oper} {a : Act} {w : World} {Q : Exit → Act → World → Prop} (hgd : o.guard = none) (s x : Operand) (t : TypeId)
    (ho : o.op = .call { callee := .builtin .append, args := #[s, x], argTypes := #[t, t] }) (v u : Value) (hs : a.eval s = v) (hx : a.eval x = u) (v' : Value) (w' : World)
    (hr : (Builtin.append_ #[t, t] o.type #[v, u]).run P w = .ok v' w') (h : ∀ wx, Hid (wx = w') → wpList P ops Q rest (a.put o.dst v') wx) : wpList P ops Q (o :: rest) a w :=
  wpList_plain hgd fun _ hK => wp_of_append s x t ho v u hs hx v' w' hr (hK _ _ (h _ (Lib.hid rfl)))
end
theorem insAt_le (out : List Let) (f : Int) : ∀ k, insAt out f k ≤ k
  | 0 => Nat.le_refl _
  | k + 1 => by
    unfold insAt
    split
    · exact Nat.le_succ_of_le (insAt_le out f k)
    · exact Nat.le_refl _
theorem inStep_len (C : List Let) (w : Int) (out : List Let) (l : Let) : (inStep C w out l).length ≤ out.length + 1 := by
  unfold inStep
  split
  · unfold insL
    have := insAt_le out l.f out.length
    rw [List.length_append, List.length_append, List.length_take, List.length_drop]
    simp
    omega
  · omega
theorem sl_pre (A : Option Addr) (m c k : Nat) (hA : A = none ∨ ∃ g, A = some ⟨g, 0, none⟩) (hk : k ≤ c) (W : World) : (Instr.slice 31 (.slice A m c) none (some (.int .i64 k)) none).run Tryd.prog W = .ok (.slice A k c) W := by
  rw [run_slice_h (P := Tryd.prog) W 31 A m c (by kernel_rfl) .i64 k (by omega) (by omega)]
  have e : Tryd.prog.elem 31 = 62 := by kernel_rfl
  rw [e]
  rcases hA with rfl | ⟨g, rfl⟩ <;> simp [go_sem, sliced, Addr.add]
theorem sl_suf (A : Option Addr) (m c k : Nat) (hA : A = none ∨ ∃ g, A = some ⟨g, 0, none⟩) (hk : k ≤ m) :
    ∃ u, (∀ W, (Instr.slice 31 (.slice A m c) (some (.int .i64 k)) none none).run Tryd.prog W = .ok u W) ∧
      (A = none → u = .slice none (m - k) (c - k)) ∧ ∀ g, A = some ⟨g, 0, none⟩ → if c = k then u = .slice (some ⟨g, 0, none⟩) (m - k) (c - k) else u = .slice (some ⟨g, k * 4, none⟩) (m - k) (c - k) := by
  refine ⟨sliced A k m c 4, fun W => ?_, fun h => ?_, fun g h => ?_⟩
  · rw [run_slice_l (P := Tryd.prog) W 31 A m c (by kernel_rfl) .i64 k (by omega) (by omega)]
    have e : Tryd.prog.elem 31 = 62 := by kernel_rfl
    rw [e]
    simp [go_sem]
  · subst h
    simp [sliced]
  · subst h
    by_cases hc : c = k
    · simp [sliced, hc]
    · simp only [sliced, hc, if_false, Option.map_some, addr_plus', Nat.zero_add]
/-- The three appends that put a letter in. -/
theorem ins_runs {W : World} {A : Option Addr} {m c k : Nat} {L : List Let} (ho : OutV W (.slice A m c) L) (hm : L.length = m) (hk : k ≤ m) (hm1 : m ≤ 1000) (l : Let) :
    ∃ A4 c4 w4 A5 c5 w5 A6 c6 w6,
      (Builtin.append_ #[31, 31] 31 #[.slice (some ⟨W.heap.size, 0, none⟩) 0 0, .slice A k c]).run Tryd.prog (W.alloc (.cells #[] 62)) = .ok (.slice A4 k c4) w4 ∧
      (Builtin.append_ #[31, 31] 31 #[.slice A4 k c4, .slice (some ⟨w4.heap.size, 0, none⟩) 1 1]).run Tryd.prog (w4.alloc (.cells #[.int .i64 l.f, .int .i64 l.t, .int .i64 l.s, .string l.x] 62)) = .ok (.slice A5 (k + 1) c5) w5 ∧
      (∃ u, (∀ W, (Instr.slice 31 (.slice A m c) (some (.int .i64 k)) none none).run Tryd.prog W = .ok u W) ∧
        (Builtin.append_ #[31, 31] 31 #[.slice A5 (k + 1) c5, u]).run Tryd.prog w5 = .ok (.slice A6 (m + 1) c6) w6) ∧
      (∀ W, (Instr.slice 31 (.slice A m c) none (some (.int .i64 k)) none).run Tryd.prog W = .ok (.slice A k c) W) ∧
      OutV w6 (.slice A6 (m + 1) c6) (L.take k ++ [l] ++ L.drop k) ∧ Below W.heap.size W w4 ∧ Below W.heap.size W w5 ∧ Below W.heap.size W w6 := by
  obtain ⟨i0, hi0, hz0, hz1, hz2⟩ := info_parts Tryd.infoRefL
  have hl := ho.lets
  have hb1 : Below W.heap.size W (W.alloc (.cells #[] 62)) := (Below.refl _ _).alloc (Nat.le_refl _) _
  have ho1 : (W.alloc (.cells #[] 62)).ownsRow W.heap.size 62 4 (.slice (some ⟨W.heap.size, 0, none⟩) 0 0) 0 [] := World.ownsRow_lit (size := 4) W #[] 0 (Nat.le_refl _) (by decide) (by simp)
  obtain ⟨A4, c4, w4, hr4, ho4, hg4⟩ := run_appRow (P := Tryd.prog) _ 31 31 62 W.heap.size i0 (letV letZ) 4 40 Tryd.underlying31 hi0 hz0 hz1 hz2 rfl (by decide) (by decide) _ 0 [] ho1 (.slice A k c) k (letsC (L.take k))
    ((hl.take (by omega) c).below hb1 (Nat.le_refl _)) (letsC_cell _) (by omega) hb1.size
  rw [Nat.zero_add, List.nil_append] at ho4
  rw [Nat.zero_add] at hr4
  have hb4 : Below W.heap.size W w4 := hb1.grown hg4 hb1.size (fun q hq => (ho1.lt q hq).1)
  have hb5 := hb4.alloc hb4.size (.cells #[.int .i64 l.f, .int .i64 l.t, .int .i64 l.s, .string l.x] 62)
  have ho5 := ho4.alloc (.cells #[.int .i64 l.f, .int .i64 l.t, .int .i64 l.s, .string l.x] 62)
  obtain ⟨A5, c5, w5, hr5, ho6, hg5⟩ := run_appRow (P := Tryd.prog) _ 31 31 62 W.heap.size i0 (letV letZ) 4 40 Tryd.underlying31 hi0 hz0 hz1 hz2 rfl (by decide) (by decide) _ k _ ho5 _ 1 (letC l)
    (RowAt.new w4 62 4 (letC l) rfl) (by have := letsC_cell [l]; rwa [letsC_one] at this) (by omega) hb5.size
  have hb6 : Below W.heap.size W w5 := hb5.grown hg5 hb5.size (fun q hq => (ho5.lt q hq).1)
  have htail : ∃ A6 c6 w6, (∀ u, (A = none → u = .slice none 0 0) → (∀ g, A = some ⟨g, 0, none⟩ → if c = k then u = .slice (some ⟨g, 0, none⟩) (m - k) (c - k) else u = .slice (some ⟨g, k * 4, none⟩) (m - k) (c - k)) →
        (Builtin.append_ #[31, 31] 31 #[.slice A5 (k + 1) c5, u]).run Tryd.prog w5 = .ok (.slice A6 (m + 1) c6) w6) ∧
      w6.ownsRow W.heap.size 62 4 (.slice A6 (m + 1) c6) (m + 1) (letsC (L.take k) ++ letC l ++ letsC (L.drop k)) ∧ w5.grownBy w6 (Value.slice A5 (k + 1) c5).ownBlock := by
    have run : ∀ u, RowAt w5 4 u (m - k) (letsC (L.drop k)) → ∃ A6 c6 w6, (Builtin.append_ #[31, 31] 31 #[.slice A5 (k + 1) c5, u]).run Tryd.prog w5 = .ok (.slice A6 (m + 1) c6) w6 ∧
        w6.ownsRow W.heap.size 62 4 (.slice A6 (m + 1) c6) (m + 1) (letsC (L.take k) ++ letC l ++ letsC (L.drop k)) ∧ w5.grownBy w6 (Value.slice A5 (k + 1) c5).ownBlock := by
      intro u hu
      obtain ⟨A6, c6, w6, h1, h2, h3⟩ := run_appRow (P := Tryd.prog) w5 31 31 62 W.heap.size i0 (letV letZ) 4 40 Tryd.underlying31 hi0 hz0 hz1 hz2 rfl (by decide) (by decide) _ (k + 1) _ ho6 u (m - k) (letsC (L.drop k)) hu (letsC_cell _) (by omega) hb6.size
      rw [show k + 1 + (m - k) = m + 1 by omega] at h1 h2
      exact ⟨A6, c6, w6, h1, h2, h3⟩
    rcases ho with ⟨e, rfl⟩ | ⟨g, c', e, hc, hne, _⟩
    · injection e with e1 e2 e3
      subst e1 e2 e3
      obtain rfl : k = 0 := by omega
      obtain ⟨A6, c6, w6, h1, h2, h3⟩ := run (.slice none 0 0) (RowAt.none _ _ _ _)
      refine ⟨A6, c6, w6, fun u hu _ => ?_, h2, h3⟩
      rw [hu rfl]
      exact h1
    · injection e with e1 e2 e3
      subst e1 e3
      by_cases hck : c = k
      · have hmk : m - k = 0 := by omega
        have hdr : letsC (L.drop k) = [] := by rw [List.drop_of_length_le (by omega)]; rfl
        obtain ⟨A6, c6, w6, h1, h2, h3⟩ := run (.slice (some ⟨g, 0, none⟩) (m - k) (c - k)) (by rw [hdr, hmk]; exact RowAt.none _ _ _ _)
        refine ⟨A6, c6, w6, fun u _ hu => ?_, h2, h3⟩
        have := hu g rfl
        rw [if_pos hck] at this
        rw [this]
        exact h1
      · have hd := (hl.drop (k := k) (by omega) hne (c - k)).below hb6 (Nat.le_refl _)
        rw [hm, Nat.zero_add] at hd
        obtain ⟨A6, c6, w6, h1, h2, h3⟩ := run (.slice (some ⟨g, k * 4, none⟩) (m - k) (c - k)) hd
        refine ⟨A6, c6, w6, fun u _ hu => ?_, h2, h3⟩
        have := hu g rfl
        rw [if_neg hck] at this
        rw [this]
        exact h1
  obtain ⟨A6, c6, w6, hr6, ho7, hg6⟩ := htail
  have hb7 : Below W.heap.size W w6 := hb6.grown hg6 hb6.size (fun q hq => (ho6.lt q hq).1)
  have hform : (A = none ∨ ∃ g, A = some ⟨g, 0, none⟩) ∧ m ≤ c ∧ (A = none → m = 0 ∧ c = 0) := by
    rcases ho with ⟨e, rfl⟩ | ⟨g, c', e, hc, _, _⟩
    · injection e with e1 e2 e3
      exact ⟨Or.inl e1, by omega, fun _ => ⟨e2, e3⟩⟩
    · injection e with e1 e2 e3
      exact ⟨Or.inr ⟨g, e1⟩, by omega, fun h => by rw [h] at e1; cases e1⟩
  obtain ⟨u, hu1, hu2, hu3⟩ := sl_suf A m c k hform.1 hk
  have hr6 := hr6 u (fun h => by
    obtain ⟨h1, h2⟩ := hform.2.2 h
    rw [hu2 h, h1, h2, Nat.zero_sub]) hu3
  refine ⟨A4, c4, w4, A5, c5, w5, A6, c6, w6, hr4, hr5, ⟨u, hu1, hr6⟩, sl_pre A m c k hform.1 (by omega), OutV.own (base := W.heap.size) ?_ ?_ (by simp), hb4, hb6, hb7⟩
  · rw [letsC_app, letsC_app, letsC_one]
    exact ho7
  · rw [List.length_append, List.length_append, List.length_take, List.length_drop]
    simp
    omega
end Go.Proofs.YtbecgfeoacncdaaDoor
