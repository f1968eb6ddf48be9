/- Maps, told as functions of their keys. Letters in memory: slices that are read, and slices of the call's own, of which a part may be gone. Keys of layer 19; letters compared. -/
import Derived.Test.YtlopoddllfkkfaaDoorJ1
import Derived.Maps.OwnSet
import Derived.Maps.Keyed
import Derived.Maps.Views
import Derived.DeepKeys4
import Derived.Deep.AppendSrc
import Derived.Deep.Upon
import Derived.Deep.MidRow
import Derived.Laws.StructEq
namespace Go.Proofs.YtlopoddllfkkfaaDoor
section
open Go.RowKit Go.Maps

/-- An element that is told as it stands. -/
def heldElem (v : Value) : Option (DataW Value × List MemPlace) := some (.held v, [])
/-- A map that holds what a function tells of its keys. -/
def MapF (w : World) (kt : TypeId) (b N : Nat) (F : Value → Option Value) : Prop :=
  ∃ (n : Nat) (D : DataW Value), w.ownsMap Tryd.prog kt heldElem b n D ∧ n ≤ N ∧ ∀ (key : Value) (kl : Lit), keyOf Tryd.prog kt key = some kl → (has D kl = (F key).isSome ∧ ∀ v, F key = some v → ∀ z, D.atKey kl z = .held v)
theorem MapF.made (w : World) (kt : TypeId) : MapF (w.alloc (.map #[] 0)) kt w.heap.size 0 fun _ => none :=
  ⟨0, .map [], World.ownsMap_made w _ _ _, Nat.le_refl _, fun key kl _ => ⟨by simp [Go.Maps.has], fun v h => by cases h⟩⟩
theorem MapF.lt {w : World} {kt : TypeId} {b N : Nat} {F : Value → Option Value} (h : MapF w kt b N F) : b < w.heap.size := by
  obtain ⟨n, D, h, _⟩ := h
  exact h.lt
theorem MapF.mono {w : World} {kt : TypeId} {b N M : Nat} {F : Value → Option Value} (h : MapF w kt b N F) (hm : N ≤ M) : MapF w kt b M F := by
  obtain ⟨n, D, h, h1, h2⟩ := h
  exact ⟨n, D, h, by omega, h2⟩
theorem MapF.kept {w w' : World} {kt : TypeId} {b N : Nat} {F : Value → Option Value} {r : Option Nat} (h : MapF w kt b N F) (hg : w.grownBy w' r) (hne : some b ≠ r) : MapF w' kt b N F := by
  obtain ⟨n, D, h, h1, h2⟩ := h
  exact ⟨n, D, h.kept hg hne, h1, h2⟩
theorem MapF.below {w w' : World} {kt : TypeId} {b N B : Nat} {F : Value → Option Value} (h : MapF w kt b N F) (hb : Below B w w') (hB : w.heap.size ≤ B) : MapF w' kt b N F :=
  h.kept (r := none) ⟨hb.os, hb.tape, hb.output, hb.size, fun i hi _ => hb.block i (by omega)⟩ (by simp)
theorem MapF.setCell {w : World} {kt : TypeId} {b N : Nat} {F : Value → Option Value} (h : MapF w kt b N F) {a : Addr} (ha : b ≠ a.block) (u : Value) : MapF (w.setCell a u) kt b N F := by
  obtain ⟨n, D, h, h1, h2⟩ := h
  exact ⟨n, D, h.setCell ha u, h1, h2⟩
theorem MapF.alloc {w : World} {kt : TypeId} {b N : Nat} {F : Value → Option Value} (h : MapF w kt b N F) (o : Obj) : MapF (w.alloc o) kt b N F := by
  obtain ⟨n, D, h, h1, h2⟩ := h
  exact ⟨n, D, h.alloc o, h1, h2⟩
theorem MapF.drewN {w : World} {kt : TypeId} {b N : Nat} {F : Value → Option Value} (h : MapF w kt b N F) (d : Nat) : MapF (w.drewN d) kt b N F := h.below (below_drewN' (Below.refl _ _) d) (Nat.le_refl _)
set_option maxRecDepth 100000 in
/-- m[k]. -/
theorem MapF.look {w : World} {t kt e : TypeId} {b N : Nat} {F : Value → Option Value} (h : MapF w kt b N F) (K : Keyed Tryd.prog kt) (ht : Tryd.prog.underlying t = some (.map kt e)) {z : Value} (hz : ∀ w, (zeroValue e).run Tryd.prog w = .ok z w) {key : Value} {kl : Lit} (hkey : keyOf Tryd.prog kt key = some kl) :
    (Instr.lookup t (.map (some b)) key false).run Tryd.prog w = .ok ((F key).getD z) w := by
  obtain ⟨n, D, h, h1, h2⟩ := h
  obtain ⟨v, ps, hrun, hv⟩ := h.lookup K ht (hz w) (show heldElem z = some (.held z, []) from rfl) hkey
  rw [hrun]
  obtain ⟨k1, k2⟩ := h2 key kl hkey
  simp only [heldElem, Option.some.injEq, Prod.mk.injEq] at hv
  obtain ⟨hv, _⟩ := hv
  cases hF : F key with
  | none =>
    rw [hF] at k1
    rw [atKey_of_not_has k1] at hv
    rw [DataW.held.inj hv]
    rfl
  | some u =>
    rw [k2 u hF] at hv
    rw [DataW.held.inj hv]
    rfl
set_option maxRecDepth 100000 in
/-- v, ok := m[k]. -/
theorem MapF.look_ok {w : World} {t kt e : TypeId} {b N : Nat} {F : Value → Option Value} (h : MapF w kt b N F) (K : Keyed Tryd.prog kt) (ht : Tryd.prog.underlying t = some (.map kt e)) {z : Value} (hz : ∀ w, (zeroValue e).run Tryd.prog w = .ok z w) {key : Value} {kl : Lit} (hkey : keyOf Tryd.prog kt key = some kl) :
    (Instr.lookup t (.map (some b)) key true).run Tryd.prog w = .ok (.tuple #[(F key).getD z, .bool (F key).isSome]) w := by
  obtain ⟨n, D, h, h1, h2⟩ := h
  obtain ⟨v, ps, hrun, hv⟩ := h.look_ok K ht (hz w) (show heldElem z = some (.held z, []) from rfl) hkey
  rw [hrun]
  obtain ⟨k1, k2⟩ := h2 key kl hkey
  simp only [heldElem, Option.some.injEq, Prod.mk.injEq] at hv
  obtain ⟨hv, _⟩ := hv
  rw [k1]
  cases hF : F key with
  | none =>
    rw [hF] at k1
    rw [atKey_of_not_has k1] at hv
    rw [DataW.held.inj hv]
    rfl
  | some u =>
    rw [k2 u hF] at hv
    rw [DataW.held.inj hv]
    rfl
set_option maxRecDepth 100000 in
/-- m[k] = v. -/
theorem MapF.store {w : World} {t kt e : TypeId} {b N : Nat} {F : Value → Option Value} (h : MapF w kt b N F) (K : Keyed Tryd.prog kt) (ht : Tryd.prog.underlying t = some (.map kt e)) (hN : N ≤ 1000000) {key : Value} {kl : Lit} (hkey : keyOf Tryd.prog kt key = some kl) (val : Value) :
    ∃ w' F', (Instr.mapUpdate t (.map (some b)) key val).run Tryd.prog w = .ok () w' ∧ MapF w' kt b (N + 1) F' ∧ F' key = some val ∧ (∀ k, k ≠ key → F' k = F k) ∧ w.grownBy w' (some b) ∧ w.mapTurned w' b := by
  obtain ⟨n, D, h, h1, h2⟩ := h
  have hm := h.isMap
  obtain ⟨w', hrun, h3, h4⟩ := h.store K ht (by unfold maxLen; omega) hkey (show heldElem val = some (.held val, []) from rfl)
  refine ⟨w', fun k => @ite _ (k = key) (Classical.propDecidable _) (some val) (F k), hrun, ⟨n + 1, _, h3, by omega, fun k kx hx => ?_⟩, if_pos rfl, fun k hk => if_neg hk, h4.grown, h4⟩
  by_cases hk : k = key
  · subst hk
    obtain rfl : kx = kl := by rw [hkey] at hx; exact (Option.some.inj hx).symm
    dsimp only
    rw [if_pos rfl]
    refine ⟨has_put_same hm (K.key hkey) _, fun v hv z => ?_⟩
    injection hv with hv
    subst hv
    exact atKey_put_same hm (K.key hkey) _ _
  · have hne : kx ≠ kl := fun e => hk (by rw [e] at hx; exact K.inj hx hkey)
    dsimp only
    rw [if_neg hk]
    obtain ⟨k1, k2⟩ := h2 k kx hx
    exact ⟨by rw [has_put_other hne, k1], fun v hv z => by rw [atKey_put_other hne]; exact k2 v hv z⟩
end

section
open Go.RowKit

/-- A letter: from whom, to whom, its number, its text. -/
structure Let where
  f : Int
  t : Int
  s : Int
  x : ByteArray
theorem Let.ext' {a b : Let} (h1 : a.f = b.f) (h2 : a.t = b.t) (h3 : a.s = b.s) (h4 : a.x = b.x) : a = b := by
  cases a; cases b; simp_all
def letC (l : Let) : List Value := [.int .i64 l.f, .int .i64 l.t, .int .i64 l.s, .string l.x]
def letV (l : Let) : Value := .agg #[.int .i64 l.f, .int .i64 l.t, .int .i64 l.s, .string l.x]
/-- The cells of letters, one behind the other. -/
def letsC (S : List Let) : List Value := S.flatMap letC
theorem letsC_len : ∀ S : List Let, (letsC S).length = S.length * 4
  | [] => rfl
  | a :: t => by
    have := letsC_len t
    unfold letsC at this ⊢
    rw [List.flatMap_cons, List.length_append, this, List.length_cons]
    simp [letC]
    omega
theorem letsC_app (S T : List Let) : letsC (S ++ T) = letsC S ++ letsC T := by unfold letsC; rw [List.flatMap_append]
theorem letsC_one (l : Let) : letsC [l] = letC l := by simp [letsC]
theorem letsC_at : ∀ (S : List Let) (i k : Nat) (h : i < S.length), k < 4 → (letsC S)[i * 4 + k]? = (letC S[i])[k]?
  | [], i, k, h, _ => by simp at h
  | a :: t, 0, k, _, hk => by
    unfold letsC
    rw [List.flatMap_cons, Nat.zero_mul, Nat.zero_add, List.getElem?_append_left (by simpa [letC] using hk)]
    rfl
  | a :: t, i + 1, k, h, hk => by
    have := letsC_at t i k (by simpa using h) hk
    unfold letsC at this ⊢
    rw [List.flatMap_cons, show (i + 1) * 4 + k = (letC a).length + (i * 4 + k) by simp [letC]; omega, List.getElem?_append_right (by omega), Nat.add_sub_cancel_left, this]
    rfl
theorem letsC_cell : ∀ (S : List Let) (y : Value), y ∈ letsC S → y.oneCell' = true := by
  intro S y h
  unfold letsC at h
  obtain ⟨l, _, h⟩ := List.mem_flatMap.1 h
  simp [letC] at h
  rcases h with rfl | rfl | rfl | rfl <;> rfl
theorem addr_plus' (b o k : Nat) : (⟨b, o, none⟩ : Addr).add k = ⟨b, o + k, none⟩ := by unfold Addr.add; split <;> simp_all

/-- A slice that reads as letters. -/
def LetsAt (w : World) (v : Value) (S : List Let) : Prop :=
  ∃ (A : Option Addr) (c : Nat), v = .slice A S.length c ∧ S.length ≤ c ∧ (S = [] ∨ ∃ b off, A = some ⟨b, off, none⟩ ∧ ∀ j, j < S.length * 4 → w.cell? ⟨b, off + j, none⟩ = (letsC S)[j]?)
theorem LetsAt.nil (w : World) : LetsAt w (.slice none 0 0) [] := ⟨none, 0, rfl, Nat.le_refl _, Or.inl rfl⟩
theorem lets_lt {w : World} {b off : Nat} {S : List Let} {j : Nat} (hj : j < S.length * 4) (h : w.cell? ⟨b, off + j, none⟩ = (letsC S)[j]?) : b < w.heap.size := by
  rw [List.getElem?_eq_getElem (by rw [letsC_len]; exact hj)] at h
  exact World.block_lt_of_cell? _ _ h
theorem LetsAt.kept {w w' : World} {v : Value} {S : List Let} {row : Option Nat} (h : LetsAt w v S) (hg : w.grownBy w' row) (hne : v.ownBlock = none ∨ v.ownBlock ≠ row) : LetsAt w' v S := by
  obtain ⟨A, c, rfl, hc, h⟩ := h
  refine ⟨A, c, rfl, hc, ?_⟩
  rcases h with h | ⟨b, off, rfl, hx⟩
  · exact Or.inl h
  · refine Or.inr ⟨b, off, rfl, fun j hj => ?_⟩
    have hlt := lets_lt hj (hx j hj)
    rw [← hx j hj]
    refine World.cell?_of_block (hg.block b hlt ?_)
    rcases hne with h | h
    · cases h
    · exact h
theorem LetsAt.below {w w' : World} {v : Value} {S : List Let} {B : Nat} (h : LetsAt w v S) (hb : Below B w w') (hB : w.heap.size ≤ B) : LetsAt w' v S := by
  obtain ⟨A, c, rfl, hc, h⟩ := h
  refine ⟨A, c, rfl, hc, ?_⟩
  rcases h with h | ⟨b, off, rfl, hx⟩
  · exact Or.inl h
  · refine Or.inr ⟨b, off, rfl, fun j hj => ?_⟩
    have hlt := lets_lt hj (hx j hj)
    rw [← hx j hj]
    exact hb.cell (p := ⟨b, off + j, none⟩) (show b < B by omega)
theorem LetsAt.pos {w : World} {A : Option Addr} {n c : Nat} {S : List Let} (h : LetsAt w (.slice A n c) S) {i : Nat} (hi : i < S.length) :
    ∃ b off, A = some ⟨b, off, none⟩ ∧ w.cell? ⟨b, off + i * 4, none⟩ = some (.int .i64 S[i].f) ∧ w.cell? ⟨b, off + i * 4 + 1, none⟩ = some (.int .i64 S[i].t) ∧ w.cell? ⟨b, off + i * 4 + 2, none⟩ = some (.int .i64 S[i].s) ∧ w.cell? ⟨b, off + i * 4 + 3, none⟩ = some (.string S[i].x) := by
  obtain ⟨A', c', e, hc, h⟩ := h
  injection e with e1 e2 e3
  subst e1
  rcases h with rfl | ⟨b, off, rfl, hx⟩
  · simp at hi
  · refine ⟨b, off, rfl, ?_, ?_, ?_, ?_⟩
    · have := hx (i * 4 + 0) (by omega)
      rwa [letsC_at S i 0 hi (by omega)] at this
    · have := hx (i * 4 + 1) (by omega)
      rwa [letsC_at S i 1 hi (by omega), ← Nat.add_assoc] at this
    · have := hx (i * 4 + 2) (by omega)
      rwa [letsC_at S i 2 hi (by omega), ← Nat.add_assoc] at this
    · have := hx (i * 4 + 3) (by omega)
      rwa [letsC_at S i 3 hi (by omega), ← Nat.add_assoc] at this
theorem own_lets {w : World} {base n e : Nat} {v : Value} {S : List Let} (h : w.ownsRow base e 4 v n (letsC S)) : LetsAt w v S := by
  have hn : S.length = n := by have := h.1; rw [letsC_len] at this; omega
  subst hn
  have h0 := h
  rcases h.2 with ⟨rfl, h1⟩ | ⟨g, cap, cur, rfl, _, hh, hcap, _⟩
  · exact ⟨none, 0, by rw [h1], by omega, Or.inl (List.eq_nil_of_length_eq_zero h1)⟩
  · exact ⟨_, cap, rfl, hcap, Or.inr ⟨g, 0, rfl, fun j hj => by rw [Nat.zero_add, h0.cellAt j hj]⟩⟩

/-- A slice of letters of the call's own, of which a part at the head may be gone. -/
def FlyAt (w : World) (base : Nat) (v : Value) (S : List Let) : Prop :=
  ∃ (A : Option Addr) (c : Nat), v = .slice A S.length c ∧ S.length ≤ c ∧ ((A = none ∧ c = 0) ∨ ∃ g off, A = some ⟨g, off, none⟩ ∧ base ≤ g ∧ g < w.heap.size ∧
    (∀ j, j < c * 4 → (w.cell? ⟨g, off + j, none⟩).isSome = true ∧ w.frozen? ⟨g, off + j, none⟩ = false) ∧ ∀ j, j < S.length * 4 → w.cell? ⟨g, off + j, none⟩ = (letsC S)[j]?)
theorem FlyAt.nil (w : World) (base : Nat) : FlyAt w base (.slice none 0 0) [] := ⟨none, 0, rfl, Nat.le_refl _, Or.inl ⟨rfl, rfl⟩⟩
theorem FlyAt.lets {w : World} {base : Nat} {v : Value} {S : List Let} (h : FlyAt w base v S) : LetsAt w v S := by
  obtain ⟨A, c, rfl, hc, h⟩ := h
  refine ⟨A, c, rfl, hc, ?_⟩
  rcases h with ⟨rfl, rfl⟩ | ⟨g, off, rfl, _, _, _, hx⟩
  · exact Or.inl (List.eq_nil_of_length_eq_zero (by omega))
  · exact Or.inr ⟨g, off, rfl, hx⟩
theorem FlyAt.own {w : World} {base : Nat} {v : Value} {S : List Let} (h : FlyAt w base v S) {k : Nat} (hk : v.ownBlock = some k) : base ≤ k ∧ k < w.heap.size := by
  obtain ⟨A, c, rfl, hc, h⟩ := h
  rcases h with ⟨rfl, rfl⟩ | ⟨g, off, rfl, h1, h2, _⟩
  · cases hk
  · have : some g = some k := hk
    injection this with e
    omega
theorem FlyAt.kept {w w' : World} {base : Nat} {v : Value} {S : List Let} {row : Option Nat} (h : FlyAt w base v S) (hg : w.grownBy w' row) (hne : v.ownBlock = none ∨ v.ownBlock ≠ row) : FlyAt w' base v S := by
  obtain ⟨A, c, rfl, hc, h⟩ := h
  refine ⟨A, c, rfl, hc, ?_⟩
  rcases h with h | ⟨g, off, rfl, h1, h2, h3, h4⟩
  · exact Or.inl h
  · have hb : w'.heap[g]? = w.heap[g]? := hg.block g h2 (by
      rcases hne with h | h
      · cases h
      · exact h)
    refine Or.inr ⟨g, off, rfl, h1, Nat.lt_of_lt_of_le h2 hg.size, fun j hj => ?_, fun j hj => ?_⟩
    · rw [World.cell?_of_block (a := ⟨g, off + j, none⟩) hb, World.frozen?_of_block (a := ⟨g, off + j, none⟩) hb]
      exact h3 j hj
    · rw [World.cell?_of_block (a := ⟨g, off + j, none⟩) hb]
      exact h4 j hj
theorem FlyAt.below {w w' : World} {base B : Nat} {v : Value} {S : List Let} (h : FlyAt w base v S) (hb : Below B w w') (hB : w.heap.size ≤ B) : FlyAt w' base v S := by
  refine h.kept (row := none) ⟨hb.os, hb.tape, hb.output, hb.size, fun i hi _ => hb.block i (by omega)⟩ ?_
  cases hv : v.ownBlock with
  | none => exact Or.inl rfl
  | some k => exact Or.inr (by simp)
theorem FlyAt.whole {w w' : World} {base g : Nat} {v : Value} {S : List Let} (h : FlyAt w base v S) (hg : w.grownBy w' (some g)) (hne : v.ownBlock ≠ some g) : FlyAt w' base v S := h.kept hg (Or.inr hne)
theorem grown_setCells (w : World) (g o : Nat) (vs : List Value) : w.grownBy (w.setCells g o vs) (some g) := by
  refine ⟨World.os_setCells w g o vs, ?_, World.output_setCells w g o vs, ?_, fun k hk hne => World.heap_setCells_other w g o vs hk (fun e => hne (by rw [e]))⟩
  · skip
    induction vs generalizing o w with
    | nil => rfl
    | cons a t ih => rw [World.setCells, ih]; rfl
  · skip
    induction vs generalizing o w with
    | nil => exact Nat.le_refl _
    | cons a t ih =>
      rw [World.setCells]
      refine Nat.le_trans ?_ (ih _ _)
      simp [World.setCell]
/-- The head gone. -/
theorem FlyAt.tail {w : World} {base : Nat} {A : Option Addr} {n c : Nat} {S : List Let} (h : FlyAt w base (.slice A n c) S) (h0 : 0 < S.length) : ∃ g off, A = some ⟨g, off, none⟩ ∧ n = S.length ∧ S.length ≤ c ∧ FlyAt w base (.slice (some ⟨g, off + 4, none⟩) (n - 1) (c - 1)) S.tail := by
  obtain ⟨A', c', e, hc, h⟩ := h
  injection e with e1 e2 e3
  subst e1 e2 e3
  rcases h with ⟨rfl, rfl⟩ | ⟨g, off, rfl, h1, h2, h3, h4⟩
  · omega
  · refine ⟨g, off, rfl, rfl, hc, ⟨_, c - 1, by rw [List.length_tail], by rw [List.length_tail]; omega, Or.inr ⟨g, off + 4, rfl, h1, h2, fun j hj => ?_, fun j hj => ?_⟩⟩⟩
    · rw [Nat.add_assoc]
      exact h3 (4 + j) (by omega)
    · rw [List.length_tail] at hj
      rw [Nat.add_assoc, h4 (4 + j) (by omega)]
      cases S with
      | nil => simp at h0
      | cons a t =>
        unfold letsC
        rw [List.flatMap_cons, List.getElem?_append_right (by simp [letC])]
        simp [letC, List.tail]

section
variable {P : Program}
/-- Letters behind those of the call's own. -/
theorem FlyAt.app {w : World} {base : Nat} {v : Value} {S T : List Let} (h : FlyAt w base v S) (t ty e : TypeId) (i : TypeInfo) (z : Value) (ht : P.underlying t = some (.slice e)) (hi : P.info? e = some i) (hz : i.zero = some z) (hzs : z.cells.size = 4) (hsize : i.size = 4) (hby : i.bytes = 40)
    {b o m : Nat} (hm : T.length = m) (hcells : ∀ j, j < m * 4 → w.cell? ⟨b, o + j, none⟩ = (letsC T)[j]?) (c : Nat) (hn : S.length + m ≤ 1000000) (hbase : base ≤ w.heap.size) :
    ∃ v' w', (Builtin.append_ #[t, t] ty #[v, .slice (some ⟨b, o, none⟩) m c]).run P w = .ok v' w' ∧ FlyAt w' base v' (S ++ T) ∧ w.grownBy w' v.ownBlock ∧ (v'.ownBlock = v.ownBlock ∨ ∃ g, v'.ownBlock = some g ∧ w.heap.size ≤ g) ∧ LetsAt w' v S := by
  have hlets := h.lets
  obtain ⟨A, cap, rfl, hcap, h⟩ := h
  have hs : Src P i.size t (.slice (some ⟨b, o, none⟩) m c) m (letsC T) w := Src.ofSlice w ht ⟨b, o, none⟩ m c (letsC T) (by rw [letsC_len, hm, hsize]) (fun j u hj => by
    have hjl : j < m * 4 := by
      have := (List.getElem?_eq_some_iff.1 hj).1
      rw [letsC_len, hm] at this
      exact this
    rw [addr_plus', hcells j hjl, hj]) (letsC_cell T)
  by_cases hroom : S.length + m ≤ cap
  · rcases h with ⟨rfl, h0⟩ | ⟨g, off, rfl, h1, h2, h3, h4⟩
    · have hS : S = [] := List.eq_nil_of_length_eq_zero (by omega)
      have hT : T = [] := List.eq_nil_of_length_eq_zero (by omega)
      subst hS hT h0
      obtain rfl : m = 0 := by simpa using hm.symm
      refine ⟨.slice none 0 0, w, ?_, FlyAt.nil w base, World.grownBy.refl w _, Or.inl rfl, hlets⟩
      exact run_append_nothing w t t ty e i ht hi none 0 0 (Nat.le_refl _) _ hs
    · have hr := run_append_room_src (P := P) w t t ty e i ht hi g off S.length cap _ m (letsC T) hs hroom
        (fun j hj => by rw [hsize, Nat.add_assoc]; rw [letsC_len, hm] at hj; exact (h3 (S.length * 4 + j) (by omega)).1)
        (fun j hj => by rw [hsize, Nat.add_assoc]; rw [letsC_len, hm] at hj; exact (h3 (S.length * 4 + j) (by omega)).2)
      rw [hsize] at hr
      have hg := grown_setCells w g (off + S.length * 4) (letsC T)
      refine ⟨_, _, hr, ⟨_, cap, by rw [List.length_append, hm], by rw [List.length_append, hm]; exact hroom, Or.inr ⟨g, off, rfl, h1, Nat.lt_of_lt_of_le h2 hg.size, fun j hj => ⟨?_, ?_⟩, fun j hj => ?_⟩⟩, hg, Or.inl rfl, ⟨_, cap, rfl, hcap, Or.inr ⟨g, off, rfl, fun j hj => ?_⟩⟩⟩
      · exact World.isSome_setCells g _ _ _ _ (h3 j hj).1
      · rw [World.frozen?_setCells]
        exact (h3 j hj).2
      · rw [List.length_append, hm] at hj
        by_cases hjs : j < S.length * 4
        · rw [World.cell?_setCells_out g _ _ _ _ (fun _ _ => Or.inl (show off + j < off + S.length * 4 by omega)), h4 j hjs, letsC_app, List.getElem?_append_left (by rw [letsC_len]; exact hjs)]
        · obtain ⟨k, rfl⟩ : ∃ k, j = S.length * 4 + k := ⟨j - S.length * 4, by omega⟩
          have hk : k < (letsC T).length := by rw [letsC_len, hm]; omega
          rw [← Nat.add_assoc, World.cell?_setCells_in g (letsC T) (off + S.length * 4) w (fun j hj => by rw [Nat.add_assoc]; rw [letsC_len, hm] at hj; exact (h3 (S.length * 4 + j) (by omega)).1) k hk, letsC_app, List.getElem?_append_right (by rw [letsC_len]; omega), letsC_len, Nat.add_sub_cancel_left, List.getElem?_eq_getElem hk]
      · rw [World.cell?_setCells_out g _ _ _ _ (fun _ _ => Or.inl (show off + j < off + S.length * 4 by omega)), h4 j hj]
  · have hold : (Builtin.firstCells i.size S.length (.slice A S.length cap)).run P w.drew = .ok (letsC S).toArray w.drew := by
      rcases h with ⟨rfl, h0⟩ | ⟨g, off, rfl, h1, h2, h3, h4⟩
      · have hS : S = [] := List.eq_nil_of_length_eq_zero (by omega)
        subst hS
        exact run_firstCells_none w.drew i.size 0 0 cap
      · refine run_firstCells_some w.drew i.size S.length ⟨g, off, none⟩ S.length cap (letsC S) (by rw [letsC_len, hsize]) (fun j u hj => ?_)
        have hjl : j < S.length * 4 := by
          have := (List.getElem?_eq_some_iff.1 hj).1
          rw [letsC_len] at this
          exact this
        rw [addr_plus']
        show w.cell? ⟨g, off + j, none⟩ = some u
        rw [h4 j hjl, hj]
    have hr := run_append_grow_src (P := P) w t t ty e i z ht hi hz A S.length cap (letsC S) hold _ m (letsC T) hs (by omega) (by omega) (by
      have := nextslicecap_le (need := S.length + m) (old := cap) (by omega)
      rw [hby]
      omega)
    have hge := grownCap_ge w (S.length + m) cap e
    have hgm := grownCap_le_maxLen w (S.length + m) cap e (by unfold maxLen; omega)
    obtain ⟨nc, hnc⟩ : ∃ nc, grownCap w (S.length + m) cap e = nc := ⟨_, rfl⟩
    rw [hnc] at hr hge hgm
    have hW := Whole.new w.drew e ((letsC S ++ letsC T).toArray ++ Builtin.zeroCells z.cells (nc - (S.length + m)))
    have hsz : ((letsC S ++ letsC T).toArray ++ Builtin.zeroCells z.cells (nc - (S.length + m))).size = nc * 4 := by
      rw [Array.size_append, size_zeroCells, hzs, List.size_toArray, List.length_append, letsC_len, letsC_len, hm]
      omega
    refine ⟨_, _, hr, ⟨_, nc, by rw [List.length_append, hm], by rw [List.length_append, hm]; exact hge, Or.inr ⟨w.heap.size, 0, rfl, hbase, hW.lt, fun j hj => ⟨?_, hW.free _⟩, fun j hj => ?_⟩⟩, ?_, Or.inr ⟨_, rfl, Nat.le_refl _⟩, hlets.below (B := w.heap.size) ?_ (Nat.le_refl _)⟩
    · rw [Nat.zero_add]
      have : (w.drew.alloc (.cells ((letsC S ++ letsC T).toArray ++ Builtin.zeroCells z.cells (nc - (S.length + m))) e)).cell? ⟨w.heap.size, j, none⟩ = _ := hW.cell j
      rw [this, Array.getElem?_eq_getElem (by omega)]
      rfl
    · rw [Nat.zero_add]
      have : (w.drew.alloc (.cells ((letsC S ++ letsC T).toArray ++ Builtin.zeroCells z.cells (nc - (S.length + m))) e)).cell? ⟨w.heap.size, j, none⟩ = _ := hW.cell j
      rw [List.length_append, hm] at hj
      rw [this, Array.getElem?_append_left (by rw [List.size_toArray, List.length_append, letsC_len, letsC_len, hm]; omega), letsC_app]
      simp
    · have h1 := World.grownBy_alloc w.drew (.cells ((letsC S ++ letsC T).toArray ++ Builtin.zeroCells z.cells (nc - (S.length + m))) e) (Value.slice A S.length cap).ownBlock
      exact ⟨h1.os, h1.tape, h1.output, h1.size, h1.block⟩
    · exact (below_drewN' (Below.refl w.heap.size w) 1).alloc (Nat.le_refl _) _
end
end

section
open Go.RowKit

def In64 (x : Int) : Prop := -9223372036854775808 ≤ x ∧ x ≤ 9223372036854775807
theorem wf_in64 {x : Int} (h : In64 x) : (Lit.int .i64 x).wf = true := Go.WalkArith.wf_i64 h
def routeV (a b : Int) : Value := .agg #[.int .i64 a, .int .i64 b]
def nameV (a b s : Int) : Value := .agg #[.int .i64 a, .int .i64 b, .int .i64 s]
theorem Tryd.laidOutN : laidOutB Tryd.prog = true := by kernel_rfl
theorem route_keyed : Go.Maps.Keyed Tryd.prog 95 := Go.Maps.Keyed.of_law (deep_law_laid Tryd.laidOutN (m := 10) (by omega) (of_decide_eq_true (by kernel_rfl)) (by kernel_rfl) (by kernel_rfl))
theorem name_keyed : Go.Maps.Keyed Tryd.prog 103 := Go.Maps.Keyed.of_law (deep_law_laid Tryd.laidOutN (m := 10) (by omega) (of_decide_eq_true (by kernel_rfl)) (by kernel_rfl) (by kernel_rfl))
theorem Tryd.typesN : ∃ m, Tryd.prog.types.size = m + 2 := ⟨Tryd.prog.types.size - 2, by have : (2 : Nat) ≤ Tryd.prog.types.size := of_decide_eq_true (by kernel_rfl); omega⟩
theorem Tryd.keyTypeR : Tryd.prog.keyType 95 = true := by kernel_rfl
theorem Tryd.keyTypeN : Tryd.prog.keyType 103 = true := by kernel_rfl
theorem Tryd.cellsR : Tryd.prog.cellsOf 95 = 2 := by kernel_rfl
theorem Tryd.cellsN : Tryd.prog.cellsOf 103 = 3 := by kernel_rfl
theorem Tryd.cellsI : Tryd.prog.cellsOf 3 = 1 := by kernel_rfl
theorem key_route {a b : Int} (h1 : In64 a) (h2 : In64 b) : ∃ kl, keyOf Tryd.prog 95 (routeV a b) = some kl := by
  obtain ⟨m, hm⟩ := Tryd.typesN
  have w1 := wf_in64 h1
  have w2 := wf_in64 h2
  have hf : (routeV a b).formed Tryd.prog 95 = true := by simp [routeV, Value.formed, Tryd.underlying95, Tryd.cellsR]
  unfold keyOf
  rw [Tryd.underlying95, Tryd.keyTypeR, hf, hm]
  simp [Program.keyLits, Tryd.underlying95, Tryd.underlying3, routeV, Value.cells, Tryd.cellsR, Tryd.cellsI, w1, w2]
theorem key_name {a b s : Int} (h1 : In64 a) (h2 : In64 b) (h3 : In64 s) : ∃ kl, keyOf Tryd.prog 103 (nameV a b s) = some kl := by
  obtain ⟨m, hm⟩ := Tryd.typesN
  have w1 := wf_in64 h1
  have w2 := wf_in64 h2
  have w3 := wf_in64 h3
  have hf : (nameV a b s).formed Tryd.prog 103 = true := by simp [nameV, Value.formed, Tryd.underlying103, Tryd.cellsN]
  unfold keyOf
  rw [Tryd.underlying103, Tryd.keyTypeN, hf, hm]
  simp [Program.keyLits, Tryd.underlying103, Tryd.underlying95, Tryd.underlying3, nameV, Value.cells, Tryd.cellsR, Tryd.cellsN, Tryd.cellsI, w1, w2, w3]
  split
  · exact ⟨_, rfl⟩
  · rename_i h
    refine absurd ?_ h
    intro i hi
    match i, hi with
    | 0, _ => simp
    | 1, _ => simp
theorem routeV_inj {a b c d : Int} (h : routeV a b = routeV c d) : a = c ∧ b = d := by
  simp [routeV] at h
  exact h
theorem nameV_inj {a b s c d r : Int} (h : nameV a b s = nameV c d r) : a = c ∧ b = d ∧ s = r := by
  simp [nameV] at h
  exact h
theorem zero_int (w : World) : (zeroValue 3).run Tryd.prog w = .ok (.int .i64 0) w := by kernel_rfl
def letZ : Let := ⟨0, 0, 0, ⟨#[]⟩⟩
theorem zero_let (w : World) : (zeroValue 83).run Tryd.prog w = .ok (letV letZ) w := by kernel_rfl
theorem Tryd.infoNL : (Tryd.prog.info? 83).map (fun i => (i.zero, i.size, i.bytes)) = some (some (letV letZ), 4, 40) := by kernel_rfl
end
end Go.Proofs.YtlopoddllfkkfaaDoor
