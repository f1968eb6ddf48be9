/- Patterns turned: pure. -/
import Derived.Test.YtgolcogigpnbeaaGreatDoorPatRightP
import Derived.Test.YtgolcogigpnbeaaGreatDoorPerm
namespace Go.Proofs.YtgolcogigpnbeaaGreatDoor
open Go.RowKit

def mvE (Z : Nat → Int) (e : Int × Int) : Int × Int := (Z e.1.toNat, Z e.2.toNat)
/-- Edges turned by an order. -/
def turnE (Z : Nat → Int) (E : List (Int × Int)) : List (Int × Int) := sortE (E.map (mvE Z))
/-- Edges of n vertices. -/
def InE (n : Nat) (E : List (Int × Int)) : Prop := ∀ e ∈ E, 0 ≤ e.1 ∧ e.1 < e.2 ∧ e.2 < (n : Int)
theorem ris_ris (e : Int × Int) : ris (ris e) = ris e := by
  unfold ris
  dsimp only
  refine Prod.ext ?_ ?_
  · show min (min e.1 e.2) (max e.1 e.2) = min e.1 e.2; omega
  · show max (min e.1 e.2) (max e.1 e.2) = max e.1 e.2; omega
theorem ris_self {e : Int × Int} (h : e.1 < e.2) : ris e = e := by
  unfold ris
  refine Prod.ext ?_ ?_
  · show min e.1 e.2 = e.1; omega
  · show max e.1 e.2 = e.2; omega
theorem ris_mv (Z : Nat → Int) (e : Int × Int) : ris (mvE Z (ris e)) = ris (mvE Z e) := by
  by_cases h : e.1 ≤ e.2
  · have e1 : ris e = e := by
      unfold ris
      refine Prod.ext ?_ ?_
      · show min e.1 e.2 = e.1; omega
      · show max e.1 e.2 = e.2; omega
    rw [e1]
  · have e1 : ris e = (e.2, e.1) := by
      unfold ris
      refine Prod.ext ?_ ?_
      · show min e.1 e.2 = e.2; omega
      · show max e.1 e.2 = e.1; omega
    rw [e1]
    unfold mvE ris
    refine Prod.ext ?_ ?_
    · show min (Z e.2.toNat) (Z e.1.toNat) = min (Z e.1.toNat) (Z e.2.toNat); omega
    · show max (Z e.2.toNat) (Z e.1.toNat) = max (Z e.1.toNat) (Z e.2.toNat); omega
theorem nodup_map_on {α β : Type} {f : α → β} : ∀ {L : List α}, L.Nodup → (∀ a ∈ L, ∀ b ∈ L, f a = f b → a = b) → (L.map f).Nodup
  | [], _, _ => List.nodup_nil
  | x :: t, h, hi => by
    have h' := List.nodup_cons.1 h
    rw [List.map_cons]
    refine List.nodup_cons.2 ⟨fun hm => ?_, nodup_map_on h'.2 (fun a ha b hb e => hi a (List.mem_cons_of_mem _ ha) b (List.mem_cons_of_mem _ hb) e)⟩
    obtain ⟨y, hy, e⟩ := List.mem_map.1 hm
    have := hi y (List.mem_cons_of_mem _ hy) x (List.mem_cons_self ..) e
    subst this
    exact h'.1 hy
theorem pigeonL {α : Type} : ∀ (A B : List α), A.Nodup → (∀ x ∈ A, x ∈ B) → B.length ≤ A.length → ∀ y ∈ B, y ∈ A
  | [], B, _, _, hl, y, hy => by
    rw [List.eq_nil_of_length_eq_zero (Nat.le_zero.1 hl)] at hy
    cases hy
  | a :: t, B, hn, hs, hl, y, hy => by
    obtain ⟨p, q, rfl⟩ := List.append_of_mem (hs a (List.mem_cons_self ..))
    have hn' := List.nodup_cons.1 hn
    have ih := pigeonL t (p ++ q) hn'.2 (fun x hx => by
      have hxa : x ≠ a := fun e => hn'.1 (e ▸ hx)
      rcases List.mem_append.1 (hs x (List.mem_cons_of_mem _ hx)) with h1 | h1
      · exact List.mem_append.2 (Or.inl h1)
      · rcases List.mem_cons.1 h1 with h2 | h2
        · exact absurd h2 hxa
        · exact List.mem_append.2 (Or.inr h2)) (by
      simp only [List.length_append, List.length_cons] at hl ⊢
      omega)
    rcases List.mem_append.1 hy with h1 | h1
    · exact List.mem_cons_of_mem _ (ih y (List.mem_append.2 (Or.inl h1)))
    · rcases List.mem_cons.1 h1 with h2 | h2
      · rw [h2]; exact List.mem_cons_self ..
      · exact List.mem_cons_of_mem _ (ih y (List.mem_append.2 (Or.inr h2)))
theorem pigeonN (n : Nat) (f : Nat → Nat) (h1 : ∀ i, i < n → f i < n) (h2 : ∀ i k, i < n → k < n → f i = f k → i = k) (j : Nat) (hj : j < n) : ∃ i, i < n ∧ f i = j := by
  have hn : ((List.range n).map f).Nodup := by
    refine nodup_map_on List.nodup_range (fun a ha b hb e => h2 a b (List.mem_range.1 ha) (List.mem_range.1 hb) e)
  have h := pigeonL ((List.range n).map f) (List.range n) hn (fun x hx => by
    obtain ⟨i, hi, rfl⟩ := List.mem_map.1 hx
    exact List.mem_range.2 (h1 i (List.mem_range.1 hi))) (by simp) j (List.mem_range.2 hj)
  obtain ⟨i, hi, e⟩ := List.mem_map.1 h
  exact ⟨i, List.mem_range.1 hi, e⟩
section
variable {n : Nat} {Z : Nat → Int} {E : List (Int × Int)}
theorem Order.at_int (hO : Order n Z) {x y : Int} (hx : 0 ≤ x) (hx2 : x < n) (hy : 0 ≤ y) (hy2 : y < n) (h : Z x.toNat = Z y.toNat) : x = y := by
  have := hO.inj x.toNat y.toNat (by omega) (by omega) h
  omega
theorem mv_inj (hO : Order n Z) {a b : Int × Int} (ha : 0 ≤ a.1 ∧ a.1 < a.2 ∧ a.2 < (n : Int)) (hb : 0 ≤ b.1 ∧ b.1 < b.2 ∧ b.2 < (n : Int)) (h : ris (mvE Z a) = ris (mvE Z b)) : a = b := by
  have h1 : min (Z a.1.toNat) (Z a.2.toNat) = min (Z b.1.toNat) (Z b.2.toNat) := congrArg Prod.fst h
  have h2 : max (Z a.1.toNat) (Z a.2.toNat) = max (Z b.1.toNat) (Z b.2.toNat) := congrArg Prod.snd h
  rcases (by omega : (Z a.1.toNat = Z b.1.toNat ∧ Z a.2.toNat = Z b.2.toNat) ∨ (Z a.1.toNat = Z b.2.toNat ∧ Z a.2.toNat = Z b.1.toNat)) with ⟨e1, e2⟩ | ⟨e1, e2⟩
  · exact Prod.ext (hO.at_int (by omega) (by omega) (by omega) (by omega) e1) (hO.at_int (by omega) (by omega) (by omega) (by omega) e2)
  · have e3 := hO.at_int (x := a.1) (y := b.2) (by omega) (by omega) (by omega) (by omega) e1
    have e4 := hO.at_int (x := a.2) (y := b.1) (by omega) (by omega) (by omega) (by omega) e2
    omega
theorem turn_nodup (hO : Order n Z) (hE : InE n E) (hr : RisingE E) : ((E.map (mvE Z)).map ris).Nodup := by
  rw [List.map_map]
  exact nodup_map_on hr.nodup (fun a ha b hb e => mv_inj hO (hE a ha) (hE b hb) e)
theorem turn_perm (Z : Nat → Int) (E : List (Int × Int)) : (turnE Z E).Perm ((E.map (mvE Z)).map ris) := sortE_perm _ _ rfl
theorem turn_rising (hO : Order n Z) (hE : InE n E) (hr : RisingE E) : RisingE (turnE Z E) := sortE_rising _ _ rfl (turn_nodup hO hE hr)
theorem turn_mem {x : Int × Int} : x ∈ turnE Z E ↔ ∃ e ∈ E, ris (mvE Z e) = x := by
  rw [(turn_perm Z E).mem_iff, List.mem_map]
  constructor
  · rintro ⟨y, hy, rfl⟩
    obtain ⟨e, he, rfl⟩ := List.mem_map.1 hy
    exact ⟨e, he, rfl⟩
  · rintro ⟨e, he, rfl⟩
    exact ⟨mvE Z e, List.mem_map_of_mem he, rfl⟩
theorem turn_in (hO : Order n Z) (hE : InE n E) : InE n (turnE Z E) := by
  intro x hx
  obtain ⟨e, he, rfl⟩ := turn_mem.1 hx
  obtain ⟨h1, h2, h3⟩ := hE e he
  have a1 := hO.rng e.1.toNat (by omega)
  have a2 := hO.rng e.2.toNat (by omega)
  have hne : Z e.1.toNat ≠ Z e.2.toNat := fun h => by
    have := hO.at_int (x := e.1) (y := e.2) (by omega) (by omega) (by omega) (by omega) h
    omega
  show 0 ≤ min (Z e.1.toNat) (Z e.2.toNat) ∧ min (Z e.1.toNat) (Z e.2.toNat) < max (Z e.1.toNat) (Z e.2.toNat) ∧ max (Z e.1.toNat) (Z e.2.toNat) < (n : Int)
  omega
theorem turn_turn {W : Nat → Int} (hO : Order n Z) (hW : Order n W) (hE : InE n E) (hr : RisingE E) {Y : Nat → Int} (hY : ∀ i, i < n → Y i = W (Z i).toNat) (hYO : Order n Y) : turnE W (turnE Z E) = turnE Y E := by
  refine risingE_eq (turn_rising hW (turn_in hO hE) (turn_rising hO hE hr)) (turn_rising hYO hE hr) ?_
  refine (turn_perm W _).trans (List.Perm.trans ?_ (turn_perm Y E).symm)
  refine (((turn_perm Z E).map (mvE W)).map ris).trans ?_
  rw [List.map_map, List.map_map, List.map_map, List.map_map]
  rw [List.map_congr_left (g := ris ∘ mvE Y) (fun e he => ?_)]
  obtain ⟨h1, h2, h3⟩ := hE e he
  show ris (mvE W (ris (mvE Z e))) = ris (mvE Y e)
  rw [ris_mv]
  unfold mvE
  dsimp only
  rw [hY _ (by omega), hY _ (by omega)]
theorem turn_same (hE : InE n E) (hr : RisingE E) (hO : Order n Z) (hZ : ∀ i, i < n → Z i = i) : turnE Z E = E := by
  refine risingE_eq (turn_rising hO hE hr) hr ((turn_perm Z E).trans ?_)
  rw [List.map_map]
  have : E.map (ris ∘ mvE Z) = E := by
    conv => rhs; rw [← List.map_id E]
    refine List.map_congr_left (fun e he => ?_)
    obtain ⟨h1, h2, h3⟩ := hE e he
    show ris (mvE Z e) = e
    have : mvE Z e = e := by
      unfold mvE
      rw [hZ _ (by omega), hZ _ (by omega)]
      exact Prod.ext (by show ((e.1.toNat : Nat) : Int) = e.1; omega) (by show ((e.2.toNat : Nat) : Int) = e.2; omega)
    rw [this]
    exact ris_self h2
  rw [this]
/-- An order of another one. -/
theorem Order.comp {W Y : Nat → Int} (hO : Order n Z) (hW : Order n W) (hY : ∀ i, i < n → Y i = W (Z i).toNat) : Order n Y where
  le8 := hO.le8
  rng := fun i hi => by
    have := hO.rng i hi
    rw [hY i hi]
    exact hW.rng _ (by omega)
  inj := fun i j hi hj h => by
    rw [hY i hi, hY j hj] at h
    have a := hO.rng i hi
    have b := hO.rng j hj
    exact hO.inj i j hi hj (hW.at_int a.1 a.2 b.1 b.2 h)
theorem order_onto (hO : Order n Z) {j : Nat} (hj : j < n) : ∃ i, i < n ∧ Z i = j := by
  have h := pigeonN n (fun i => (Z i).toNat) (fun i hi => by have := hO.rng i hi; omega) (fun i k hi hk e => by
    have a := hO.rng i hi
    have b := hO.rng k hk
    exact hO.inj i k hi hk (by omega)) j hj
  obtain ⟨i, hi, e⟩ := h
  exact ⟨i, hi, by have := hO.rng i hi; omega⟩
theorem Order.back {Y : Nat → Int} (hO : Order n Z) (hY : ∀ i, i < n → Y (Z i).toNat = i) : Order n Y where
  le8 := hO.le8
  rng := fun j hj => by
    obtain ⟨i, hi, e⟩ := order_onto hO hj
    have h := hY i hi
    rw [e] at h
    rw [show ((j : Int)).toNat = j from rfl] at h
    omega
  inj := fun a b ha hb h => by
    obtain ⟨i, hi, e⟩ := order_onto hO ha
    obtain ⟨k, hk, f⟩ := order_onto hO hb
    have h1 := hY i hi
    have h2 := hY k hk
    rw [e, show ((a : Int)).toNat = a from rfl] at h1
    rw [f, show ((b : Int)).toNat = b from rfl] at h2
    rw [h1, h2] at h
    have : i = k := by omega
    subst this
    omega
end
end Go.Proofs.YtgolcogigpnbeaaGreatDoor
