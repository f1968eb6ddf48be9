/- Patterns turned, and back: pure. -/
import Derived.Test.YtgolcogigpnbeaaGreatDoorSubP
namespace Go.Proofs.YtgolcogigpnbeaaGreatDoor
open Go.RowKit

def labY (n : Nat) (Y : Nat → Int) : List Int := (List.range n).map Y
theorem labY_len (n : Nat) (Y : Nat → Int) : (labY n Y).length = n := by simp [labY]
theorem labY_at {n k : Nat} (Y : Nat → Int) (h : k < n) : (labY n Y).getD k 0 = Y k := by simp [labY, List.getD, h]
theorem Order.nat {n : Nat} {Z : Nat → Int} (hO : Order n Z) {i : Nat} (hi : i < n) : (Z i).toNat < n := by have := hO.rng i hi; omega
theorem labels_eq {n : Nat} {Z : Nat → Int} (hO : Order n Z) {A B : List Int} (hA : A.length = n) (hB : B.length = n) (h : ∀ i, i < n → A.getD (Z i).toNat 0 = B.getD (Z i).toNat 0) : A = B := by
  apply List.ext_getElem (by omega)
  intro k h1 h2
  obtain ⟨i, hi, e⟩ := order_onto hO (j := k) (by omega)
  have h9 := h i hi
  rw [e, Int.toNat_natCast] at h9
  simpa [List.getD, h1, h2] using h9
theorem rightP_turn {L : List Int} {E : List (Int × Int)} {U Y : Nat → Int} {n : Nat} (h : RightP L E) (hn : L.length = n) (hO : Order n U) (hY : ∀ i, i < n → Y (U i).toNat = L.getD i 0) : RightP (labY n Y) (turnE U E) where
  len := by rw [labY_len, ← hn]; exact h.len
  lab := fun x hx => by
    obtain ⟨k, hk, rfl⟩ := List.mem_map.1 hx
    obtain ⟨i, hi, e⟩ := order_onto hO (j := k) (List.mem_range.1 hk)
    have h9 := hY i hi
    rw [e, Int.toNat_natCast] at h9
    rw [h9]
    refine h.lab _ ?_
    rw [show L.getD i 0 = L[i]'(by omega) by simp [List.getD, show i < L.length by omega]]
    exact List.getElem_mem _
  ends := by
    rw [labY_len]
    exact turn_in hO (by have h9 := h.ends; rw [hn] at h9; exact h9)
  rising := turn_rising hO (by have h9 := h.ends; rw [hn] at h9; exact h9) h.rising
theorem atEnd_ris (v : Int) (e : Int × Int) : atEnd v (ris e) = atEnd v e := by
  unfold atEnd ris
  rcases Int.le_total e.1 e.2 with h | h
  · rw [show min e.1 e.2 = e.1 by omega, show max e.1 e.2 = e.2 by omega]
  · rw [show min e.1 e.2 = e.2 by omega, show max e.1 e.2 = e.1 by omega, Bool.or_comm]
theorem deg_turn {E : List (Int × Int)} {U : Nat → Int} {n i : Nat} (hE : InE n E) (hO : Order n U) (hi : i < n) : (turnE U E).countP (atEnd (U i)) = E.countP (atEnd i) := by
  rw [(turn_perm U E).countP_eq, List.countP_map, List.countP_map]
  apply List.countP_congr
  intro e he
  have h := hE e he
  simp only [Function.comp]
  rw [atEnd_ris]
  unfold atEnd mvE
  have key : ∀ a : Int, 0 ≤ a → a < n → (U a.toNat = U i ↔ a = i) := fun a h1 h2 => ⟨fun e => hO.at_int h1 h2 (by omega) (by omega) (by rw [Int.toNat_natCast]; exact e), fun e => by rw [e, Int.toNat_natCast]⟩
  simp only [Bool.or_eq_true, beq_iff_eq]
  rw [key e.1 h.1 (by omega), key e.2 (by omega) h.2.2]
theorem back_edges {E : List (Int × Int)} {U B : Nat → Int} {n : Nat} (hE : InE n E) (hr : RisingE E) (hO : Order n U) (hB : ∀ i, i < n → B (U i).toNat = i) : turnE B (turnE U E) = E := by
  have hI : Order n (fun i => (i : Int)) := hO.comp (hO.back hB) (fun i hi => (hB i hi).symm)
  rw [turn_turn hO (hO.back hB) hE hr (Y := fun i => (i : Int)) (fun i hi => (hB i hi).symm) hI]
  exact turn_same hE hr hI (fun _ _ => rfl)
theorem back_labels {L : List Int} {U B Y Z : Nat → Int} {n : Nat} (hn : L.length = n) (hO : Order n U) (hB : ∀ i, i < n → B (U i).toNat = i) (hY : ∀ i, i < n → Y (U i).toNat = L.getD i 0) (hZ : ∀ k, k < n → Z (B k).toNat = (labY n Y).getD k 0) : labY n Z = L := by
  have hBO := hO.back hB
  refine labels_eq hBO (labY_len _ _) hn (fun k hk => ?_)
  rw [labY_at Z (hBO.nat hk), hZ k hk, labY_at Y hk]
  obtain ⟨i, hi, e⟩ := order_onto hO hk
  have h1 := hY i hi
  have h2 := hB i hi
  rw [e, Int.toNat_natCast] at h1 h2
  rw [h1, h2, Int.toNat_natCast]
theorem then_labels {L : List Int} {U V B Y Z T : Nat → Int} {n : Nat} (hU : Order n U) (hV : Order n V) (hB : ∀ i, i < n → B i = V (U i).toNat) (hY : ∀ i, i < n → Y (U i).toNat = L.getD i 0) (hZ : ∀ k, k < n → Z (V k).toNat = (labY n Y).getD k 0) (hT : ∀ i, i < n → T (B i).toNat = L.getD i 0) : labY n Z = labY n T := by
  have hBO := hU.comp hV hB
  refine labels_eq hBO (labY_len _ _) (labY_len _ _) (fun i hi => ?_)
  rw [labY_at T (hBO.nat hi), hT i hi, labY_at Z (hBO.nat hi), hB i hi, hZ _ (hU.nat hi), labY_at Y (hU.nat hi), hY i hi]
theorem labV_id' {L : List Int} {V : Nat → Int} {n : Nat} (hn : L.length = n) (hV : ∀ i, i < n → V i = i) : (List.range n).map (fun k => L.getD (V k).toNat 0) = L := by
  apply List.ext_getElem (by simp [hn])
  intro k h1 h2
  have hk : k < n := by omega
  simp [hV k hk, List.getD, h2]
end Go.Proofs.YtgolcogigpnbeaaGreatDoor
