/- PermTells: the law; a slice of numbers that came in, with its capacity. -/
import Derived.Test.YtlkmbhbjhiobiaaDoorTellsLaw2
import Derived.Test.YtlkmbhbjhiobiaaDoorViewU
namespace Go.Proofs.YtlkmbhbjhiobiaaDoor
open Go.ChangeShapes Go.WideShapes Go.RowKit

theorem intsC_view {P : Program} {H : Type} {enc : TypeId × Value → H} {W : World} {base : Nat} {v : Value} {d : DataW H} {ps : List MemPlace} {t e b0 : Nat} {r : Reach} (ht : P.underlying t = some (.slice e)) (he : P.underlying e = some (.int .i64)) (hc : P.cellsOf e = 1)
    (hv : Value.okWide P W r b0 t v) (h : DataW.Trod enc P W base (fun _ => true) true t v d ps) : ∃ (n : Nat) (Z : Nat → Int), IntsV W v n Z ∧ n ≤ 9223372036854775807 ∧ (∀ i, -9223372036854775808 ≤ Z i ∧ Z i ≤ 9223372036854775807) ∧ ∀ A c, v = .slice A n c → n ≤ c := by
  rcases ints_view ht he hc hv h with rfl | ⟨ad, cap, rfl, _⟩ | ⟨bl, off, len, cap, Z, rfl, l0, l1, l2, hcell, hz⟩
  · exact ⟨0, fun _ => 0, Or.inl ⟨rfl, _, _, rfl⟩, by decide, fun _ => rng0, fun _ _ _ => Nat.zero_le _⟩
  · exact ⟨0, fun _ => 0, Or.inl ⟨rfl, _, _, rfl⟩, by decide, fun _ => rng0, fun _ _ _ => Nat.zero_le _⟩
  · exact ⟨len, Z, Or.inr ⟨l0, bl, off, cap, rfl, hcell⟩, by omega, hz, fun A c e => by injection e with _ _ e3; omega⟩

theorem tells_law (n m l : Nat) (P Q L : Nat → Int) (v u x : Value) (w : World) (hg : ErrT w) (hp : IntsV w v n P) (hcap : ∀ A c, v = .slice A n c → n ≤ c) (hq : IntsV w u m Q) (hl : IntsV w x l L) :
    Calls Tryd.prog 3 #[v, u, x] w fun e w' => e = .returned (.bool true) ∧ Below w.heap.size w w' := by
  by_cases hfar : 20 < n ∨ 20 < m ∨ 20 < l
  · exact tells_far n m l P Q L v u x w hg hp hq hl hfar
  · cases hr : rightB n P with
    | false => exact tells_no n m l P Q L v u x w hg hp hq hl (by omega) (by omega) (by omega) hr
    | true => exact tells_yes n m l P Q L v u x w hg hp hcap hq hl (by omega) (by omega) (by omega) (rightB_iff.1 hr)
end Go.Proofs.YtlkmbhbjhiobiaaDoor
