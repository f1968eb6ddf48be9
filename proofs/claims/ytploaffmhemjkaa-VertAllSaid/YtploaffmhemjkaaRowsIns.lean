/- A row put in among others. -/
import Derived.Test.YtploaffmhemjkaaRows4
namespace Go.Proofs.Ytploaffmhemjkaa
open Go.RowKit

theorem ins_get {α : Type _} (l : List α) (x : α) {a : Nat} (ha : a ≤ l.length) (i : Nat) : (l.take a ++ [x] ++ l.drop a)[i]? = if i < a then l[i]? else if i = a then some x else l[i - 1]? := by
  have hl : (l.take a).length = a := by rw [List.length_take]; omega
  have hl2 : (l.take a ++ [x]).length = a + 1 := by rw [List.length_append, hl]; rfl
  rcases (by omega : i < a ∨ i = a ∨ a < i) with h1 | rfl | h1
  · rw [List.getElem?_append_left (by omega), List.getElem?_append_left (by omega), List.getElem?_take_of_lt h1, if_pos h1]
  · rw [List.getElem?_append_left (by omega), List.getElem?_append_right (by omega), hl, if_neg (by omega), if_pos rfl, Nat.sub_self]; rfl
  · rw [List.getElem?_append_right (by omega), List.getElem?_drop, hl2, if_neg (by omega), if_neg (by omega), show a + (i - (a + 1)) = i - 1 by omega]
theorem RowsOwn.ins {w : World} {base a : Nat} {v u : Value} {C : List (List Int)} {T : List Int} {us : List Value} (ha : a ≤ C.length) (hl : us.length = C.length)
    (h : w.ownsRow base 22 1 v (C.length + 1) (us.take a ++ [u] ++ us.drop a))
    (hr : ∀ (i : Nat) (u : Value) (L : List Int), us[i]? = some u → C[i]? = some L → w.ownsRow base 3 1 u L.length (intCells L))
    (hu : w.ownsRow base 3 1 u T.length (intCells T)) : RowsOwn w base v (C.take a ++ [T] ++ C.drop a) := by
  have hlen : (C.take a ++ [T] ++ C.drop a).length = C.length + 1 := by simp; omega
  refine ⟨_, by rw [hlen]; exact h, fun i x L hx hL => ?_⟩
  rw [ins_get _ _ (by omega)] at hx hL
  split at hx
  · rename_i h1
    rw [if_pos h1] at hL
    exact hr i x L hx hL
  · rename_i h1
    rw [if_neg h1] at hL
    split at hx
    · rename_i h2
      rw [if_pos h2] at hL
      injection hx with hx
      injection hL with hL
      subst hx hL
      exact hu
    · rename_i h2
      rw [if_neg h2] at hL
      exact hr _ x L hx hL
theorem own_capI {w : World} {base e s n c m : Nat} {A : Option Addr} {xs : List Value} (h : w.ownsRow base e s (.slice A m c) n xs) : n = m ∧ m ≤ c := by
  rcases h.2 with ⟨h1, h2⟩ | ⟨g, cap, cur, h1, _, _, hc, _⟩
  · injection h1 with _ h3 h4
    omega
  · injection h1 with _ h3 h4
    subst h3 h4
    exact ⟨rfl, hc⟩
end Go.Proofs.Ytploaffmhemjkaa
