/- net: the inbox of a net in which nothing flies. -/
import Derived.Test.YtbecgfeoacncdaaDoorFullI
import Derived.Test.YtbecgfeoacncdaaDoorClonesLaw
import Derived.Test.YtbecgfeoacncdaaDoorEqLet
namespace Go.Proofs.YtbecgfeoacncdaaDoor
open Go.RowKit

/-- What Inbox hands over. -/
def LetsAll (L : List Let) (m : Nat) (w : World) (e : Ending) (w' : World) : Prop := ∃ A c, e = .returned (.slice A m c) ∧ LetsAt w' (.slice A m c) L ∧ Below w.heap.size w w'
theorem inbox_all {w : World} {base N M : Nat} {n : NetP} {T : Int → Int → Int → ByteArray} {b : Nat} {R : Nat → Prop} (h : NetB w base N n b R) (g : Good n M) (hM : M ≤ 1000) (hF : FullI n T) (h0 : n.fly = []) {sent : Int → Int → Nat} (hs : n.sent = sent) {k : Nat} (hk : n.k = k) {c : Nat} (hc : c < k) {L : List Let} (hL : allL sent T c k = L) {m : Nat} (hm : L.length = m) :
    Calls Tryd.prog 18 #[.pointer (some ⟨b, 0, none⟩), .int .i64 c] w (LetsAll L m w) := by
  subst hs hk hm
  obtain ⟨mb, cb, v, F, G, h, rfl⟩ := h
  have hhas : hasB n.k (c : Int) = true := by
    unfold hasB
    simp
    omega
  refine (inbox_ok h c g.k hhas (fun a => Nat.le_trans (g.sn a c) hM)).mono ?_
  rintro e w' ⟨u, rfl, hf, hb⟩
  rw [hF.1.inbox h0 c n.k, hL] at hf
  have hl := hf.lets
  obtain ⟨A, cc, rfl, _⟩ := hf
  exact ⟨A, cc, rfl, hl, hb⟩
theorem allL_num (sent : Int → Int → Nat) (T : Int → Int → Int → ByteArray) (c : Int) (M : Nat) (hM : ∀ a, sent a c ≤ M) : ∀ (k : Nat) (l : Let), l ∈ allL sent T c k → 0 ≤ l.s ∧ l.s < M
  | 0, l, h => by simp [allL] at h
  | k + 1, l, h => by
    rw [allL_succ] at h
    rcases List.mem_append.1 h with h | h
    · exact allL_num sent T c M hM k l h
    · obtain ⟨s, hs, rfl⟩ := List.mem_map.1 h
      have h1 := List.mem_range.1 hs
      have h2 := hM (k : Int)
      show (0 : Int) ≤ (s : Int) ∧ (s : Int) < (M : Int)
      omega
theorem allL_len (sent : Int → Int → Nat) (T : Int → Int → Int → ByteArray) (c : Int) (M : Nat) (hM : ∀ a, sent a c ≤ M) : ∀ k : Nat, (allL sent T c k).length ≤ k * M
  | 0 => by simp [allL]
  | k + 1 => by
    have := allL_len sent T c M hM k
    have h2 := hM (k : Int)
    rw [allL_succ, List.length_append, List.length_map, List.length_range, Nat.succ_mul]
    omega
theorem quiet_b {w : World} {base N : Nat} {n : NetP} {T : Int → Int → Int → ByteArray} {b : Nat} {R : Nat → Prop} (h : NetB w base N n b R) (hF : FullI n T) (h0 : n.fly = []) :
    Calls Tryd.prog 17 #[.pointer (some ⟨b, 0, none⟩)] w fun e w' => e = .returned (.bool true) ∧ w' = w := by
  refine (quiet_any h.at).mono ?_
  rintro e w' ⟨rfl, rfl⟩
  rw [hF.quiet h0]
  exact ⟨rfl, rfl⟩
end Go.Proofs.YtbecgfeoacncdaaDoor
