/- A region whose reads all come ahead of one of its operations: the reads are taken first, whatever order is drawn. -/
import Derived.Test.YtcmocigckcjdjaaGreatDoorMem
import Derived.OrdersHeld
import Derived.RegionTactic
namespace Go.Proofs.YtcmocigckcjdjaaGreatDoor
open Go.RowKit

section
variable {P : Program} {ops : Array Oper} {Q : Exit → Act → World → Prop} {md : Region.Mode} {S : World → Prop} {κ : Nat}

/-- Every order; S holds as long as operation κ has not come up. -/
def Until (P : Program) (md : Region.Mode) (ops : Array Oper) (Q : Exit → Act → World → Prop) (κ : Nat) (S : World → Prop) : Nat → Array Bool → Act → World → Prop
  | 0, listed, a, w => Region.ready md ops listed = [] ∧ Q .normal a w
  | f + 1, listed, a, w => (Region.ready md ops listed = [] → Q .normal a w) ∧
      ∀ j ∈ Region.ready md ops listed, wpOp P ops Q j (fun a' w' => (j ≠ κ → listed.getD κ true = false → S w') ∧ Until P md ops Q κ S f (listed.setIfInBounds j true) a' w') a w
theorem Until.any : ∀ {f : Nat} {listed : Array Bool} {a : Act} {w : World}, Until P md ops Q κ S f listed a w → wpAny P md ops Q f listed a w
  | 0, _, _, _, h => h
  | _ + 1, _, _, _, h => ⟨h.1, fun j hj => wpOp_mono (fun _ _ h' => Until.any h'.2) (h.2 j hj)⟩
/-- Behind κ nothing more is asked. -/
theorem Until.of_any : ∀ {f : Nat} {listed : Array Bool} {a : Act} {w : World}, listed.getD κ true = true → wpAny P md ops Q f listed a w → Until P md ops Q κ S f listed a w
  | 0, _, _, _, _, h => h
  | f + 1, listed, a, w, hk, h => ⟨h.1, fun j hj => wpOp_mono (fun a' w' h' => ⟨fun _ h0 => absurd (hk.symm.trans h0) (by simp), Until.of_any (by
      by_cases hjk : j = κ
      · subst hjk
        exact absurd ((mem_ready.1 hj).1.symm.trans hk) (by simp)
      · rw [getD_set_ne true hjk]; exact hk) h'⟩) (h.2 j hj)⟩
/-- κ waits for operation i. -/
def waitsB (md : Region.Mode) (ops : Array Oper) (κ i : Nat) : Bool :=
  match ops[κ]? with
  | some o => o.after.any fun e => Region.binds md e && (e.on == i)
  | none => false
theorem waits_spec {i : Nat} (h : waitsB md ops κ i = true) {listed : Array Bool} (hk : κ ∈ Region.ready md ops listed) : listed.getD i false = true := by
  obtain ⟨_, o, ho, hall⟩ := mem_ready.1 hk
  unfold waitsB at h
  rw [ho] at h
  simp only [Array.any_eq_true, Bool.and_eq_true, beq_iff_eq] at h
  obtain ⟨t, ht, hb, he⟩ := h
  have := hall o.after[t] (Array.getElem_mem ht) hb
  rwa [he] at this
theorem unlisted_both {listed : Array Bool} {i : Nat} (h : listed.getD i true = false) : listed.getD i false = false := by
  rcases Nat.lt_or_ge i listed.size with h' | h'
  · simpa [h'] using h
  · simp [Array.getElem?_eq_none h'] at h
theorem Until.take {i : Nat} {oi : Oper} {v : Value} (hi : ops[i]? = some oi) (hs : Region.noSelect ops = true) (hw : waitsB md ops κ i = true) (hQ : ∀ c a w, Q (.panic c) (a.put oi.dst v) w → Q (.panic c) a w) :
    ∀ {f : Nat} {listed : Array Bool} {a : Act} {w : World}, Region.free md ops listed i = true → i ∈ Region.ready md ops listed → YieldsIf P ops S oi v a → S w → listed.getD κ true = false →
      Until P md ops Q κ S f (listed.setIfInBounds i true) (a.put oi.dst v) w → Until P md ops Q κ S (f + 1) listed a w := by
  have main : ∀ (f : Nat) (listed : Array Bool) (a : Act) (w : World), (∀ j oj, ops[j]? = some oj → j ≠ i → listed.getD j true = false → (∀ e ∈ oj.after, Region.binds md e = true → e.on ≠ i) → oi.apart ops oj = true) →
      i ∈ Region.ready md ops listed → YieldsIf P ops S oi v a → S w → listed.getD κ true = false → Until P md ops Q κ S f (listed.setIfInBounds i true) (a.put oi.dst v) w → Until P md ops Q κ S (f + 1) listed a w := by
    intro f
    induction f with
    | zero =>
      intro listed a w _ hr hy hS hk H
      refine ⟨fun h => (by rw [h] at hr; cases hr), fun j hj => ?_⟩
      rcases Decidable.em (j = i) with e | e
      · subst e; exact hy.wpOp hi hS ⟨fun _ _ => hS, H⟩
      · have := ready_mono hj e
        rw [H.1] at this
        cases this
    | succ f ih =>
      intro listed a w hfree hr hy hS hk H
      have hiu : listed.getD i false = false := unlisted_both (mem_ready.1 hr).1
      refine ⟨fun h => (by rw [h] at hr; cases hr), fun j hj => ?_⟩
      rcases Decidable.em (j = i) with e | e
      · subst e; exact hy.wpOp hi hS ⟨fun _ _ => hS, H⟩
      · have hjk : j ≠ κ := fun h => by
          subst h
          rw [waits_spec hw hj] at hiu
          cases hiu
        have hik : i ≠ κ := fun h => by
          subst h
          rw [waits_spec hw hr] at hiu
          cases hiu
        obtain ⟨hju, oj, hoj, hall⟩ := mem_ready.1 hj
        have hno : ∀ x ∈ oj.after, Region.binds md x = true → x.on ≠ i := fun x hx hb he => by
          have := hall x hx hb
          rw [he, hiu] at this
          cases this
        have step := wpOp_putIf hoj (hfree j oj hoj e hju hno) (fun cs b => Region.noSelect_spec hs i oi cs b hi) (fun cs b => Region.noSelect_spec hs j oj cs b hoj) hQ hy (H.2 j (ready_mono hj e))
        refine wpOp_mono (fun a' w' h => ?_) step
        have hS' : S w' := h.2.1 hjk (by rw [getD_set_ne true hik]; exact hk)
        refine ⟨fun _ _ => hS', ih _ a' w' (fun k ok ho hki hun hn => hfree k ok ho hki ?_ hn) (ready_mono hr (Ne.symm e)) h.1 hS' (by rw [getD_set_ne true hjk]; exact hk) ?_⟩
        · rcases Decidable.em (j = k) with e2 | e2
          · subst e2; exact hju
          · rw [getD_set_ne true e2] at hun; exact hun
        · rw [Array.setIfInBounds_comm _ _ e]; exact h.2.2
  intro f listed a w hf hr hy hS hk H
  exact main f listed a w (Region.free_spec hi hf) hr hy hS hk H
/-- One operation alone may come up. -/
theorem any_one {f i : Nat} {o : Oper} {listed : Array Bool} {a : Act} {w : World} (hr : Region.ready md ops listed = [i]) (ho : ops[i]? = some o) (hg : o.guard = none)
    (h : Oper.wp P o a w (fun a' w' => wpAny P md ops Q f (listed.setIfInBounds i true) a' w') Q) : wpAny P md ops Q (f + 1) listed a w := by
  refine ⟨fun h0 => (by rw [hr] at h0; cases h0), fun j hj => ?_⟩
  rw [hr] at hj
  obtain rfl : j = i := by simpa using hj
  unfold wpOp
  simp only [ho]
  rw [if_pos (by simp [Region.wanted, hg])]
  exact Or.inl h
theorem until_one {f i : Nat} {o : Oper} {listed : Array Bool} {a : Act} {w : World} (hr : Region.ready md ops listed = [i]) (ho : ops[i]? = some o) (hg : o.guard = none)
    (h : Oper.wp P o a w (fun a' w' => (i ≠ κ → listed.getD κ true = false → S w') ∧ Until P md ops Q κ S f (listed.setIfInBounds i true) a' w') Q) : Until P md ops Q κ S (f + 1) listed a w := by
  refine ⟨fun h0 => (by rw [hr] at h0; cases h0), fun j hj => ?_⟩
  rw [hr] at hj
  obtain rfl : j = i := by simpa using hj
  unfold wpOp
  simp only [ho]
  rw [if_pos (by simp [Region.wanted, hg])]
  exact Or.inl h

/-- The reads, one by one. -/
def readsB (md : Region.Mode) (ops : Array Oper) (κ : Nat) : List Nat → Array Bool → Bool
  | [], _ => true
  | i :: t, listed => Region.free md ops listed i && (Region.ready md ops listed).contains i && waitsB md ops κ i && !(listed.getD κ true) && readsB md ops κ t (listed.setIfInBounds i true)
def Reads (P : Program) (ops : Array Oper) (Q : Exit → Act → World → Prop) (S : World → Prop) (K : Act → Prop) : List Nat → Act → Prop
  | [], a => K a
  | i :: t, a => ∃ oi v, ops[i]? = some oi ∧ YieldsIf P ops S oi v a ∧ (∀ c a w, Q (.panic c) (a.put oi.dst v) w → Q (.panic c) a w) ∧ Reads P ops Q S K t (a.put oi.dst v)
def listAll : List Nat → Array Bool → Array Bool
  | [], l => l
  | i :: t, l => listAll t (l.setIfInBounds i true)
theorem until_reads (hs : Region.noSelect ops = true) {w : World} (hS : S w) {f : Nat} : ∀ (R : List Nat) (listed : Array Bool) (a : Act), readsB md ops κ R listed = true →
    Reads P ops Q S (fun a' => Until P md ops Q κ S f (listAll R listed) a' w) R a → Until P md ops Q κ S (f + R.length) listed a w
  | [], _, _, _, h => h
  | i :: t, listed, a, hB, ⟨oi, v, hi, hy, hQ, h⟩ => by
    simp only [readsB, Bool.and_eq_true] at hB
    obtain ⟨⟨⟨⟨h1, h2⟩, h3⟩, h4⟩, h5⟩ := hB
    exact Until.take hi hs h3 hQ h1 (by simpa using h2) hy hS (by simpa using h4) (until_reads hs hS t _ _ h5 h)
/-- Reads; then four operations, each alone, the third of which waits for all reads. -/
theorem region_reads {id : Nat} {l : List Oper} {a : Act} {w : World} (R : List Nat) (i1 i2 i3 i4 : Nat) {o1 o2 o3 o4 : Oper} (hm : P.follows .mixedOrders = true) (hs : Region.noSelect l.toArray = true) (S : World → Prop) (hS : S w.drew)
    (hB : readsB .any l.toArray i3 R (Array.replicate l.toArray.size false) = true) (hsz : l.toArray.size = 4 + R.length)
    (r1 : Region.ready .any l.toArray (listAll R (Array.replicate l.toArray.size false)) = [i1]) (r2 : Region.ready .any l.toArray ((listAll R (Array.replicate l.toArray.size false)).setIfInBounds i1 true) = [i2])
    (r3 : Region.ready .any l.toArray (((listAll R (Array.replicate l.toArray.size false)).setIfInBounds i1 true).setIfInBounds i2 true) = [i3]) (r4 : Region.ready .any l.toArray ((((listAll R (Array.replicate l.toArray.size false)).setIfInBounds i1 true).setIfInBounds i2 true).setIfInBounds i3 true) = [i4])
    (r5 : Region.ready .any l.toArray (((((listAll R (Array.replicate l.toArray.size false)).setIfInBounds i1 true).setIfInBounds i2 true).setIfInBounds i3 true).setIfInBounds i4 true) = [])
    (e1 : l.toArray[i1]? = some o1) (e2 : l.toArray[i2]? = some o2) (e3 : l.toArray[i3]? = some o3) (e4 : l.toArray[i4]? = some o4) (g1 : o1.guard = none) (g2 : o2.guard = none) (g3 : o3.guard = none) (g4 : o4.guard = none)
    (hk : ((((listAll R (Array.replicate l.toArray.size false)).setIfInBounds i1 true).setIfInBounds i2 true).setIfInBounds i3 true).getD i3 true = true)
    (h : Reads P l.toArray Q S (fun a' => Oper.wp P o1 a' w.drew (fun a2 w2 => S w2 ∧ Oper.wp P o2 a2 w2 (fun a3 w3 => S w3 ∧ Oper.wp P o3 a3 w3 (fun a4 w4 => Oper.wp P o4 a4 w4 (fun a5 w5 => Q .normal a5 w5) Q) Q) Q) Q) R a) : (Code.region id l.toArray true).wp P Q a w := by
  refine wp_region_any hm (Until.any (κ := i3) (S := S) ?_)
  rw [hsz]
  refine until_reads (f := 4) hs hS R _ a (by rw [← hsz]; exact hB) ?_
  rw [← hsz]
  have mono : ∀ (K K' : Act → Prop), (∀ a, K a → K' a) → ∀ (R : List Nat) (a : Act), Reads P l.toArray Q S K R a → Reads P l.toArray Q S K' R a := by
    intro K K' hk R
    induction R with
    | nil => intro a h; exact hk a h
    | cons i t ih => rintro a ⟨oi, v, q1, q2, q3, q4⟩; exact ⟨oi, v, q1, q2, q3, ih _ q4⟩
  refine mono _ _ (fun a' h1 => ?_) R a h
  refine until_one r1 e1 g1 (Oper.wp_mono (fun a2 w2 h2 => ⟨fun _ _ => h2.1, ?_⟩) h1)
  refine until_one r2 e2 g2 (Oper.wp_mono (fun a3 w3 h3 => ⟨fun _ _ => h3.1, ?_⟩) h2.2)
  refine until_one r3 e3 g3 (Oper.wp_mono (fun a4 w4 h4 => ⟨fun h0 => absurd rfl h0, ?_⟩) h3.2)
  refine Until.of_any hk (any_one r4 e4 g4 (Oper.wp_mono (fun a5 w5 h5 => ?_) h4))
  exact wpAny_done r5 h5 0
/-- Reads; then five operations, each alone, the third of which waits for all reads. -/
theorem region_reads5 {id : Nat} {l : List Oper} {a : Act} {w : World} (R : List Nat) (i1 i2 i3 i4 i5 : Nat) {o1 o2 o3 o4 o5 : Oper} (hm : P.follows .mixedOrders = true) (hs : Region.noSelect l.toArray = true) (S : World → Prop) (hS : S w.drew)
    (hB : readsB .any l.toArray i3 R (Array.replicate l.toArray.size false) = true) (hsz : l.toArray.size = 5 + R.length)
    (r1 : Region.ready .any l.toArray (listAll R (Array.replicate l.toArray.size false)) = [i1]) (r2 : Region.ready .any l.toArray ((listAll R (Array.replicate l.toArray.size false)).setIfInBounds i1 true) = [i2])
    (r3 : Region.ready .any l.toArray (((listAll R (Array.replicate l.toArray.size false)).setIfInBounds i1 true).setIfInBounds i2 true) = [i3]) (r4 : Region.ready .any l.toArray ((((listAll R (Array.replicate l.toArray.size false)).setIfInBounds i1 true).setIfInBounds i2 true).setIfInBounds i3 true) = [i4])
    (r5 : Region.ready .any l.toArray (((((listAll R (Array.replicate l.toArray.size false)).setIfInBounds i1 true).setIfInBounds i2 true).setIfInBounds i3 true).setIfInBounds i4 true) = [i5])
    (r6 : Region.ready .any l.toArray ((((((listAll R (Array.replicate l.toArray.size false)).setIfInBounds i1 true).setIfInBounds i2 true).setIfInBounds i3 true).setIfInBounds i4 true).setIfInBounds i5 true) = [])
    (e1 : l.toArray[i1]? = some o1) (e2 : l.toArray[i2]? = some o2) (e3 : l.toArray[i3]? = some o3) (e4 : l.toArray[i4]? = some o4) (e5 : l.toArray[i5]? = some o5) (g1 : o1.guard = none) (g2 : o2.guard = none) (g3 : o3.guard = none) (g4 : o4.guard = none) (g5 : o5.guard = none)
    (hk : ((((listAll R (Array.replicate l.toArray.size false)).setIfInBounds i1 true).setIfInBounds i2 true).setIfInBounds i3 true).getD i3 true = true)
    (h : Reads P l.toArray Q S (fun a' => Oper.wp P o1 a' w.drew (fun a2 w2 => S w2 ∧ Oper.wp P o2 a2 w2 (fun a3 w3 => S w3 ∧ Oper.wp P o3 a3 w3 (fun a4 w4 => Oper.wp P o4 a4 w4 (fun a5 w5 => Oper.wp P o5 a5 w5 (fun a6 w6 => Q .normal a6 w6) Q) Q) Q) Q) Q) R a) : (Code.region id l.toArray true).wp P Q a w := by
  refine wp_region_any hm (Until.any (κ := i3) (S := S) ?_)
  rw [hsz]
  refine until_reads (f := 5) hs hS R _ a (by rw [← hsz]; exact hB) ?_
  rw [← hsz]
  have mono : ∀ (K K' : Act → Prop), (∀ a, K a → K' a) → ∀ (R : List Nat) (a : Act), Reads P l.toArray Q S K R a → Reads P l.toArray Q S K' R a := by
    intro K K' hk R
    induction R with
    | nil => intro a h; exact hk a h
    | cons i t ih => rintro a ⟨oi, v, q1, q2, q3, q4⟩; exact ⟨oi, v, q1, q2, q3, ih _ q4⟩
  refine mono _ _ (fun a' h1 => ?_) R a h
  refine until_one r1 e1 g1 (Oper.wp_mono (fun a2 w2 h2 => ⟨fun _ _ => h2.1, ?_⟩) h1)
  refine until_one r2 e2 g2 (Oper.wp_mono (fun a3 w3 h3 => ⟨fun _ _ => h3.1, ?_⟩) h2.2)
  refine until_one r3 e3 g3 (Oper.wp_mono (fun a4 w4 h4 => ⟨fun h0 => absurd rfl h0, ?_⟩) h3.2)
  refine Until.of_any hk (any_one r4 e4 g4 (Oper.wp_mono (fun a5 w5 h5 => ?_) h4))
  refine any_one r5 e5 g5 (Oper.wp_mono (fun a6 w6 h6 => ?_) h5)
  exact wpAny_done r6 h6 0
/-- Reads; then three operations, each alone, the third of which waits for all reads. -/
theorem region_reads3 {id : Nat} {l : List Oper} {a : Act} {w : World} (R : List Nat) (i1 i2 i3 : Nat) {o1 o2 o3 : Oper} (hm : P.follows .mixedOrders = true) (hs : Region.noSelect l.toArray = true) (S : World → Prop) (hS : S w.drew)
    (hB : readsB .any l.toArray i3 R (Array.replicate l.toArray.size false) = true) (hsz : l.toArray.size = 3 + R.length)
    (r1 : Region.ready .any l.toArray (listAll R (Array.replicate l.toArray.size false)) = [i1]) (r2 : Region.ready .any l.toArray ((listAll R (Array.replicate l.toArray.size false)).setIfInBounds i1 true) = [i2])
    (r3 : Region.ready .any l.toArray (((listAll R (Array.replicate l.toArray.size false)).setIfInBounds i1 true).setIfInBounds i2 true) = [i3])
    (r4 : Region.ready .any l.toArray ((((listAll R (Array.replicate l.toArray.size false)).setIfInBounds i1 true).setIfInBounds i2 true).setIfInBounds i3 true) = [])
    (e1 : l.toArray[i1]? = some o1) (e2 : l.toArray[i2]? = some o2) (e3 : l.toArray[i3]? = some o3) (g1 : o1.guard = none) (g2 : o2.guard = none) (g3 : o3.guard = none)
    (hk : ((((listAll R (Array.replicate l.toArray.size false)).setIfInBounds i1 true).setIfInBounds i2 true).setIfInBounds i3 true).getD i3 true = true)
    (h : Reads P l.toArray Q S (fun a' => Oper.wp P o1 a' w.drew (fun a2 w2 => S w2 ∧ Oper.wp P o2 a2 w2 (fun a3 w3 => S w3 ∧ Oper.wp P o3 a3 w3 (fun a4 w4 => Q .normal a4 w4) Q) Q) Q) R a) : (Code.region id l.toArray true).wp P Q a w := by
  refine wp_region_any hm (Until.any (κ := i3) (S := S) ?_)
  rw [hsz]
  refine until_reads (f := 3) hs hS R _ a (by rw [← hsz]; exact hB) ?_
  rw [← hsz]
  have mono : ∀ (K K' : Act → Prop), (∀ a, K a → K' a) → ∀ (R : List Nat) (a : Act), Reads P l.toArray Q S K R a → Reads P l.toArray Q S K' R a := by
    intro K K' hk R
    induction R with
    | nil => intro a h; exact hk a h
    | cons i t ih => rintro a ⟨oi, v, q1, q2, q3, q4⟩; exact ⟨oi, v, q1, q2, q3, ih _ q4⟩
  refine mono _ _ (fun a' h1 => ?_) R a h
  refine until_one r1 e1 g1 (Oper.wp_mono (fun a2 w2 h2 => ⟨fun _ _ => h2.1, ?_⟩) h1)
  refine until_one r2 e2 g2 (Oper.wp_mono (fun a3 w3 h3 => ⟨fun _ _ => h3.1, ?_⟩) h2.2)
  refine until_one r3 e3 g3 (Oper.wp_mono (fun a4 w4 h4 => ⟨fun h0 => absurd rfl h0, ?_⟩) h3.2)
  exact Until.of_any hk (wpAny_done r4 h4 0)
theorem reads_nil {K : Act → Prop} {a : Act} (h : K a) : Reads P ops Q S K [] a := h
/-- What follows an operation, hidden while it is run. -/
theorem wp_bare {o : Oper} {a : Act} {w : World} {G : Act → World → Prop} (h : ∀ K : Act → World → Prop, Hid (∀ a w, G a w → K a w) → Oper.wp P o a w K Q) : Oper.wp P o a w G Q := h G (Lib.hid (fun _ _ h => h))
end
end Go.Proofs.YtcmocigckcjdjaaGreatDoor
