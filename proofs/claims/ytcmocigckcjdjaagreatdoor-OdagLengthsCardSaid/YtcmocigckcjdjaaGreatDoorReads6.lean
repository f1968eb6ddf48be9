/- Reads; then six operations, each alone, the fourth of which waits for all reads. -/
import Derived.Test.YtcmocigckcjdjaaGreatDoorReads5
namespace Go.Proofs.YtcmocigckcjdjaaGreatDoor
open Go.RowKit

theorem region_reads6 {P : Program} {Q : Exit → Act → World → Prop} {id : Nat} {l : List Oper} {a : Act} {w : World} (R : List Nat) (i1 i2 i3 i4 i5 i6 : Nat) {o1 o2 o3 o4 o5 o6 : Oper} (hm : P.follows .mixedOrders = true) (hs : Region.noSelect l.toArray = true) (S : World → Prop) (hS : S w.drew)
    (hB : readsB .any l.toArray i4 R (Array.replicate l.toArray.size false) = true) (hsz : l.toArray.size = 6 + R.length)
    (r1 : Region.ready .any l.toArray (listAll R (Array.replicate l.toArray.size false)) = [i1])
    (r2 : Region.ready .any l.toArray ((listAll R (Array.replicate l.toArray.size false)).setIfInBounds i1 true) = [i2])
    (r3 : Region.ready .any l.toArray (((listAll R (Array.replicate l.toArray.size false)).setIfInBounds i1 true).setIfInBounds i2 true) = [i3])
    (r4 : Region.ready .any l.toArray ((((listAll R (Array.replicate l.toArray.size false)).setIfInBounds i1 true).setIfInBounds i2 true).setIfInBounds i3 true) = [i4])
    (r5 : Region.ready .any l.toArray (((((listAll R (Array.replicate l.toArray.size false)).setIfInBounds i1 true).setIfInBounds i2 true).setIfInBounds i3 true).setIfInBounds i4 true) = [i5])
    (r6 : Region.ready .any l.toArray ((((((listAll R (Array.replicate l.toArray.size false)).setIfInBounds i1 true).setIfInBounds i2 true).setIfInBounds i3 true).setIfInBounds i4 true).setIfInBounds i5 true) = [i6])
    (r7 : Region.ready .any l.toArray (((((((listAll R (Array.replicate l.toArray.size false)).setIfInBounds i1 true).setIfInBounds i2 true).setIfInBounds i3 true).setIfInBounds i4 true).setIfInBounds i5 true).setIfInBounds i6 true) = [])
    (e1 : l.toArray[i1]? = some o1) (e2 : l.toArray[i2]? = some o2) (e3 : l.toArray[i3]? = some o3) (e4 : l.toArray[i4]? = some o4) (e5 : l.toArray[i5]? = some o5) (e6 : l.toArray[i6]? = some o6) (g1 : o1.guard = none) (g2 : o2.guard = none) (g3 : o3.guard = none) (g4 : o4.guard = none) (g5 : o5.guard = none) (g6 : o6.guard = none)
    (hk : (((((listAll R (Array.replicate l.toArray.size false)).setIfInBounds i1 true).setIfInBounds i2 true).setIfInBounds i3 true).setIfInBounds i4 true).getD i4 true = true)
    (h : Reads P l.toArray Q S (fun a' => Oper.wp P o1 a' w.drew (fun a2 w2 => S w2 ∧ Oper.wp P o2 a2 w2 (fun a3 w3 => S w3 ∧ Oper.wp P o3 a3 w3 (fun a4 w4 => S w4 ∧ Oper.wp P o4 a4 w4 (fun a5 w5 => Oper.wp P o5 a5 w5 (fun a6 w6 => Oper.wp P o6 a6 w6 (fun a7 w7 => Q .normal a7 w7) Q) Q) Q) Q) Q) Q) R a) : (Code.region id l.toArray true).wp P Q a w := by
  refine wp_region_any hm (Until.any (κ := i4) (S := S) ?_)
  rw [hsz]
  refine until_reads (f := 6) hs hS R _ a (by rw [← hsz]; exact hB) ?_
  rw [← hsz]
  have mono : ∀ (K K' : Act → Prop), (∀ a, K a → K' a) → ∀ (R : List Nat) (a : Act), Reads P l.toArray Q S K R a → Reads P l.toArray Q S K' R a := by
    intro K K' hk R
    induction R with
    | nil => intro a h; exact hk a h
    | cons i t ih => rintro a ⟨oi, v, q1, q2, q3, q4⟩; exact ⟨oi, v, q1, q2, q3, ih _ q4⟩
  refine mono _ _ (fun a' h1 => ?_) R a h
  refine until_one r1 e1 g1 (Oper.wp_mono (fun a2 w2 h2 => ⟨fun _ _ => h2.1, ?_⟩) h1)
  refine until_one r2 e2 g2 (Oper.wp_mono (fun a3 w3 h3 => ⟨fun _ _ => h3.1, ?_⟩) h2.2)
  refine until_one r3 e3 g3 (Oper.wp_mono (fun a4 w4 h4 => ⟨fun _ _ => h4.1, ?_⟩) h3.2)
  refine until_one r4 e4 g4 (Oper.wp_mono (fun a5 w5 h5 => ⟨fun h0 => absurd rfl h0, ?_⟩) h4.2)
  refine Until.of_any hk (any_one r5 e5 g5 (Oper.wp_mono (fun a6 w6 h6 => ?_) h5))
  refine any_one r6 e6 g6 (Oper.wp_mono (fun a7 w7 h7 => ?_) h6)
  exact wpAny_done r7 h7 0
end Go.Proofs.YtcmocigckcjdjaaGreatDoor
