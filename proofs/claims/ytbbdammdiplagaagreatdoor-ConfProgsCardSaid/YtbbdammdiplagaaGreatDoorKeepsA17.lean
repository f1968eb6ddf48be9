/- prog: First, Keeps and Falls, of any program. -/
import Derived.Test.YtbbdammdiplagaaGreatDoorTestA17
namespace Go.Proofs.YtbbdammdiplagaaGreatDoor
open Go.RowKit

theorem test_all {w : World} {vl ve : Value} {L : List Int} {E : List (Int × Int)} (hl : SeqV w vl L) (he : EdgesV w ve E) (h1 : L.length ≤ 1000000) (h2 : E.length ≤ 1000000) (a b : Int) :
    Calls Tryz.prog 63 #[.agg #[.int .i64 a, .int .i64 b], .agg #[vl, ve]] w fun e w' => e = .returned (.bool (testB (a, b) L E)) ∧ Below w.heap.size w w' := by
  by_cases h : a = 6 ∨ a = 8
  · exact test_68 hl he h1 h2 a b h
  · exact test_any hl he h1 h2 a b (by omega) (by omega)
set_option maxRecDepth 100000 in
theorem cl_firstA {w : World} {vl ve : Value} {L : List Int} {E : List (Int × Int)} (hl : SeqV w vl L) (he : EdgesV w ve E) (h1 : L.length ≤ 1000000) (h2 : E.length ≤ 1000000) (a b : Int) (pb : Nat) (hp : Whole w pb 52 #[vl, ve]) :
    Calls Tryz.prog 62 #[.agg #[.int .i64 a, .int .i64 b], .pointer (some ⟨pb, 0, none⟩)] w fun e w' => e = .returned (.bool (!testB (a, b) L E)) ∧ Below w.heap.size w w' := by
  obtain ⟨Al, cl, rfl⟩ := IntsV.form hl
  obtain ⟨Ae, ce, rfl⟩ := he.form
  have hb1 : Below w.heap.size w (w.alloc (.cells #[.int .i64 a, .int .i64 b] 44)) := (Below.refl _ _).alloc (Nat.le_refl _) _
  have ho := Whole.new w 44 #[.int .i64 a, .int .i64 b]
  obtain ⟨w1, hw1⟩ : ∃ W, w.alloc (.cells #[.int .i64 a, .int .i64 b] 44) = W := ⟨_, rfl⟩
  obtain ⟨ob, hob⟩ : ∃ g, w.heap.size = g := ⟨_, rfl⟩
  rw [hw1] at hb1 ho
  rw [hob] at ho
  have hp1 := hp.below hb1 hp.lt
  have HT := Lib.hid (test_all (hl.below hb1 (Nat.le_refl _)) (he.below hb1 (Nat.le_refl _)) h1 h2 a b)
  obtain ⟨z, hz⟩ : ∃ z, testB (a, b) L E = z := ⟨_, rfl⟩
  rw [hz] at HT ⊢
  have HB1 := Lib.hid hb1; have HW1 := Lib.hid hw1; have HOB := Lib.hid hob
  have c0 : w1.cell? ⟨ob, 0, none⟩ = some (.int .i64 a) := ho.cell 0
  have c1 : w1.cell? ⟨ob, 1, none⟩ = some (.int .i64 b) := ho.cell 1
  have p0 : w1.cell? ⟨pb, 0, none⟩ = some (.slice Al L.length cl) := hp1.cell 0
  have p1 : w1.cell? ⟨pb, 1, none⟩ = some (.slice Ae E.length ce) := hp1.cell 1
  generalize L.length = n at *
  generalize E.length = m at *
  clear hl he h1 h2 hp hb1 ho hw1 hob hp1 hz
  go_enter Tryz.func62, Tryz.ntmps62
  go_upto_region 1 with fail
  rw [HW1.out, HOB.out]
  go_wp2_with fail
  refine HT.out.mono ?_; rintro e w2 ⟨rfl, hb2⟩
  have HBB : Hid (Below w.heap.size w w2) := Lib.hid (HB1.out.trans (hb2.mono HB1.out.size))
  clear hb2 c0 c1 p0 p1
  go_wp2_with fail
  go_ret
  exact ⟨rfl, HBB.out⟩
set_option maxRecDepth 100000 in
theorem first_all {w : World} {vo vl ve : Value} {O : List (Int × Int)} {L : List Int} {E : List (Int × Int)} (hO : EdgesV w vo O) (hO1 : O.length ≤ 1000000) (hl : SeqV w vl L) (he : EdgesV w ve E) (h1 : L.length ≤ 1000000) (h2 : E.length ≤ 1000000) :
    Calls Tryz.prog 44 #[vo, .agg #[vl, ve]] w fun e w' => e = .returned (.int .i64 (firstF O L E)) ∧ Below w.heap.size w w' := by
  obtain ⟨Al, cl, rfl⟩ := IntsV.form hl
  obtain ⟨Ae, ce, rfl⟩ := he.form
  have hb1 : Below w.heap.size w (w.alloc (.cells #[.slice Al L.length cl, .slice Ae E.length ce] 52)) := (Below.refl _ _).alloc (Nat.le_refl _) _
  have hp := Whole.new w 52 #[.slice Al L.length cl, .slice Ae E.length ce]
  obtain ⟨w1, hw1⟩ : ∃ W, w.alloc (.cells #[.slice Al L.length cl, .slice Ae E.length ce] 52) = W := ⟨_, rfl⟩
  obtain ⟨pb, hpb⟩ : ∃ g, w.heap.size = g := ⟨_, rfl⟩
  rw [hw1] at hb1 hp
  rw [hpb] at hp
  have hl1 := hl.below hb1 (Nat.le_refl _)
  have he1 := he.below hb1 (Nat.le_refl _)
  have HI := idx_first O vo (fun o => !testB o L E) (.pointer (some ⟨pb, 0, none⟩)) w1 (hO.below hb1 (Nat.le_refl _)) hO1 (fun a b W hb _ =>
    (cl_firstA (hl1.below hb (Nat.le_refl _)) (he1.below hb (Nat.le_refl _)) h1 h2 a b pb (hp.below hb hp.lt)).mono fun e w' ⟨q1, q2⟩ => ⟨q1, hb.trans (q2.mono hb.size)⟩)
  change Calls _ _ _ _ (fun e w' => e = .returned (.int .i64 (firstF O L E)) ∧ Below w1.heap.size w1 w') at HI
  obtain ⟨r, hr⟩ : ∃ r, firstF O L E = r := ⟨_, rfl⟩
  rw [hr] at HI ⊢
  have HI := Lib.hid HI
  obtain ⟨Ao, co, rfl⟩ := hO.form
  have HB1 := Lib.hid hb1; have HW1 := Lib.hid hw1; have HPB := Lib.hid hpb
  have p0 : w1.cell? ⟨pb, 0, none⟩ = some (.slice Al L.length cl) := hp.cell 0
  have p1 : w1.cell? ⟨pb, 1, none⟩ = some (.slice Ae E.length ce) := hp.cell 1
  generalize L.length = n at *
  generalize E.length = m at *
  generalize O.length = q at *
  clear hO hO1 hl he h1 h2 hb1 hp hw1 hpb hl1 he1 hr
  go_enter Tryz.func44, Tryz.ntmps44
  go_upto_region 1 with fail
  rw [HW1.out, HPB.out]
  go_wp2_with fail
  refine HI.out.mono ?_; rintro e w2 ⟨rfl, hb2⟩
  have HBB : Hid (Below w.heap.size w w2) := Lib.hid (HB1.out.trans (hb2.mono HB1.out.size))
  clear hb2 p0 p1
  go_wp2_with fail
  go_ret
  exact ⟨rfl, HBB.out⟩
set_option maxRecDepth 100000 in
set_option maxHeartbeats 2000000 in
theorem keeps_all {w : World} {vo vl ve : Value} {O : List (Int × Int)} {L : List Int} {E : List (Int × Int)} (hO : EdgesV w vo O) (hO1 : O.length ≤ 1000000) (hl : SeqV w vl L) (he : EdgesV w ve E) (h1 : L.length ≤ 1000000) (h2 : E.length ≤ 1000000) :
    Calls Tryz.prog 20 #[vo, .agg #[vl, ve]] w fun e w' => e = .returned (.bool (keepsB O L E)) ∧ Below w.heap.size w w' := by
  obtain ⟨Al, cl, rfl⟩ := IntsV.form hl
  obtain ⟨Ae, ce, rfl⟩ := he.form
  have hb1 : Below w.heap.size w (w.alloc (.cells #[.slice Al L.length cl, .slice Ae E.length ce] 52)) := (Below.refl _ _).alloc (Nat.le_refl _) _
  have hp := Whole.new w 52 #[.slice Al L.length cl, .slice Ae E.length ce]
  obtain ⟨w1, hw1⟩ : ∃ W, w.alloc (.cells #[.slice Al L.length cl, .slice Ae E.length ce] 52) = W := ⟨_, rfl⟩
  obtain ⟨pb, hpb⟩ : ∃ g, w.heap.size = g := ⟨_, rfl⟩
  rw [hw1] at hb1 hp
  rw [hpb] at hp
  have hl1 := hl.below hb1 (Nat.le_refl _)
  have he1 := he.below hb1 (Nat.le_refl _)
  have hO2 := hO.below hb1 (Nat.le_refl _)
  have HPR := Lib.hid (progRight_any hO2 hO1)
  have HRT := Lib.hid (fun (W : World) (hb : Below w1.heap.size w1 W) => right_any (hl1.below hb (Nat.le_refl _)) (he1.below hb (Nat.le_refl _)) h1 h2)
  have HFI := Lib.hid (fun (W : World) (hb : Below w1.heap.size w1 W) => first_all (hO2.below hb (Nat.le_refl _)) hO1 (hl1.below hb (Nat.le_refl _)) (he1.below hb (Nat.le_refl _)) h1 h2)
  have HC : Hid (∀ W, Below w1.heap.size w1 W → W.cell? ⟨pb, 0, none⟩ = some (.slice Al L.length cl) ∧ W.cell? ⟨pb, 1, none⟩ = some (.slice Ae E.length ce)) := Lib.hid (fun W hb => ⟨(hp.below hb hp.lt).cell 0, (hp.below hb hp.lt).cell 1⟩)
  have HU : Hid (keepsB O L E = ((progF O).isNone && ((rightF L E).isNone && decide (firstF O L E < 0)))) := Lib.hid rfl
  obtain ⟨kb, hkb⟩ : ∃ z, keepsB O L E = z := ⟨_, rfl⟩
  rw [hkb] at HU ⊢
  obtain ⟨r, hr⟩ : ∃ r, firstF O L E = r := ⟨_, rfl⟩
  rw [hr] at HFI HU
  obtain ⟨o1, ho1⟩ : ∃ o, progF O = o := ⟨_, rfl⟩
  rw [ho1] at HPR HU
  obtain ⟨o2, ho2⟩ : ∃ o, rightF L E = o := ⟨_, rfl⟩
  rw [ho2] at HRT HU
  obtain ⟨Ao, co, rfl⟩ := hO.form
  have HB1 := Lib.hid hb1; have HW1 := Lib.hid hw1; have HPB := Lib.hid hpb
  have p0 : w1.cell? ⟨pb, 0, none⟩ = some (.slice Al L.length cl) := hp.cell 0
  have p1 : w1.cell? ⟨pb, 1, none⟩ = some (.slice Ae E.length ce) := hp.cell 1
  generalize L.length = n at *
  generalize E.length = m at *
  generalize O.length = q at *
  clear hO hO1 hl he h1 h2 hb1 hp hw1 hpb hl1 he1 hr hO2 ho1 ho2 hkb
  go_enter Tryz.func20, Tryz.ntmps20
  go_upto_region 1 with fail
  rw [HW1.out, HPB.out]
  go_wp2_with fail
  refine HPR.out.mono ?_; rintro e w2 hto
  rcases o1 with _ | ⟨c, p⟩
  · obtain ⟨rfl, hb2⟩ := hto.nil rfl
    obtain ⟨q0, q1⟩ := HC.out w2 hb2
    have HRR := Lib.hid (HRT.out w2 hb2)
    have HB2 := Lib.hid hb2
    clear hto hb2 p0 p1
    go_wp2_with fail
    refine HRR.out.mono ?_; rintro e w3 hto
    rcases o2 with _ | ⟨c, p⟩
    · obtain ⟨rfl, hb3⟩ := hto.nil rfl
      have hb3 := HB2.out.trans (hb3.mono HB2.out.size)
      obtain ⟨r0, r1⟩ := HC.out w3 hb3
      have HFF := Lib.hid (HFI.out w3 hb3)
      have HB3 := Lib.hid hb3
      clear hto hb3 q0 q1
      go_wp2_with fail
      refine HFF.out.mono ?_; rintro e w4 ⟨rfl, hb4⟩
      have HBB : Hid (Below w.heap.size w w4) := Lib.hid (HB1.out.trans ((HB3.out.trans (hb4.mono HB3.out.size)).mono HB1.out.size))
      clear hb4 r0 r1
      go_wp2_with fail
      go_ret
      exact ⟨by rw [HU.out]; rfl, HBB.out⟩
    · obtain ⟨fb, rfl, hf, hb3⟩ := hto.err rfl
      have HBB : Hid (Below w.heap.size w w3) := Lib.hid (HB1.out.trans ((HB2.out.trans (hb3.mono HB2.out.size)).mono HB1.out.size))
      clear hto hf hb3 q0 q1
      go_wp2_with fail
      go_ret
      exact ⟨by rw [HU.out]; rfl, HBB.out⟩
  · obtain ⟨fb, rfl, hf, hb2⟩ := hto.err rfl
    have HBB : Hid (Below w.heap.size w w2) := Lib.hid (HB1.out.trans (hb2.mono HB1.out.size))
    clear hto hf hb2 p0 p1
    go_wp2_with fail
    go_ret
    exact ⟨by rw [HU.out]; rfl, HBB.out⟩
def fallsB (O : List (Int × Int)) : Bool := !(O.any fun o => o.1 == 1)
end Go.Proofs.YtbbdammdiplagaaGreatDoor
