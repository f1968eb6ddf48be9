/- LoadSpoilt: the law. -/
import Derived.Test.YtnjkjgmnnmgngaaGreatDoorBytesL5
import Derived.Test.YtnjkjgmnnmgngaaGreatDoorJ15
import Derived.Test.YtnjkjgmnnmgngaaGreatDoorMade4
import Derived.Test.YtnjkjgmnnmgngaaGreatDoorSpoiltP5
namespace Go.Proofs.YtnjkjgmnnmgngaaGreatDoor
open Go.RowKit

theorem badS_at {k : Nat} (hk : k < 8) : ∀ h, ([.string ⟨#[120, 32, 48, 32, 48, 10]⟩, .string ⟨#[101, 32, 48, 10]⟩, .string ⟨#[101, 32, 48, 32, 32, 49, 10]⟩, .string ⟨#[101, 32, 48, 49, 32, 49, 10]⟩, .string ⟨#[10]⟩, .string ⟨#[101, 32, 48, 32, 49, 32, 10]⟩, .string ⟨#[101, 32, 48, 32, 57, 57, 57, 57, 57, 57, 57, 10]⟩, .string ⟨#[118, 32, 57, 57, 32, 48, 10]⟩] : List Value)[k]'h = .string (str (badS k)) := by
  intro h
  match k, hk with
  | 0, _ => rfl
  | 1, _ => rfl
  | 2, _ => rfl
  | 3, _ => rfl
  | 4, _ => rfl
  | 5, _ => rfl
  | 6, _ => rfl
  | 7, _ => rfl
theorem two_len {L X : List Int} (h1 : L.length ≤ 10) (h2 : X.length ≤ 1) : (listB L ++ listB X).length ≤ 500 := by
  rw [List.length_append, listB_len, listB_len]
  omega
/-- Two lists put. -/
theorem putTwo (L X : List Int) (u v : Value) (w : World) (B : List UInt8) (b : Nat) (hu : SeqV w u L) (hv : SeqV w v X) (h1 : L.length ≤ 60) (h2 : X.length ≤ 60) (hB : listB L ++ listB X = B) (hb : B.length = b) :
    Calls Tryz.prog 20 #[.slice (some ⟨w.heap.size, 0, none⟩) 2 2] (w.alloc (.cells (itemCells u v) 49)) fun e w' => ∃ A c k, e = .returned (.tuple #[.slice A b c, .int .i64 k]) ∧ BytesV w' (.slice A b c) B ∧ Below w.heap.size w w' := by
  have hit := two_items (w := w) 49 hu hv
  have k := refPut_any 2 _ _ _ hit (two_far h1 h2)
  rw [two_bytes, hB, hb] at k
  refine k.mono ?_
  rintro e w' ⟨v, rfl, ho, hb'⟩
  obtain ⟨A, c, rfl⟩ := own_form ho
  exact ⟨A, c, _, rfl, own_bytesV ho, ((Below.refl _ _).alloc (Nat.le_refl _) _).trans (hb'.mono ((Below.refl _ _).alloc (Nat.le_refl _) _).size)⟩
/-- A parcel, and what Bytes tells of it. -/
theorem parcelC (k : UInt8) (B : List UInt8) (b : Nat) (A : Option Addr) (c : Nat) (w : World) (hv : BytesV w (.slice A b c) B) (hb : B.length = b) (h1 : b ≤ 1000) :
    Calls Tryz.prog 21 #[.int .u8 (k.toNat : Int), .slice A b c] w fun e w' => ∃ A' c', e = .returned (.slice A' (b + 13) c') ∧ BytesV w' (.slice A' (b + 13) c') (parcel k B) ∧ Below w.heap.size w w' := by
  refine (refParcel_any k B _ w hv (by omega)).mono ?_
  rintro e w' ⟨v', rfl, ho, hb'⟩
  rw [hb] at ho
  obtain ⟨A', c', rfl⟩ := own_form ho
  exact ⟨A', c', rfl, own_bytesV ho, hb'⟩
set_option maxRecDepth 100000 in
set_option maxHeartbeats 8000000 in
theorem spoilt_law (L : List Int) (E : List (Int × Int)) (wh : Nat) (hwh : wh < 256) (vl ve : Value) (w : World) (hg : GT w) (hl : SeqV w vl L) (he : EdgesV w ve E) (hE : ∀ e, e ∈ E → In64 e.1 ∧ In64 e.2) (h1 : L.length ≤ 9223372036854775807) (h2 : E.length ≤ 9223372036854775807) :
    Calls Tryz.prog 5 #[vl, ve, .int .u8 (wh : Int)] w fun e w' => e = .returned (.bool true) ∧ Below w.heap.size w w' := by
  have AL := Lib.hid (alive5 w hg)
  have MD := Lib.hid (fun W (h : Below w.heap.size w W) => made_sure L E vl ve W (hl.below h (Nat.le_refl _)) (he.below h (Nat.le_refl _)) hE h1 h2)
  have HG := Lib.hid hg; have HL := Lib.hid hl
  obtain ⟨Al, cl, rfl⟩ := IntsV.form hl
  obtain ⟨Ae, ce, rfl⟩ := he.form
  obtain ⟨n, hn⟩ : ∃ n, L.length = n := ⟨_, rfl⟩
  obtain ⟨m, hm⟩ : ∃ m, E.length = m := ⟨_, rfl⟩
  have HN := Lib.hid hn; have HM := Lib.hid hm
  rw [hn] at MD HL ⊢
  rw [hm] at MD ⊢
  have z0 : Int.tmod (wh : Int) 8 = ((wh % 8 : Nat) : Int) := by rw [Int.tmod_eq_emod_of_nonneg (by omega)]; omega
  obtain ⟨z, hz⟩ : ∃ z, wh % 8 = z := ⟨_, rfl⟩
  have z1 : z < 8 := by omega
  rw [hz] at z0
  have z2 : IntKind.u8.wrap (z : Int) = (z : Int) := by rcases (by omega : z = 0 ∨ z = 1 ∨ z = 2 ∨ z = 3 ∨ z = 4 ∨ z = 5 ∨ z = 6 ∨ z = 7) with h | h | h | h | h | h | h | h <;> rw [h] <;> decide
  have z3 : (z : Int) < 8 := by omega
  have z4 : (0 : Int) ≤ z := by omega
  clear hg hl he hE h1 h2 hn hm hz hwh
  go_enter Tryz.func5, Tryz.ntmps5
  go_wp2_with fail
  refine AL.out.mono ?_; rintro e w1 ⟨rfl, hb1⟩
  have HB1 := Lib.hid hb1
  have MD1 := Lib.hid (MD.out w1 hb1)
  clear hb1
  go_wp2_with fail
  refine MD1.out.mono ?_; rintro e w2 ⟨hb2, ⟨_, p, rfl⟩ | ⟨hL10, hE30, hnf, g, v, rfl, hgo, hoe⟩⟩
  · have HB2 := Lib.hid ((HB1.out.trans (hb2.mono HB1.out.size)).alloc (HB1.out.trans (hb2.mono HB1.out.size)).size (.cells #[.slice none 0 0, .slice none 0 0] 36))
    clear hb2
    go_wp2_with fail
    go_ret
    exact ⟨rfl, HB2.out⟩
  obtain ⟨S, hS⟩ : ∃ S, sortE E = S := ⟨_, rfl⟩
  obtain ⟨hs1, hs2⟩ := sort_again hnf
  have hsl := sortE_len E
  rw [hS] at hgo hoe hs1 hs2 hsl
  rw [HM.out] at hsl hE30 hoe
  rw [HN.out] at hL10
  obtain ⟨Ar, cr, rfl⟩ := own_form hoe
  have hb02 := HB1.out.trans (hb2.mono HB1.out.size)
  have hb23 := (Below.refl w2.heap.size w2).alloc (Nat.le_refl _) (.cells #[.slice Al n cl, .slice Ar m cr] 36)
  have hx := Whole.new w2 36 #[.slice Al n cl, .slice Ar m cr]
  obtain ⟨w3, hw3⟩ : ∃ W, w2.alloc (.cells #[.slice Al n cl, .slice Ar m cr] 36) = W := ⟨_, rfl⟩
  obtain ⟨mb, hmb⟩ : ∃ g, w2.heap.size = g := ⟨_, rfl⟩
  have hgo3 := hgo.below hb23 (Nat.le_refl _)
  have hb03 : Below w.heap.size w (w2.alloc (.cells #[.slice Al n cl, .slice Ar m cr] 36)) := hb02.trans (hb23.mono hb02.size)
  have hl3 := HL.out.below hb03 (Nat.le_refl _)
  rw [hw3] at hgo3 hb03 hl3 hx
  rw [hmb] at hx
  have hg3 := HG.out.below hb03 (Nat.le_refl _)
  have HC : Hid (∀ W, Below w3.heap.size w3 W → W.cell? ⟨mb, 0, none⟩ = some (.slice Al n cl) ∧ W.cell? ⟨mb, 1, none⟩ = some (.slice Ar m cr)) := Lib.hid (fun W hb => ⟨(hx.below hb hx.lt).cell 0, (hx.below hb hx.lt).cell 1⟩)
  have hsm := small_of hs1
  obtain ⟨T, hT⟩ : ∃ T, graphT L S = T := ⟨_, rfl⟩
  have hTl : T.length ≤ 1000 := by rw [← hT]; have := graph_len hs1; rw [HN.out, hsl] at this; omega
  have LB : Hid (loadT ((T ++ badS z) ++ [101, 32, 48, 32, 49, 10]) = .inl ((n + m : Nat) : Int)) := Lib.hid (by rw [← hT, load_bad hs1 (by rw [HN.out]; exact hL10) z, HN.out, hsl])
  have HS1 := Lib.hid hs1
  have HG3 := Lib.hid (fun W (h : Below w3.heap.size w3 W) => hg3.below h (Nat.le_refl _))
  have HLV := Lib.hid (fun W (h : Below w3.heap.size w3 W) => hl3.below h (Nat.le_refl _))
  have HNL : Hid (L.length ≤ 10) := Lib.hid (by rw [HN.out]; exact hL10)
  have PR := Lib.hid (fun W (h : Below w3.heap.size w3 W) => print_any _ L S W (hg3.below h (Nat.le_refl _)) (hgo3.below h (Nat.le_refl _)).tells hsm)
  have hbl := badS_len z
  have LD := Lib.hid (fun W (h : Below w3.heap.size w3 W) => load_any ((T ++ badS z) ++ [101, 32, 48, 32, 49, 10]) (by rw [List.length_append, List.length_append]; simp; omega) W (hg3.below h (Nat.le_refl _)))
  rw [hT] at PR
  obtain ⟨ts, hts⟩ : ∃ s, str T = s := ⟨_, rfl⟩
  have zb := badS_at z1
  obtain ⟨bs, hbs⟩ : ∃ s, str (badS z) = s := ⟨_, rfl⟩
  have HRES : Hid ((ts ++ bs) ++ (⟨#[101, 32, 48, 32, 49, 10]⟩ : ByteArray) = str ((T ++ badS z) ++ [101, 32, 48, 32, 49, 10])) := Lib.hid (by rw [← hts, ← hbs, show (⟨#[101, 32, 48, 32, 49, 10]⟩ : ByteArray) = str [101, 32, 48, 32, 49, 10] from rfl, str_append, str_append])
  have l1 : ts.size ≤ 1000 := by rw [← hts]; exact hTl
  have l2 : bs.size ≤ 12 := by rw [← hbs]; exact hbl
  rw [hts] at PR
  rw [hbs] at zb
  obtain ⟨B1, hB1⟩ : ∃ B, listB L ++ listB [0] = B := ⟨_, rfl⟩
  obtain ⟨B2, hB2⟩ : ∃ B, listB L ++ listB [] = B := ⟨_, rfl⟩
  obtain ⟨b1, hb1⟩ : ∃ b, B1.length = b := ⟨_, rfl⟩
  obtain ⟨b2, hb2'⟩ : ∃ b, B2.length = b := ⟨_, rfl⟩
  have hbl1 : b1 ≤ 500 := by rw [← hb1, ← hB1]; exact two_len HNL.out (by decide)
  have hbl2 : b2 ≤ 500 := by rw [← hb2', ← hB2]; exact two_len HNL.out (by decide)
  have G1 : Hid (bytesG (parcel 1 B1) = none) := Lib.hid (by rw [← hB1]; exact spoilt_odd hs1)
  have G2 : Hid (bytesG (parcel 2 B2) = none) := Lib.hid (by rw [← hB2]; exact spoilt_kind hs1)
  have G3 : Hid (bytesG (parcel 1 B2) = some ⟨L, []⟩) := Lib.hid (by rw [← hB2]; exact spoilt_good hs1)
  have P1 := Lib.hid (fun (k : UInt8) (w : World) (A : Option Addr) (c : Nat) (hv : BytesV w (.slice A b1 c) B1) => parcelC k B1 b1 A c w hv hb1 (by omega))
  have P2 := Lib.hid (fun (k : UInt8) (w : World) (A : Option Addr) (c : Nat) (hv : BytesV w (.slice A b2 c) B2) => parcelC k B2 b2 A c w hv hb2' (by omega))
  have BY := Lib.hid (fun (X : List UInt8) (v : Value) (W : World) (h : Below w3.heap.size w3 W) (hv : BytesV W v X) (hx : X.length ≤ 1000) => bytes_any X v W (hg3.below h (Nat.le_refl _)).et hv (by omega))
  have PU1 := Lib.hid (fun (w : World) (u v : Value) (h1 : SeqV w u L) (h2 : SeqV w v [0]) => putTwo L [0] u v w B1 b1 h1 h2 (by rw [HN.out]; omega) (by decide) hB1 hb1)
  have PU2 := Lib.hid (fun (w : World) (u v : Value) (h1 : SeqV w u L) (h2 : SeqV w v []) => putTwo L [] u v w B2 b2 h1 h2 (by rw [HN.out]; omega) (by decide) hB2 hb2')
  have LP1 : Hid (∀ k, (parcel k B1).length ≤ 1000) := Lib.hid (fun k => by rw [parcel_len, hb1]; omega)
  have LP2 : Hid (∀ k, (parcel k B2).length ≤ 1000) := Lib.hid (fun k => by rw [parcel_len, hb2']; omega)
  clear hB1 hB2 hb1 hb2' hbl1 hbl2
  have n1 : ¬ 9223372036854775807 < ts.size + bs.size := by omega
  have n2 : ¬ 9223372036854775807 < (ts ++ bs).size + 6 := by rw [ByteArray.size_append]; omega
  have n3 : ¬ 9223372036854775807 < ts.size + bs.size + 6 := by omega
  have hnm : IntKind.i64.wrap ((n : Int) + m) = (n : Int) + m := by rw [IntKind.wrap_i64]; omega
  have hnm' : wrap64 ((n : Int) + m) = (n : Int) + m := by unfold wrap64; omega
  have HB3 := Lib.hid hb03; have HW3 := Lib.hid hw3; have HMB := Lib.hid hmb
  have HL10 := Lib.hid hL10; have HE30 := Lib.hid hE30
  have PR3 := Lib.hid (PR.out w3 (Below.refl _ _))
  clear hb2 hnf hgo hoe hS hs1 hs2 hsl hb02 hb23 hx hw3 hmb hgo3 hb03 hl3 hg3 hsm hT hTl hts hbs hbl hL10 hE30
  go_upto_region 6 with fail
  rw [HW3.out, HMB.out]
  go_wp2_with fail
  refine PR3.out.mono ?_; rintro e wa ⟨rfl, hb⟩
  have HA := Lib.hid hb
  have K1 := Lib.hid (fun W (h : Below wa.heap.size wa W) => LD.out W (hb.trans (h.mono hb.size)))
  clear hb
  go_wp2_with fail
  obtain ⟨wb, hwb⟩ : ∃ W, wa.alloc (.cells #[.string ⟨#[120, 32, 48, 32, 48, 10]⟩, .string ⟨#[101, 32, 48, 10]⟩, .string ⟨#[101, 32, 48, 32, 32, 49, 10]⟩, .string ⟨#[101, 32, 48, 49, 32, 49, 10]⟩, .string ⟨#[10]⟩, .string ⟨#[101, 32, 48, 32, 49, 32, 10]⟩, .string ⟨#[101, 32, 48, 32, 57, 57, 57, 57, 57, 57, 57, 10]⟩, .string ⟨#[118, 32, 57, 57, 32, 48, 10]⟩] 9) = W := ⟨_, rfl⟩
  have hbb : Below wa.heap.size wa wb := by rw [← hwb]; exact (Below.refl _ _).alloc (Nat.le_refl _) _
  have HBB := Lib.hid (HA.out.trans (hbb.mono HA.out.size))
  rw [hwb, HRES.out]
  have K2 := Lib.hid (LD.out wb HBB.out)
  clear hwb hbb zb n1 n2 n3 l1 l2 K1
  refine K2.out.mono ?_; rintro e wc ⟨hb, ⟨p, u, hn, rfl, hf⟩ | ⟨d, g, hn, _⟩⟩
  case inr =>
    rw [LB.out] at hn
    cases hn
  rw [LB.out] at hn
  obtain rfl := Sum.inl.inj hn
  have HCC := Lib.hid (HBB.out.trans (hb.mono HBB.out.size))
  obtain ⟨c0, c1⟩ := HC.out wc HCC.out
  have HFE := Lib.hid (fun W (h : Below wc.heap.size wc W) => hf.below h (Nat.le_refl _))
  obtain ⟨fe, rfl⟩ := hf.form
  clear hb hn hf K2
  go_wp2_with fail
  have hbd : Below wc.heap.size wc (wc.alloc (.cells #[.int .i64 0] 3)) := (Below.refl _ _).alloc (Nat.le_refl _) _
  have RP := Lib.hid (PU1.out (wc.alloc (.cells #[.int .i64 0] 3)) (.slice Al n cl) (.slice (some ⟨wc.heap.size, 0, none⟩) 1 1) (HLV.out _ (HCC.out.trans (hbd.mono HCC.out.size))) (seq_cell1 (x := 0) (cell_new1 wc 0)))
  rw [World.size_alloc] at RP
  have HBD := Lib.hid hbd
  clear hbd
  refine RP.out.mono ?_; rintro e wd ⟨Ab, cb, kb, rfl, hvb, hb⟩
  have HCD := Lib.hid (HBD.out.trans (hb.mono (by omega)))
  have HD := Lib.hid (HCC.out.trans (HCD.out.mono HCC.out.size))
  have RC := Lib.hid (P1.out 1 wd Ab cb hvb)
  clear hb hvb RP
  go_wp2_with fail
  refine RC.out.mono ?_; rintro e we ⟨Ae', ce', rfl, hve, hb⟩
  have HE := Lib.hid (HD.out.trans (hb.mono HD.out.size))
  have HCE := Lib.hid (HCD.out.trans (hb.mono HCD.out.size))
  have BE := Lib.hid (BY.out _ _ we HE.out hve (LP1.out 1))
  clear hb hve RC
  go_wp2_with fail
  refine BE.out.mono ?_; rintro e wf ⟨hb, ⟨_, u, rfl, hf⟩ | ⟨d, g5, hn, _⟩⟩
  case inr =>
    rw [G1.out] at hn
    cases hn
  have HF := Lib.hid (HE.out.trans (hb.mono HE.out.size))
  have HCF := Lib.hid (HCE.out.trans (hb.mono HCE.out.size))
  have HFF := Lib.hid (fun W (h : Below wf.heap.size wf W) => hf.below h (Nat.le_refl _))
  obtain ⟨ff, rfl⟩ := hf.form
  clear hb hf BE
  go_wp2_with fail
  have RQ := Lib.hid (PU2.out wf (.slice Al n cl) (.slice none 0 0) (HLV.out wf HF.out) (Or.inl ⟨rfl, _, _, rfl⟩))
  refine RQ.out.mono ?_; rintro e wg ⟨Ac, cc, kc, rfl, hvc, hb⟩
  have HGG := Lib.hid (HF.out.trans (hb.mono HF.out.size))
  have HCG := Lib.hid (HCF.out.trans (hb.mono HCF.out.size))
  have HFG := Lib.hid hb
  have HVC := Lib.hid (fun W (h : Below wg.heap.size wg W) => hvc.below h (Nat.le_refl _))
  have RC := Lib.hid (P2.out 2 wg Ac cc hvc)
  clear hb hvc RQ
  go_wp2_with fail
  refine RC.out.mono ?_; rintro e wh' ⟨Ah, ch, rfl, hvh, hb⟩
  have HH := Lib.hid (HGG.out.trans (hb.mono HGG.out.size))
  have HCH := Lib.hid (HCG.out.trans (hb.mono HCG.out.size))
  have HFH := Lib.hid (HFG.out.trans (hb.mono HFG.out.size))
  have HGH := Lib.hid hb
  have BE := Lib.hid (BY.out _ _ wh' HH.out hvh (LP2.out 2))
  clear hb hvh RC
  go_wp2_with fail
  refine BE.out.mono ?_; rintro e wi ⟨hb, ⟨_, u, rfl, hf⟩ | ⟨d, g5, hn, _⟩⟩
  case inr =>
    rw [G2.out] at hn
    cases hn
  have HI := Lib.hid (HH.out.trans (hb.mono HH.out.size))
  have HCI := Lib.hid (HCH.out.trans (hb.mono HCH.out.size))
  have HFI := Lib.hid (HFH.out.trans (hb.mono HFH.out.size))
  have HGI := Lib.hid (HGH.out.trans (hb.mono HGH.out.size))
  have HFH' := Lib.hid (fun W (h : Below wi.heap.size wi W) => hf.below h (Nat.le_refl _))
  obtain ⟨fh, rfl⟩ := hf.form
  have RC := Lib.hid (P2.out 1 wi Ac cc (HVC.out wi HGI.out))
  clear hb hf BE
  go_wp2_with fail
  refine RC.out.mono ?_; rintro e wj ⟨Aj, cj, rfl, hvj, hb⟩
  have HJ := Lib.hid (HI.out.trans (hb.mono HI.out.size))
  have HCJ := Lib.hid (HCI.out.trans (hb.mono HCI.out.size))
  have HFJ := Lib.hid (HFI.out.trans (hb.mono HFI.out.size))
  have HIJ := Lib.hid hb
  have BE := Lib.hid (BY.out _ _ wj HJ.out hvj (LP2.out 1))
  clear hb hvj RC
  go_wp2_with fail
  refine BE.out.mono ?_; rintro e wk ⟨hb, ⟨hno, _⟩ | ⟨d, gk, hn, rfl, hgk⟩⟩
  · rw [G3.out] at hno
    cases hno
  rw [G3.out] at hn
  obtain rfl := Option.some.inj hn
  simp only at hgk
  have HK := Lib.hid (HJ.out.trans (hb.mono HJ.out.size))
  have HCK := Lib.hid (HCJ.out.trans (hb.mono HCJ.out.size))
  have HFK := Lib.hid (HFJ.out.trans (hb.mono HFJ.out.size))
  have HIK := Lib.hid (HIJ.out.trans (hb.mono HIJ.out.size))
  have GK := Lib.hid (fun W (h : Below wk.heap.size wk W) => hgk.below h (Nat.le_refl _))
  have C1 := Lib.hid (code_f7 (HFE.out wk HCK.out) (HG3.out wk HK.out).et)
  have C2 := Lib.hid (fun W (h : Below wk.heap.size wk W) => at_f (HFE.out W (HCK.out.trans (h.mono HCK.out.size))) (HG3.out W (HK.out.trans (h.mono HK.out.size))).et)
  have C3 := Lib.hid (fun W (h : Below wk.heap.size wk W) => code_f7 (HFF.out W (HFK.out.trans (h.mono HFK.out.size))) (HG3.out W (HK.out.trans (h.mono HK.out.size))).et)
  have C4 := Lib.hid (fun W (h : Below wk.heap.size wk W) => code_f7 (HFH'.out W (HIK.out.trans (h.mono HIK.out.size))) (HG3.out W (HK.out.trans (h.mono HK.out.size))).et)
  clear hb hn hgk BE
  go_wp2_with fail
  refine C1.out.mono ?_; rintro e wl ⟨rfl, hb⟩
  have HX := Lib.hid hb
  have D2 := Lib.hid (C2.out wl hb)
  clear hb
  go_wp2_with fail
  refine D2.out.mono ?_; rintro e wm ⟨rfl, hb⟩
  have HY := Lib.hid (HX.out.trans (hb.mono HX.out.size))
  have D3 := Lib.hid (C3.out wm HY.out)
  clear hb
  go_wp2_with fail
  refine D3.out.mono ?_; rintro e wn ⟨rfl, hb⟩
  have HZ := Lib.hid (HY.out.trans (hb.mono HY.out.size))
  have D4 := Lib.hid (C4.out wn HZ.out)
  clear hb
  go_wp2_with fail
  refine D4.out.mono ?_; rintro e wo ⟨rfl, hb⟩
  have HO := Lib.hid (HZ.out.trans (hb.mono HZ.out.size))
  have HOF := Lib.hid (HB3.out.trans ((HK.out.trans (HO.out.mono HK.out.size)).mono HB3.out.size))
  have LE := Lib.hid (len_any (GK.out wo HO.out))
  rw [HN.out] at LE
  have SZ := Lib.hid (size_any (GK.out wo HO.out))
  rw [show (sortE []).length = 0 from rfl] at SZ
  clear hb
  go_wp2_with fail
  refine LE.out.mono ?_; rintro e w7 ⟨rfl, hw⟩; obtain rfl := hw.symm; clear hw
  go_wp2_with fail
  refine SZ.out.mono ?_; rintro e w7 ⟨rfl, hw⟩; obtain rfl := hw.symm; clear hw
  go_wp2_with fail
  go_ret
  exact ⟨rfl, HOF.out⟩
end Go.Proofs.YtnjkjgmnnmgngaaGreatDoor
