/- strings.Builder's copyCheck, WriteString and String, where NoEscape stands in place. load.Print. load.Print, whole. load.Pack. load: what is packed is unpacked; pure. load: the chapter's example. -/
import Derived.Test.YtnjkjgmnnmgngaaGreatDoorJ3
import Derived.Shelf.Strings.Builder1
import Derived.Test.YtnjkjgmnnmgngaaGreatDoorJ13
import Derived.Test.YtnjkjgmnnmgngaaGreatDoorJ7
import Derived.Test.YtnjkjgmnnmgngaaGreatDoorJ9
import Derived.Test.YtnjkjgmnnmgngaaGreatDoorJ8
import Derived.Test.YtnjkjgmnnmgngaaGreatDoorJ1
import Derived.Test.YtnjkjgmnnmgngaaGreatDoorJ5
namespace Go.Proofs.YtnjkjgmnnmgngaaGreatDoor
section
open Go.RowKit Go.Extern.Stop Go.Stop Go.Extern Go.Shelf

theorem Tryz.sizeBuilderP : (Tryz.prog.info? 83).map (·.size) = some 2 := by kernel_rfl
theorem Tryz.liesBuilderP : liesAt Tryz.prog Tryz.prog.depth 83 (2 / Tryz.prog.cellsOf 83) 0 83 1 = true := by kernel_rfl
theorem Tryz.infoByteP : (Tryz.prog.info? 5).map (fun i => (i.zero, i.size, i.bytes)) = some (some (.int .u8 0), 1, 1) := by kernel_rfl

set_option maxRecDepth 100000 in
set_option maxHeartbeats 4000000 in
theorem copyCheck_usedP (b : Nat) (w : World) (h0 : w.cell? ⟨b, 0, none⟩ = some (.pointer (some ⟨b, 0, none⟩))) :
    Calls Tryz.prog 70 #[.pointer (some ⟨b, 0, none⟩)] w fun e w' => e = .returned (.tuple #[]) ∧ w' = w := by
  obtain ⟨j, hj, _⟩ := Option.map_eq_some_iff.1 Tryz.sizeBuilderP
  go_enter Tryz.func70, Tryz.ntmps70
  go_wp2
  rw [Lib.run_neq_ptr_same w _ Tryz.underlying81 hj]
  go_wp2
  go_end0
  exact ⟨rfl, rfl⟩
set_option maxRecDepth 100000 in
set_option maxHeartbeats 4000000 in
theorem copyCheck_freshP (b : Nat) (w : World) (h0 : w.cell? ⟨b, 0, none⟩ = some (.pointer none)) (hsh : w.shape? b = some (83, 2)) (hfz : w.frozen? ⟨b, 0, none⟩ = false) :
    Calls Tryz.prog 70 #[.pointer (some ⟨b, 0, none⟩)] w fun e w' => e = .returned (.tuple #[]) ∧ w' = w.setCell ⟨b, 0, none⟩ (.pointer (some ⟨b, 0, none⟩)) := by
  obtain ⟨j, hj, hjs⟩ := Option.map_eq_some_iff.1 Tryz.sizeBuilderP
  go_enter Tryz.func70, Tryz.ntmps70
  go_wp2
  rw [Lib.run_to_unsafe w ⟨b, 0, none⟩ Tryz.underlying81 Tryz.underlying140 hj (by rw [hjs]; decide) hsh (Nat.zero_lt_succ 1)]
  simp only [Result.andThen]
  rw [Oper.upon_value]
  go_wp2
  rw [run_callFunc_extern Tryz.func92 (by kernel_rfl) (by kernel_rfl) (by kernel_rfl) (e := Extern.AbiNoEscape.same) (by kernel_rfl)]
  rw [Lib.run_noEscape]
  simp only [Result.andThen]
  rw [Oper.upon_value]
  go_wp2
  rw [Lib.run_from_unsafe w ⟨b, 0, none⟩ Tryz.underlying140 Tryz.underlying81 hj hsh Tryz.liesBuilderP]
  simp only [Result.andThen]
  rw [Oper.upon_value]
  go_wp2
  go_end0
  exact ⟨rfl, rfl⟩
/-- Blocks of other types have not turned. -/
def TF (w w' : World) : Prop := ∀ g t cs, t ≠ 83 → t ≠ 5 → Whole w g t cs → Whole w' g t cs
theorem TF.refl (w : World) : TF w w := fun _ _ _ _ _ h => h
theorem TF.trans {w w1 w2 : World} (h : TF w w1) (k : TF w1 w2) : TF w w2 := fun g t cs h1 h2 h3 => k g t cs h1 h2 (h g t cs h1 h2 h3)
theorem TF.below {w w' : World} (h : Below w.heap.size w w') : TF w w' := fun _ _ _ _ _ k => k.below h k.lt
theorem TF.put {w : World} {b : Nat} {p v : Value} (hb : w.heap[b]? = some (.cells #[p, v] 83 (0, 0))) (i : Nat) (u : Value) : TF w (w.setCell ⟨b, i, none⟩ u) := fun g t cs h1 _ h3 => by
  refine h3.other (fun e => ?_) u
  have e' : g = b := e
  subst e'
  have := h3.symm.trans hb
  injection this with this
  injection this with _ h4 _
  exact h1 h4
theorem isBuilder_below {B b : Nat} {bs : List Value} {w w' : World} (h : Lib.IsBuilder 83 5 B b bs w) (hb : Below w.heap.size w w') : Lib.IsBuilder 83 5 B b bs w' := by
  rcases h with ⟨hB, v, h1, h2, h3⟩ | ⟨hB, v, h1, h2, h3⟩
  · exact Or.inl ⟨hB, v, (hb.block b (lt_of_block h1)).trans h1, own_below h2 hb (Nat.le_refl _), h3⟩
  · exact Or.inr ⟨hB, v, (hb.block b (lt_of_block h1)).trans h1, own_below h2 hb (Nat.le_refl _), h3⟩
theorem copyCheck_anyP (B b : Nat) (bs : List Value) (w : World) (h : Lib.IsBuilder 83 5 B b bs w) :
    Calls Tryz.prog 70 #[.pointer (some ⟨b, 0, none⟩)] w fun e w' => e = .returned (.tuple #[]) ∧ (Lib.BuilderAt 83 5 B b (.pointer (some ⟨b, 0, none⟩)) bs w' ∧ Below B w w' ∧ TF w w') := by
  rcases h with h | h
  · refine (copyCheck_freshP b w h.cell0 h.shape h.frozen0).mono ?_
    rintro e w' ⟨rfl, rfl⟩
    obtain ⟨hB, v, hb, _⟩ := id h
    exact ⟨rfl, h.used _, (Below.refl B w).setCell (p := ⟨b, 0, none⟩) h.1 _, TF.put hb 0 _⟩
  · refine (copyCheck_usedP b w h.cell0).mono ?_
    rintro e w' ⟨rfl, rfl⟩
    exact ⟨rfl, h, Below.refl B _, TF.refl _⟩

set_option maxRecDepth 100000 in
set_option maxHeartbeats 4000000 in
theorem writeString_anyP (B b : Nat) (bs : List Value) (s : ByteArray) (w : World) (h : Lib.IsBuilder 83 5 B b bs w) (hlen : bs.length + s.size ≤ 140737488355328) (hBw : B ≤ w.heap.size) :
    Calls Tryz.prog 42 #[.pointer (some ⟨b, 0, none⟩), .string s] w fun e w' => e = .returned (.tuple #[.int .i64 s.size, .nilIface]) ∧ (Lib.IsBuilder 83 5 B b (bs ++ Lib.strCells s) w' ∧ Below B w w' ∧ TF w w') := by
  obtain ⟨i0, hi, hz0, hz1, hz2⟩ := info_parts Tryz.infoByteP
  have HC := Lib.hid (copyCheck_anyP B b bs w h)
  clear h
  go_enter Tryz.func42, Tryz.ntmps42
  go_wp2_with (go_at_call 70; refine HC.out.mono ?_)
  rintro e w1 ⟨rfl, h1, hb1, htf1⟩
  have HTF1 := Lib.hid htf1
  clear htf1
  obtain ⟨hB, v, hbk, hown, hne⟩ := h1
  have c0 : w1.cell? ⟨b, 0, none⟩ = some (.pointer (some ⟨b, 0, none⟩)) := by rw [Lib.cell_of_heap hbk]; rfl
  have c1 : w1.cell? ⟨b, 1, none⟩ = some v := by rw [Lib.cell_of_heap hbk]; rfl
  go_wp2_with (at_builtin; refine Lib.wpList_append_own_string _ rfl _ _ 22 9 rfl B 5 i0 Tryz.underlying22 Tryz.underlying9 hi hz0 hz1 hz2 _ _ _ rfl hown s rfl ?c3 ?c4 ?c5 ?_)
  case c3 => unfold maxLen; omega
  case c4 => omega
  case c5 => have := hb1.size; omega
  intro v' w2 hown' hgrow _
  have hlt : b < w1.heap.size := by
    rcases Nat.lt_or_ge b w1.heap.size with h' | h'
    · exact h'
    · simp [Array.getElem?_eq_none h'] at hbk
  have hb2 : w2.heap[b]? = some (.cells #[.pointer (some ⟨b, 0, none⟩), v] 83 (0, 0)) := by
    rw [hgrow.block b hlt (fun e => hne e.symm)]
    exact hbk
  have d0 : w2.cell? ⟨b, 0, none⟩ = some (.pointer (some ⟨b, 0, none⟩)) := by rw [Lib.cell_of_heap hb2]; rfl
  have d1 : w2.cell? ⟨b, 1, none⟩ = some v := by rw [Lib.cell_of_heap hb2]; rfl
  have f1 : w2.frozen? ⟨b, 1, none⟩ = false := Lib.frozen_of_heap hb2 1
  obtain ⟨ao, n', cap, rfl⟩ : ∃ ao n' cap, v' = .slice ao n' cap := by
    rcases hown'.2 with ⟨hv, _⟩ | ⟨g, cap, cur, hv, _⟩
    · exact ⟨_, _, _, hv⟩
    · exact ⟨_, _, _, hv⟩
  go_wp2
  go_ret2
  refine ⟨rfl, Or.inr ?_, ?_, ?_⟩
  · exact Lib.BuilderAt.put (T := 83) (e := 5) hB hb2 (bs' := bs ++ Lib.strCells s) (by simpa [Lib.strCells_length] using hown') (by decide)
  · exact (hb1.grown hgrow (by have := hb1.size; omega) (fun k hk => (hown.lt k hk).1)).setCell (p := ⟨b, 1, none⟩) hB _
  · exact HTF1.out.trans (TF.trans (fun g t cs _ n2 h3 => h3.grown hgrow (fun e => own_ne hown h3 (fun e2 => n2 e2.symm) e.symm)) (TF.put hb2 1 _))

def Tryz.lays169_renP : Go.Shelf.Ren := ⟨fun | 169 => 44 | n => n, fun | 70 => 81 | 9 => 9 | 0 => 0 | 72 => 83 | 37 => 22 | 127 => 123 | 3 => 3 | 5 => 5 | n => n, fun | n => n⟩
theorem Tryz.lays169P : Go.Proofs.Lays.n169 Tryz.prog Tryz.lays169_renP := {
  mixed := by kernel_rfl
  f169 := Tryz.func44.trans (congrArg some (by kernel_rfl))
  t0 := Tryz.underlying0
  a0 := Tryz.isAgg0
  z0 := Tryz.sizeOf0
  v0 := Tryz.zeroValue0
  t3 := Tryz.underlying3
  a3 := Tryz.isAgg3
  z3 := Tryz.sizeOf3
  v3 := Tryz.zeroValue3
  t9 := Tryz.underlying9
  a9 := Tryz.isAgg9
  z9 := Tryz.sizeOf9
  v9 := Tryz.zeroValue9
  t37 := Tryz.underlying22
  a37 := Tryz.isAgg22
  z37 := Tryz.sizeOf22
  v37 := Tryz.zeroValue22
  t70 := Tryz.underlying81
  a70 := Tryz.isAgg81
  z70 := Tryz.sizeOf81
  v70 := Tryz.zeroValue81
  t72 := Tryz.underlying83
  a72 := Tryz.isAgg83
  z72 := Tryz.sizeOf83
  v72 := Tryz.zeroValue83
  t127 := Tryz.underlying123
  a127 := Tryz.isAgg123
  z127 := Tryz.sizeOf123
  v127 := Tryz.zeroValue123 }
theorem Tryz.builderExtraP : Builder.Extra Tryz.prog Tryz.lays169_renP := {
  sizeBuilder := by kernel_rfl
  liesBuilder := by kernel_rfl
  t5 := Tryz.underlying5
  a5 := Tryz.isAgg5
  z5 := Tryz.sizeOf5
  v5 := Tryz.zeroValue5
  infoByte := by kernel_rfl
  cellsByte := by kernel_rfl
  sizeByte := by kernel_rfl
  neB5 := by decide }
theorem string_anyP (B b : Nat) (l : List UInt8) (w : World) (h : Lib.IsBuilder 83 5 B b (Lib.byteCells l) w) (hBw : B ≤ w.heap.size) :
    Calls Tryz.prog 44 #[.pointer (some ⟨b, 0, none⟩)] w fun e w' => e = .returned (.string ⟨l.toArray⟩) ∧ Below B w w' := Any.Builder_String_any Tryz.lays169P Tryz.builderExtraP B b l w h hBw
end

section
open Go.RowKit

theorem byteCells_str3 (l m : List UInt8) : Lib.byteCells l ++ Lib.strCells (str m) = Lib.byteCells (l ++ m) := by
  simp [Lib.byteCells, Lib.strCells, str]
/-- A line of a word and two numbers. -/
def pLine (k : UInt8) (x y : Int) : List UInt8 := k :: 32 :: (decI x ++ 32 :: decI y) ++ [10]
/-- A line written. -/
def PLineTo (B b : Nat) (l : List UInt8) (k : UInt8) (x y : Int) (w : World) (e : Ending) (w' : World) : Prop :=
  e = .returned (.tuple #[]) ∧ Lib.IsBuilder 83 5 B b (Lib.byteCells (l ++ pLine k x y)) w' ∧ Below B w w'
theorem itoa_I (x : Int) (h0 : 0 ≤ x) (h1 : x ≤ 9999999) (w : World) (hg : GT w) : Calls Tryz.prog 43 #[.int .i64 x] w fun e w' => e = .returned (.string (str (decI x))) ∧ Below w.heap.size w w' := by
  have k := itoa_at x.toNat (by omega) w hg
  rw [Int.toNat_of_nonneg h0] at k
  exact k
theorem decI_len {x : Int} (h1 : x ≤ 9999999) : (decI x).length ≤ 7 := by
  unfold decI
  exact (dec_len_iff x.toNat 7 (by decide)).2 (by omega)
set_option maxRecDepth 100000 in
set_option maxHeartbeats 4000000 in
theorem pline_any (B b : Nat) (l : List UInt8) (k : UInt8) (x y : Int) (w : World) (hg : GT w) (h : Lib.IsBuilder 83 5 B b (Lib.byteCells l) w) (h1 : l.length ≤ 1000000000) (hx0 : 0 ≤ x) (hx : x ≤ 9999999) (hy0 : 0 ≤ y) (hy : y ≤ 9999999) (hB : B ≤ w.heap.size) :
    Calls Tryz.prog 41 #[.string ⟨#[k]⟩, .int .i64 x, .int .i64 y, .pointer (some ⟨b, 0, none⟩)] w (PLineTo B b l k x y w) := by
  have I1 := Lib.hid (itoa_I x hx0 hx w hg)
  have I2 := Lib.hid (fun W (hb : Below w.heap.size w W) => itoa_I y hy0 hy W (hg.below hb (Nat.le_refl _)))
  have WR := Lib.hid (fun W (hb : Below w.heap.size w W) => writeString_anyP B b (Lib.byteCells l) ((((((⟨#[k]⟩ : ByteArray) ++ ⟨#[32]⟩) ++ str (decI x)) ++ ⟨#[32]⟩) ++ str (decI y)) ++ ⟨#[10]⟩) W (isBuilder_below h hb) (by
    have a1 := decI_len hx
    have a2 := decI_len hy
    rw [Lib.byteCells_length, show (⟨#[k]⟩ : ByteArray) = str [k] from rfl, show (⟨#[32]⟩ : ByteArray) = str [32] from rfl, show (⟨#[10]⟩ : ByteArray) = str [10] from rfl, str_append, str_append, str_append, str_append, str_append, str_size]; simp; omega) (by have := hb.size; omega))
  have HST : Hid (Lib.byteCells l ++ Lib.strCells ((((((⟨#[k]⟩ : ByteArray) ++ ⟨#[32]⟩) ++ str (decI x)) ++ ⟨#[32]⟩) ++ str (decI y)) ++ ⟨#[10]⟩) = Lib.byteCells (l ++ pLine k x y)) := Lib.hid (by
    rw [show (⟨#[k]⟩ : ByteArray) = str [k] from rfl, show (⟨#[32]⟩ : ByteArray) = str [32] from rfl, show (⟨#[10]⟩ : ByteArray) = str [10] from rfl, str_append, str_append, str_append, str_append, str_append, byteCells_str3]
    unfold pLine
    simp)
  have z1 : (str (decI x)).size ≤ 7 := decI_len hx
  have z2 : (str (decI y)).size ≤ 7 := decI_len hy
  generalize str (decI x) = sx at *
  generalize str (decI y) = sy at *
  have HBW : Hid (∀ W, Below w.heap.size w W → Below B w W) := Lib.hid (fun W hb => hb.mono hB)
  have n1 : ¬ 9223372036854775807 < (⟨#[k]⟩ : ByteArray).size + 1 := by show ¬ _ < 1 + 1; omega
  have n2 : ¬ 9223372036854775807 < (⟨#[k]⟩ : ByteArray).size + (⟨#[32]⟩ : ByteArray).size := by show ¬ _ < 1 + 1; omega
  have n3 : ¬ 9223372036854775807 < 1 + 1 + sx.size := by omega
  have n4 : ¬ 9223372036854775807 < ((⟨#[k]⟩ : ByteArray) ++ (⟨#[32]⟩ : ByteArray)).size + sx.size := by rw [ByteArray.size_append]; show ¬ _ < 1 + 1 + _; omega
  have n5 : ¬ 9223372036854775807 < 1 + 1 + sx.size + 1 := by omega
  have n6 : ¬ 9223372036854775807 < (((⟨#[k]⟩ : ByteArray) ++ (⟨#[32]⟩ : ByteArray)) ++ sx).size + (⟨#[32]⟩ : ByteArray).size := by rw [ByteArray.size_append, ByteArray.size_append]; show ¬ _ < 1 + 1 + _ + 1; omega
  have n7 : ¬ 9223372036854775807 < 1 + 1 + sx.size + 1 + sy.size := by omega
  have n8 : ¬ 9223372036854775807 < ((((⟨#[k]⟩ : ByteArray) ++ (⟨#[32]⟩ : ByteArray)) ++ sx) ++ (⟨#[32]⟩ : ByteArray)).size + sy.size := by rw [ByteArray.size_append, ByteArray.size_append, ByteArray.size_append]; show ¬ _ < 1 + 1 + _ + 1 + _; omega
  have n9 : ¬ 9223372036854775807 < 1 + 1 + sx.size + 1 + sy.size + 1 := by omega
  have n10 : ¬ 9223372036854775807 < (((((⟨#[k]⟩ : ByteArray) ++ (⟨#[32]⟩ : ByteArray)) ++ sx) ++ (⟨#[32]⟩ : ByteArray)) ++ sy).size + (⟨#[10]⟩ : ByteArray).size := by rw [ByteArray.size_append, ByteArray.size_append, ByteArray.size_append, ByteArray.size_append]; show ¬ _ < 1 + 1 + _ + 1 + _ + 1; omega
  clear hg h h1 hx hx0 hy hy0 hB
  go_enter Tryz.func41, Tryz.ntmps41
  go_wp2_with fail
  refine I1.out.mono ?_; rintro e w1 ⟨rfl, hb1⟩
  have HB1 := Lib.hid hb1
  have I2W := Lib.hid (I2.out w1 hb1)
  clear hb1
  go_wp2_with fail
  refine I2W.out.mono ?_; rintro e w2 ⟨rfl, hb2⟩
  have hb02 := HB1.out.trans (hb2.mono HB1.out.size)
  have HB2 := Lib.hid hb02
  have WRW := Lib.hid (WR.out w2 hb02)
  clear hb2 hb02
  go_wp2_with fail
  refine WRW.out.mono ?_; rintro e w3 ⟨rfl, hI, hb3, -⟩
  rw [HST.out] at hI
  have HE := Lib.hid (show PLineTo B b l k x y w (.returned (.tuple #[])) w3 from ⟨rfl, hI, (HBW.out w2 HB2.out).trans hb3⟩)
  clear hI hb3 n1 n2 n3 n4 n5 n6 n7 n8 n9 n10
  go_wp2_with fail
  refine bodyPost_end (results_none rfl _ _ _) rfl ?_
  exact HE.out
end

section
open Go.RowKit

theorem fresh_heap (w : World) (t : TypeId) (cs : Array Value) : (w.alloc (.cells cs t)).heap[w.heap.size]? = some (.cells cs t (0, 0)) := by
  have := Whole.new w t cs
  exact this
theorem vLines_snoc : ∀ (X : List Int) (i : Nat) (x : Int), vLines i (X ++ [x]) = vLines i X ++ pLine 118 ((i + X.length : Nat) : Int) x
  | [], i, x => by
    show vLine (i : Int) x ++ 10 :: [] = _
    rfl
  | y :: t, i, x => by
    show vLine (i : Int) y ++ 10 :: vLines (i + 1) (t ++ [x]) = (vLine (i : Int) y ++ 10 :: vLines (i + 1) t) ++ _
    rw [vLines_snoc t (i + 1) x, List.length_cons, show i + 1 + t.length = i + (t.length + 1) by omega]
    simp
theorem eLines_snoc : ∀ (X : List (Int × Int)) (x : Int × Int), eLines (X ++ [x]) = eLines X ++ pLine 101 x.1 x.2
  | [], x => by
    show eLine x ++ 10 :: [] = _
    rfl
  | y :: t, x => by
    show eLine y ++ 10 :: eLines (t ++ [x]) = (eLine y ++ 10 :: eLines t) ++ _
    rw [eLines_snoc t x]
    simp
theorem vLines_len : ∀ (X : List Int) (i : Nat), i + X.length ≤ 9999999 → (∀ x ∈ X, x ≤ 9999999) → (vLines i X).length ≤ 18 * X.length
  | [], i, _, _ => Nat.le_refl _
  | y :: t, i, hi, h => by
    rw [List.length_cons] at hi
    have ih := vLines_len t (i + 1) (by omega) (fun x hx => h x (List.mem_cons_of_mem _ hx))
    have h1 := decI_len (h y (by simp))
    have h2 := decI_len (x := (i : Int)) (by omega)
    show (vLine (i : Int) y ++ 10 :: vLines (i + 1) t).length ≤ _
    unfold vLine
    simp only [List.length_append, List.length_cons]
    omega
theorem eLines_len : ∀ (X : List (Int × Int)), (∀ x ∈ X, x.1 ≤ 9999999 ∧ x.2 ≤ 9999999) → (eLines X).length ≤ 18 * X.length
  | [], _ => Nat.le_refl _
  | y :: t, h => by
    have ih := eLines_len t (fun x hx => h x (List.mem_cons_of_mem _ hx))
    have h1 := decI_len (h y (by simp)).1
    have h2 := decI_len (h y (by simp)).2
    show (eLine y ++ 10 :: eLines t).length ≤ _
    unfold eLine
    simp only [List.length_append, List.length_cons]
    omega
theorem graphT_len {L : List Int} {S : List (Int × Int)} (h0 : L.length ≤ 9999999) (h1 : ∀ x ∈ L, x ≤ 9999999) (h2 : ∀ x ∈ S, x.1 ≤ 9999999 ∧ x.2 ≤ 9999999) : (graphT L S).length ≤ 18 * L.length + 18 * S.length := by
  have a := vLines_len L 0 (by omega) h1
  have b := eLines_len S h2
  unfold graphT
  rw [List.length_append]
  omega
theorem take_snoc {α : Type} [Inhabited α] {L : List α} {k : Nat} {d : α} (h : k < L.length) : L.take (k + 1) = L.take k ++ [L.getD k d] := by
  rw [List.take_succ_eq_append_getElem h]
  simp [List.getD, h]
/-- A value that answers as a graph of these labels and edges does. -/
structure Tells (w : World) (pv : Value) (L : List Int) (S : List (Int × Int)) : Prop where
  len : ∀ W, Below w.heap.size w W → Calls Tryz.prog 22 #[pv] W fun e w' => e = .returned (.int .i64 L.length) ∧ w' = W
  size : ∀ W, Below w.heap.size w W → Calls Tryz.prog 23 #[pv] W fun e w' => e = .returned (.int .i64 S.length) ∧ w' = W
  label : ∀ W, Below w.heap.size w W → ∀ k : Nat, k < L.length → Calls Tryz.prog 31 #[pv, .int .i64 k] W fun e w' => e = .returned (.int .i64 (L.getD k 0)) ∧ w' = W
  edge : ∀ W, Below w.heap.size w W → ∀ k : Nat, k < S.length → Calls Tryz.prog 32 #[pv, .int .i64 k] W fun e w' => e = .returned (.tuple #[edgeV (S.getD k (0, 0)), .bool true]) ∧ Below W.heap.size W w'
theorem GraphOwn.tells {w : World} {base g : Nat} {L : List Int} {S : List (Int × Int)} (h : GraphOwn w base g L S) : Tells w (.pointer (some ⟨g, 0, none⟩)) L S where
  len _ hb := len_any (h.below hb (Nat.le_refl _))
  size _ hb := size_any (h.below hb (Nat.le_refl _))
  label _ hb _ hk := label_ok (h.below hb (Nat.le_refl _)) hk
  edge _ hb _ hk := edge_ok (h.below hb (Nat.le_refl _)) hk
theorem tells_nil (w : World) : Tells w (.pointer none) [] [] where
  len W _ := len_nil W
  size W _ := size_nil W
  label _ _ k hk := absurd hk (Nat.not_lt_zero k)
  edge _ _ k hk := absurd hk (Nat.not_lt_zero k)
/-- Numbers of a graph. -/
structure Small (L : List Int) (S : List (Int × Int)) : Prop where
  n : L.length ≤ 5000
  m : S.length ≤ 20000
  l : ∀ x ∈ L, 0 ≤ x ∧ x ≤ 999999
  s : ∀ e ∈ S, (0 ≤ e.1 ∧ e.1 ≤ 999999) ∧ 0 ≤ e.2 ∧ e.2 ≤ 999999
theorem Small.lab {L : List Int} {S : List (Int × Int)} (h : Small L S) {k : Nat} (hk : k < L.length) : 0 ≤ L.getD k 0 ∧ L.getD k 0 ≤ 999999 := by
  have e : L.getD k 0 = L[k] := by simp [List.getD, hk]
  rw [e]
  exact h.l _ (List.getElem_mem hk)
theorem Small.edge {L : List Int} {S : List (Int × Int)} (h : Small L S) {k : Nat} (hk : k < S.length) : (0 ≤ (S.getD k (0, 0)).1 ∧ (S.getD k (0, 0)).1 ≤ 999999) ∧ 0 ≤ (S.getD k (0, 0)).2 ∧ (S.getD k (0, 0)).2 ≤ 999999 := by
  have e : S.getD k (0, 0) = S[k] := by simp [List.getD, hk]
  rw [e]
  exact h.s _ (List.getElem_mem hk)
set_option maxRecDepth 100000 in
set_option maxHeartbeats 8000000 in
theorem print_any (pv : Value) (L : List Int) (S : List (Int × Int)) (w : World) (hg : GT w) (ht : Tells w pv L S) (hs : Small L S) :
    Calls Tryz.prog 15 #[pv] w fun e w' => e = .returned (.string (str (graphT L S))) ∧ Below w.heap.size w w' := by
  have HG := Lib.hid hg; have HT := Lib.hid ht; have HS := Lib.hid hs
  obtain ⟨n, hn⟩ : ∃ n, L.length = n := ⟨_, rfl⟩
  obtain ⟨m, hm⟩ : ∃ m, S.length = m := ⟨_, rfl⟩
  have hn5 : n ≤ 5000 := by rw [← hn]; exact hs.n
  have hm5 : m ≤ 20000 := by rw [← hm]; exact hs.m
  have HN := Lib.hid hn; have HM := Lib.hid hm
  have hI3 : Lib.IsBuilder 83 5 w.heap.size w.heap.size (Lib.byteCells []) (w.alloc (.cells #[.pointer none, .slice none 0 0] 83)) := Or.inl ⟨Nat.le_refl _, _, fresh_heap _ _ _, World.ownsRow_nil _ _ _ 1, by simp [Value.ownBlock]⟩
  have hb3 := (Below.refl w.heap.size w).alloc (Nat.le_refl _) (.cells #[.pointer none, .slice none 0 0] 83)
  obtain ⟨bb, hbb⟩ : ∃ g, w.heap.size = g := ⟨_, rfl⟩
  obtain ⟨w3, hw3e⟩ : ∃ W, w.alloc (.cells #[.pointer none, .slice none 0 0] 83) = W := ⟨_, rfl⟩
  rw [hw3e] at hb3 hI3
  rw [hbb] at hb3 hI3
  have HGW : Hid (∀ W, Below bb w W → GT W) := Lib.hid (fun W hb => hg.below hb (Nat.le_of_eq hbb))
  have HLE : Hid (∀ W, Below bb w W → Calls Tryz.prog 22 #[pv] W fun e w' => e = .returned (.int .i64 n) ∧ w' = W) := Lib.hid (fun W hb => by rw [← hn]; exact ht.len W (by rw [hbb]; exact hb))
  have HSI : Hid (∀ W, Below bb w W → Calls Tryz.prog 23 #[pv] W fun e w' => e = .returned (.int .i64 m) ∧ w' = W) := Lib.hid (fun W hb => by rw [← hm]; exact ht.size W (by rw [hbb]; exact hb))
  have HLA : Hid (∀ W, Below bb w W → ∀ k : Nat, k < n → Calls Tryz.prog 31 #[pv, .int .i64 k] W fun e w' => e = .returned (.int .i64 (L.getD k 0)) ∧ w' = W) := Lib.hid (fun W hb k hk => ht.label W (by rw [hbb]; exact hb) k (by omega))
  have HED : Hid (∀ W, Below bb w W → ∀ k : Nat, k < m → Calls Tryz.prog 32 #[pv, .int .i64 k] W fun e w' => e = .returned (.tuple #[edgeV (S.getD k (0, 0)), .bool true]) ∧ Below W.heap.size W w') := Lib.hid (fun W hb k hk => ht.edge W (by rw [hbb]; exact hb) k (by omega))
  have HSZ : Hid (∀ W, Below bb w W → bb ≤ W.heap.size) := Lib.hid (fun W hb => by rw [← hbb]; exact hb.size)
  have HB0 := Lib.hid hb3; have HI0 := Lib.hid hI3; have HW3 := Lib.hid hw3e; have HBB := Lib.hid hbb
  have HLN : Hid (∀ k, (vLines 0 (L.take k)).length ≤ 100000) := Lib.hid (fun k => by
    have h1 := vLines_len (L.take k) 0 (by rw [List.length_take]; omega) (fun x hx => by have := (hs.l x (List.mem_of_mem_take hx)).2; omega)
    rw [List.length_take] at h1
    omega)
  have HEN : Hid (∀ k, (eLines (S.take k)).length ≤ 400000) := Lib.hid (fun k => by
    have h1 := eLines_len (S.take k) (fun x hx => by have := hs.s x (List.mem_of_mem_take hx); omega)
    rw [List.length_take] at h1
    omega)
  have HSB : Hid (∀ l W, Lib.IsBuilder 83 5 bb bb (Lib.byteCells l) W → Below bb w W → Calls Tryz.prog 44 #[.pointer (some ⟨bb, 0, none⟩)] W fun e w' => e = .returned (.string (str l)) ∧ Below bb W w') := Lib.hid (fun l W h hb => string_anyP bb bb l W h (by rw [← hbb]; exact hb.size))
  have HEND : Hid (∀ W, Below bb w W → Below w.heap.size w W) := Lib.hid (fun W hb => by rw [hbb]; exact hb)
  clear hg ht hs hn hm hI3 hb3 hw3e hbb
  go_enter Tryz.func15, Tryz.ntmps15
  go_upto_region 2 with fail
  rw [HW3.out, HBB.out]
  have HL0 := Lib.hid (HLE.out w3 HB0.out)
  go_wp2_with fail
  refine HL0.out.mono ?_; rintro e w4 ⟨rfl, hw4⟩
  obtain rfl := hw4.symm
  clear hw4
  go_wp2_with fail
  go_loopg [12] n (fun g y wr => ∃ k, k ≤ n ∧ g = n - k ∧ y = .int .i64 (k : Nat) ∧ Lib.IsBuilder 83 5 bb bb (Lib.byteCells (vLines 0 (L.take k))) wr ∧ Below bb w wr)
  case atStart => exact ⟨0, Nat.zero_le _, rfl, rfl, HI0.out, HB0.out⟩
  case round =>
    obtain ⟨k, hk, rfl, rfl, hI, hB⟩ := hrel
    have HB := Lib.hid hB; have HI := Lib.hid hI
    clear hI
    by_cases hlt : k < n
    · have t7 : decide (k < n) = true := decide_eq_true hlt
      have t7' : decide ((k : Int) < n) = true := decide_eq_true (by omega)
      have HK := Lib.hid hlt
      have LA := Lib.hid (HLA.out wr hB k hlt)
      obtain ⟨x, hx⟩ : ∃ x, L.getD k 0 = x := ⟨_, rfl⟩
      rw [hx] at LA
      have hxr := HS.out.lab (k := k) (by rw [HN.out]; exact hlt)
      rw [hx] at hxr
      have PL := Lib.hid (pline_any bb bb (vLines 0 (L.take k)) 118 k x wr (HGW.out wr hB) HI.out (by have := HLN.out k; omega) (by omega) (by omega) (by omega) (by omega) (HSZ.out wr hB))
      have HX := Lib.hid hx
      clear hlt hB hx hxr
      go_wp2_with fail
      refine LA.out.mono ?_; rintro e w4 ⟨rfl, hw4⟩
      obtain rfl := hw4.symm
      clear hw4
      go_wp2_with fail
      refine PL.out.mono ?_; rintro e w5 ⟨rfl, hI5, hb5⟩
      have HI5 := Lib.hid hI5; have HB5 := Lib.hid (HB.out.trans hb5)
      clear hI5 hb5
      go_wp2_with fail
      go_roundg (n - (k + 1))
      case rel =>
        refine ⟨k + 1, HK.out, rfl, rfl, ?_, HB5.out⟩
        rw [take_snoc (d := 0) (by rw [HN.out]; exact HK.out), vLines_snoc, HX.out, List.length_take, HN.out, Nat.zero_add, Nat.min_eq_left (Nat.le_of_lt HK.out)]
        exact HI5.out
      case measure => have := HK.out; omega
    · have t7 : decide (k < n) = false := decide_eq_false hlt
      have t7' : decide ((k : Int) < n) = false := decide_eq_false (by omega)
      obtain rfl : k = n := by omega
      have HIV : Hid (Lib.IsBuilder 83 5 bb bb (Lib.byteCells (vLines 0 L)) wr) := Lib.hid (by
        have h := HI.out
        rwa [List.take_of_length_le (by rw [HN.out]; exact Nat.le_refl _)] at h)
      have HS0 := Lib.hid (HSI.out wr hB)
      have HLN' := Lib.hid (show (vLines 0 L).length ≤ 100000 by
        have h := HLN.out L.length
        rwa [List.take_length] at h)
      clear hlt hB HI hk
      go_wp2_with fail
      refine HS0.out.mono ?_; rintro e w4 ⟨rfl, hw4⟩
      obtain rfl := hw4.symm
      clear hw4
      obtain ⟨w4, hw4⟩ : ∃ W, W = wr := ⟨_, rfl⟩
      subst hw4
      go_wp2_with fail
      go_loopg [24] m (fun g y wr => ∃ j, j ≤ m ∧ g = m - j ∧ y = .int .i64 (j : Nat) ∧ Lib.IsBuilder 83 5 bb bb (Lib.byteCells (vLines 0 L ++ eLines (S.take j))) wr ∧ Below bb w wr)
      case atStart => exact ⟨0, Nat.zero_le _, rfl, rfl, by show Lib.IsBuilder _ _ _ _ (Lib.byteCells (vLines 0 L ++ [])) _; rw [List.append_nil]; exact HIV.out, HB.out⟩
      case round =>
        obtain ⟨j, hj, rfl, rfl, hI, hB⟩ := hrel
        have HBJ := Lib.hid hB; have HI := Lib.hid hI
        clear hI
        by_cases hlt : j < m
        · have t8 : decide (j < m) = true := decide_eq_true hlt
          have t8' : decide ((j : Int) < m) = true := decide_eq_true (by omega)
          have HK := Lib.hid hlt
          obtain ⟨x, y, hx⟩ : ∃ x y, S.getD j (0, 0) = (x, y) := ⟨_, _, rfl⟩
          have ED : Hid (Calls Tryz.prog 32 #[pv, .int .i64 j] wr fun e w' => e = .returned (.tuple #[.agg #[.int .i64 x, .int .i64 y], .bool true]) ∧ Below wr.heap.size wr w') := Lib.hid (by
            have h := HED.out wr hB j hlt
            rw [hx] at h
            exact h)
          have hxr := HS.out.edge (k := j) (by rw [HM.out]; exact hlt)
          rw [hx] at hxr
          simp only at hxr
          have PL := Lib.hid (fun W (h : Below bb w W) (hI : Lib.IsBuilder 83 5 bb bb (Lib.byteCells (vLines 0 L ++ eLines (S.take j))) W) => pline_any bb bb (vLines 0 L ++ eLines (S.take j)) 101 x y W (HGW.out W h) hI (by rw [List.length_append]; have := HLN'.out; have := HEN.out j; omega) (by omega) (by omega) (by omega) (by omega) (HSZ.out W h))
          have HX := Lib.hid hx
          clear hlt hB hx hxr
          go_wp2_with fail
          refine ED.out.mono ?_; rintro e w5 ⟨rfl, hb5⟩
          have HB5 := Lib.hid (HBJ.out.trans (hb5.mono (HSZ.out _ HBJ.out)))
          have HI5 := Lib.hid (isBuilder_below HI.out hb5)
          have hB6 := HB5.out.alloc (HSZ.out w5 HB5.out) (.cells #[.int .i64 x, .int .i64 y] 64)
          have hI6 := isBuilder_below HI5.out ((Below.refl w5.heap.size w5).alloc (Nat.le_refl _) (.cells #[.int .i64 x, .int .i64 y] 64))
          have PLW := Lib.hid (PL.out _ hB6 hI6)
          have HB6 := Lib.hid hB6
          clear hb5 hB6 hI6
          go_wp2_with fail
          refine PLW.out.mono ?_; rintro e w7 ⟨rfl, hI7, hb7⟩
          have HI7 := Lib.hid hI7; have HB7 := Lib.hid (HB6.out.trans hb7)
          clear hI7 hb7
          go_wp2_with fail
          go_roundg (m - (j + 1))
          case rel =>
            refine ⟨j + 1, HK.out, rfl, rfl, ?_, HB7.out⟩
            rw [take_snoc (d := (0, 0)) (by rw [HM.out]; exact HK.out), eLines_snoc, HX.out, ← List.append_assoc]
            exact HI7.out
          case measure => have := HK.out; omega
        · have t8 : decide (j < m) = false := decide_eq_false hlt
          have t8' : decide ((j : Int) < m) = false := decide_eq_false (by omega)
          obtain rfl : j = m := by omega
          have SB := Lib.hid (HSB.out (graphT L S) wr (by
            have h := HI.out
            rwa [List.take_of_length_le (by rw [HM.out]; exact Nat.le_refl _)] at h) hB)
          clear hlt hB hj
          go_wp2_with fail
          refine SB.out.mono ?_; rintro e w5 ⟨rfl, hb5⟩
          have HB5 := Lib.hid (HEND.out _ (HBJ.out.trans hb5))
          clear hb5
          go_wp2_with fail
          go_ret
          exact ⟨rfl, HB5.out⟩
end

section
open Go.RowKit

def icells (L : List Int) : Array Value := (intCells L).toArray
theorem icells_size (L : List Int) : (icells L).size = L.length := by simp [icells, intCells]
theorem icells_at {L : List Int} {i : Nat} (h : i < L.length) : (icells L)[i]? = some (.int .i64 (L.getD i 0)) := by
  simp [icells, intCells, List.getD, h]
theorem icells_set (L : List Int) (i : Nat) (x : Int) : (icells L).setIfInBounds i (.int .i64 x) = icells (L.set i x) := by
  simp [icells, intCells, List.map_set]
theorem zero_icells (m : Nat) : madeCells #[.int .i64 0] m = icells (List.replicate m 0) := by
  apply Array.ext
  · rw [size_madeCells, icells_size, List.length_replicate]
  · intro t h1 h2
    rw [size_madeCells] at h1
    have e1 : (icells (List.replicate m 0))[t]? = some (.int .i64 0) := by rw [icells_at (by simpa using h1)]; simp [List.getD, h1]
    have e2 : (madeCells #[Value.int .i64 0] m)[t]'(by rw [size_madeCells]; exact h1) = .int .i64 0 := by
      simp only [madeCells, Array.getElem_map, Array.getElem_range]
      simp [show t % 1 = 0 by omega]
    rw [e2]
    rw [Array.getElem?_eq_getElem h2] at e1
    exact (Option.some.inj e1).symm
theorem seq_icells {w : World} {g : Nat} {t : TypeId} {L : List Int} (h : Whole w g t (icells L)) (n c : Nat) (hn : n = L.length) : SeqV w (.slice (some ⟨g, 0, none⟩) n c) L := by
  subst hn
  rcases Nat.eq_zero_or_pos L.length with h0 | h0
  · refine Or.inl ⟨h0, some ⟨g, 0, none⟩, c, ?_⟩
    rw [h0]
  · refine Or.inr ⟨h0, g, 0, c, rfl, fun i hi => ?_⟩
    rw [Nat.zero_add, h.cell, icells_at hi]
def filledI (L : List Int) (k : Nat) : List Int := L.take k ++ List.replicate (L.length - k) 0
theorem filledI_len {L : List Int} {k : Nat} (h : k ≤ L.length) : (filledI L k).length = L.length := by simp [filledI]; omega
theorem filledI_zero (L : List Int) : filledI L 0 = List.replicate L.length 0 := by simp [filledI]
theorem filledI_all (L : List Int) : filledI L L.length = L := by simp [filledI]
theorem filledI_set {L : List Int} {k : Nat} (h : k < L.length) : (filledI L k).set k (L.getD k 0) = filledI L (k + 1) := by
  unfold filledI
  have hl : (L.take k).length = k := by simp; omega
  obtain ⟨m, hm⟩ : ∃ m, L.length - k = m + 1 := ⟨L.length - k - 1, by omega⟩
  rw [List.set_append_right _ _ (by omega), hl, Nat.sub_self, hm, List.replicate_succ, List.set_cons_zero, show L.length - (k + 1) = m by omega, take_snoc (d := 0) h, List.append_assoc]
  rfl
def endsL (S : List (Int × Int)) : List Int := S.flatMap fun e => [e.1, e.2]
theorem endsL_len : ∀ S : List (Int × Int), (endsL S).length = 2 * S.length
  | [] => rfl
  | e :: t => by
    show ([e.1, e.2] ++ endsL t).length = _
    rw [List.length_append, endsL_len t]
    simp
    omega
theorem endsL_snoc (S : List (Int × Int)) (x y : Int) : endsL (S ++ [(x, y)]) = endsL S ++ [x, y] := by simp [endsL]
def listB (L : List Int) : List UInt8 := be 4 L.length ++ numsB (fun i => L.getD i 0) L.length
theorem listB_len (L : List Int) : (listB L).length = 4 + 4 * L.length := by simp [listB, be_len, numsB_len]
/-- What a graph's parcel holds. -/
def bodyB (L : List Int) (S : List (Int × Int)) : List UInt8 := listB L ++ listB (endsL S)
def packB (L : List Int) (S : List (Int × Int)) : List UInt8 := parcel 1 (bodyB L S)
theorem Tryz.infoIntP : (Tryz.prog.info? 3).map (fun i => (i.zero, i.size, i.bytes)) = some (some (.int .i64 0), 1, 8) := by kernel_rfl
theorem seq_two {w : World} (t : TypeId) (x y : Int) : SeqV (w.alloc (.cells #[.int .i64 x, .int .i64 y] t)) (.slice (some ⟨w.heap.size, 0, none⟩) 2 2) [x, y] := by
  have h := Whole.new w t #[.int .i64 x, .int .i64 y]
  refine Or.inr ⟨by simp, w.heap.size, 0, 2, rfl, fun i hi => ?_⟩
  rw [Nat.zero_add, h.cell]
  match i, hi with
  | 0, _ => rfl
  | 1, _ => rfl
set_option maxRecDepth 100000 in
set_option maxHeartbeats 8000000 in
theorem loadPack_any (pv : Value) (L : List Int) (S : List (Int × Int)) (w : World) (ht : Tells w pv L S) (hn : L.length ≤ 1000) (hm : S.length ≤ 500) :
    Calls Tryz.prog 12 #[pv] w fun e w' => ∃ v, e = .returned v ∧ w'.ownsRow w.heap.size 5 1 v (packB L S).length (Lib.byteCells (packB L S)) ∧ Below w.heap.size w w' := by
  obtain ⟨i0, hi, hiz, hi1, hi2⟩ := info_parts Tryz.infoIntP
  obtain ⟨n, hnn⟩ : ∃ n, L.length = n := ⟨_, rfl⟩
  obtain ⟨m, hmm⟩ : ∃ m, S.length = m := ⟨_, rfl⟩
  have HLE : Hid (∀ W, Below w.heap.size w W → Calls Tryz.prog 22 #[pv] W fun e w' => e = .returned (.int .i64 n) ∧ w' = W) := Lib.hid (fun W hb => by rw [← hnn]; exact ht.len W hb)
  have HSI : Hid (∀ W, Below w.heap.size w W → Calls Tryz.prog 23 #[pv] W fun e w' => e = .returned (.int .i64 m) ∧ w' = W) := Lib.hid (fun W hb => by rw [← hmm]; exact ht.size W hb)
  have HLA : Hid (∀ W, Below w.heap.size w W → ∀ k : Nat, k < n → Calls Tryz.prog 31 #[pv, .int .i64 k] W fun e w' => e = .returned (.int .i64 (L.getD k 0)) ∧ w' = W) := Lib.hid (fun W hb k hk => ht.label W hb k (by omega))
  have HED : Hid (∀ W, Below w.heap.size w W → ∀ k : Nat, k < m → Calls Tryz.prog 32 #[pv, .int .i64 k] W fun e w' => e = .returned (.tuple #[edgeV (S.getD k (0, 0)), .bool true]) ∧ Below W.heap.size W w') := Lib.hid (fun W hb k hk => ht.edge W hb k (by omega))
  rw [hnn] at hn
  rw [hmm] at hm
  have HN := Lib.hid hnn; have HM := Lib.hid hmm
  have mkI : ∀ V : World, (Instr.makeSlice 33 (.int .i64 (n : Nat)) (.int .i64 (n : Nat))).run Tryz.prog V = .ok (.slice (some ⟨V.heap.size, 0, none⟩) n n) (V.alloc (.cells (madeCells #[.int .i64 0] n) 3)) := by
    intro V
    have h := run_make (P := Tryz.prog) V 33 3 i0 (.int .i64 0) Tryz.underlying33 hi hiz .i64 .i64 (n : Int) (n : Int) (by omega) (by omega) (by rw [hi2]; omega) (by omega)
    rw [h, hi1, Int.toNat_natCast, Nat.mul_one]
    rfl
  have L0 := Lib.hid (HLE.out w (Below.refl _ _))
  clear ht hnn hmm
  go_enter Tryz.func12, Tryz.ntmps12
  go_wp2_with fail
  refine L0.out.mono ?_; rintro e w1 ⟨rfl, hw1⟩
  obtain rfl := hw1.symm
  clear hw1
  go_wp2_with fail
  have hz : madeCells #[.int .i64 0] n = icells (filledI L 0) := by rw [filledI_zero, HN.out, zero_icells]
  have h0 := Whole.new w 3 (madeCells #[.int .i64 0] n)
  have hb0 := (Below.refl w.heap.size w).alloc (Nat.le_refl _) (.cells (madeCells #[.int .i64 0] n) 3)
  rw [hz] at h0 hb0
  rw [hz]
  obtain ⟨w6, hw6⟩ : ∃ W, w.alloc (.cells (icells (filledI L 0)) 3) = W := ⟨_, rfl⟩
  rw [hw6] at h0 hb0 ⊢
  have HWS := Lib.hid (show w.heap.size + 1 ≤ w6.heap.size by rw [← hw6]; simp)
  have H0 := Lib.hid h0; have HB0 := Lib.hid hb0
  clear h0 hb0 hw6 hz mkI
  go_loopg [15] n (fun g y wr => ∃ k, k ≤ n ∧ g = n - k ∧ y = .int .i64 (k : Nat) ∧ Whole wr w.heap.size 3 (icells (filledI L k)) ∧ Below w.heap.size w wr ∧ w.heap.size + 1 ≤ wr.heap.size)
  case atStart => exact ⟨0, Nat.zero_le _, rfl, rfl, H0.out, HB0.out, HWS.out⟩
  case round =>
    obtain ⟨k, hk, rfl, rfl, hW, hB, hsz⟩ := hrel
    have HW := Lib.hid hW; have HB := Lib.hid hB; have HSZ := Lib.hid hsz
    by_cases hlt : k < n
    · have hkL : k < L.length := by rw [HN.out]; exact hlt
      have LA := Lib.hid (HLA.out wr hB k hlt)
      obtain ⟨x, hx⟩ : ∃ x, L.getD k 0 = x := ⟨_, rfl⟩
      rw [hx] at LA
      have hfl := icells_at (L := filledI L k) (i := k) (by rw [filledI_len (Nat.le_of_lt hkL)]; exact hkL)
      have y0 := (hW.cell k).trans hfl
      have f0 := hW.free k
      have HLT := Lib.hid hlt
      have t7 : decide (k < n) = true := decide_eq_true hlt
      have i1 : (k : Int) < n := by omega
      have i2 : (0 : Int) ≤ k := by omega
      have HRW : Hid (Whole (wr.setCell ⟨w.heap.size, k, none⟩ (.int .i64 x)) w.heap.size 3 (icells (filledI L (k + 1))) ∧ Below w.heap.size w (wr.setCell ⟨w.heap.size, k, none⟩ (.int .i64 x)) ∧ w.heap.size + 1 ≤ (wr.setCell ⟨w.heap.size, k, none⟩ (.int .i64 x)).heap.size) := Lib.hid (by
        have h5 := hW.put k (.int .i64 x)
        rw [icells_set, ← hx, filledI_set hkL] at h5
        refine ⟨?_, hB.setCell (p := ⟨w.heap.size, k, none⟩) (Nat.le_refl _) _, ?_⟩
        · rw [← hx]; exact h5
        · simpa [World.setCell] using hsz)
      clear hW hB hlt hkL hx hfl hsz
      go_wp2_with fail
      refine LA.out.mono ?_; rintro e w4 ⟨rfl, hw4⟩
      obtain rfl := hw4.symm
      clear hw4
      go_wp2_with fail
      go_roundg (n - (k + 1))
      case rel => exact ⟨k + 1, HLT.out, rfl, rfl, HRW.out.1, HRW.out.2⟩
      case measure => have := HLT.out; omega
    · have t7 : decide (k < n) = false := decide_eq_false hlt
      have t7' : decide ((k : Int) < n) = false := decide_eq_false (by omega)
      obtain rfl : k = n := by omega
      have HLW : Hid (Whole wr w.heap.size 3 (icells L)) := Lib.hid (by
        have h := hW
        rw [← HN.out, filledI_all] at h
        exact h)
      have HS0 := Lib.hid (HSI.out wr hB)
      clear hlt hk hW hB hsz
      go_wp2_with fail
      refine HS0.out.mono ?_; rintro e w4 ⟨rfl, hw4⟩
      obtain rfl := hw4.symm
      clear hw4
      obtain ⟨w4, hw4⟩ : ∃ W, W = wr := ⟨_, rfl⟩
      subst hw4
      go_wp2_with fail
      have HB4 := Lib.hid (show Below w.heap.size w w4 from HB.out)
      go_loopg [27, 5] m (fun g y ev wr => ∃ j, j ≤ m ∧ g = m - j ∧ y = .int .i64 (j : Nat) ∧ wr.ownsRow w4.heap.size 3 1 ev (2 * j) (intCells (endsL (S.take j))) ∧ Below w4.heap.size w4 wr)
      case atStart => exact ⟨0, Nat.zero_le _, rfl, rfl, World.ownsRow_nil _ _ _ 1, Below.refl _ _⟩
      case round =>
        obtain ⟨j, hj, rfl, rfl, hown, hB⟩ := hrel
        obtain ⟨Ae, ce, rfl⟩ := own_form hown
        have HBJ := Lib.hid hB; have HO := Lib.hid hown
        have hB0 : Below w.heap.size w wr := HB4.out.trans (hB.mono HB4.out.size)
        by_cases hlt : j < m
        · have t8 : decide (j < m) = true := decide_eq_true hlt
          have t8' : decide ((j : Int) < m) = true := decide_eq_true (by omega)
          have HK := Lib.hid hlt
          obtain ⟨x, y, hx⟩ : ∃ x y, S.getD j (0, 0) = (x, y) := ⟨_, _, rfl⟩
          have ED : Hid (Calls Tryz.prog 32 #[pv, .int .i64 j] wr fun e w' => e = .returned (.tuple #[.agg #[.int .i64 x, .int .i64 y], .bool true]) ∧ Below wr.heap.size wr w') := Lib.hid (by
            have h := HED.out wr hB0 j hlt
            rw [hx] at h
            exact h)
          have HX := Lib.hid hx
          have hj1 : 2 * j ≤ 1000 := by omega
          clear hlt hB hx hown hB0
          go_wp2_with fail
          refine ED.out.mono ?_; rintro e w5 ⟨rfl, hb5⟩
          have hB5 := HBJ.out.trans (hb5.mono HBJ.out.size)
          have ho5 := own_below HO.out hb5 (Nat.le_refl _)
          have hB6 := hB5.alloc hB5.size (.cells #[.int .i64 x, .int .i64 y] 64)
          have hB7 := hB6.alloc hB6.size (.cells #[.int .i64 x, .int .i64 y] 3)
          have ho7 := (ho5.alloc (.cells #[.int .i64 x, .int .i64 y] 64)).alloc (.cells #[.int .i64 x, .int .i64 y] 3)
          have hn2 := seq_two (w := w5.alloc (.cells #[.int .i64 x, .int .i64 y] 64)) 3 x y
          rw [World.size_alloc] at hn2
          have hs7 := hB7.size
          have HO7 := Lib.hid ho7; have HB7 := Lib.hid hB7; have HN2 := Lib.hid hn2
          clear hb5 hB5 ho5 hB6 hB7 ho7 hn2
          go_wp2_with (at_builtin; refine wpList_appInts _ rfl _ _ 33 rfl w4.heap.size i0 Tryz.underlying33 hi hiz hi1 hi2 _ (2 * j) _ rfl HO7.out _ [x, y] rfl HN2.out (by simp; omega) hs7 ?_)
          intro A9 c9 w9 hown9 hgrow9
          have HB9 := Lib.hid (hgrow9.below HO7.out HB7.out (Nat.le_refl _) hs7)
          have HO9 := Lib.hid hown9
          clear hown9 hgrow9
          go_wp2_with fail
          go_roundg (m - (j + 1))
          case rel =>
            refine ⟨j + 1, HK.out, rfl, rfl, ?_, HB9.out⟩
            rw [take_snoc (d := (0, 0)) (by rw [HM.out]; exact HK.out), HX.out, endsL_snoc, intCells_app]
            exact HO9.out
          case measure => have := HK.out; omega
        · have t8 : decide (j < m) = false := decide_eq_false hlt
          have t8' : decide ((j : Int) < m) = false := decide_eq_false (by omega)
          obtain rfl : j = m := by omega
          have hoe : wr.ownsRow w4.heap.size 3 1 (.slice Ae (2 * j) ce) (2 * j) (intCells (endsL S)) := by
            have h := hown
            rwa [List.take_of_length_le (by rw [HM.out]; exact Nat.le_refl _)] at h
          have hbW := (Below.refl wr.heap.size wr).alloc (Nat.le_refl _) (.cells #[.slice none 0 0, .nilIface] 68)
          have hBW : Below w.heap.size w (wr.alloc (.cells #[.slice none 0 0, .nilIface] 68)) := hB0.trans (hbW.mono hB0.size)
          have HWN := writer_new wr wr.heap.size (Nat.le_refl _)
          obtain ⟨g, hg⟩ : ∃ g, wr.heap.size = g := ⟨_, rfl⟩
          have hgw : w.heap.size ≤ g := by rw [← hg]; exact hB0.size
          have hSL : ∀ W, Below g wr W → SeqV W (.slice (some ⟨w.heap.size, 0, none⟩) k k) L := fun W hb => by
            have h := (HLW.out.below hB HLW.out.lt)
            exact seq_icells (h.below hb (by rw [← hg]; exact h.lt)) k k HN.out.symm
          have hSE : ∀ W, Below g wr W → SeqV W (.slice Ae (2 * j) ce) (endsL S) := fun W hb => (own_seq hoe).below hb (Nat.le_of_eq hg)
          rw [hg] at hbW HWN
          obtain ⟨W1, hW1⟩ : ∃ W, wr.alloc (.cells #[.slice none 0 0, .nilIface] 68) = W := ⟨_, rfl⟩
          rw [hW1] at hbW HWN hBW
          have hkk : ∀ W, Below g wr W → IntsV W (.slice (some ⟨w.heap.size, 0, none⟩) k k) k (fun i => L.getD i 0) := fun W hb => by
            have h := hSL W hb
            unfold SeqV at h
            rwa [HN.out] at h
          have hel : (endsL S).length = 2 * j := by rw [endsL_len, HM.out]
          have hee : ∀ W, Below g wr W → IntsV W (.slice Ae (2 * j) ce) (2 * j) (fun i => (endsL S).getD i 0) := fun W hb => by
            have h := hSE W hb
            unfold SeqV at h
            rwa [hel] at h
          have C1 := Lib.hid (wlist_any g g k (fun i => L.getD i 0) _ [] none W1 HWN (hkk W1 hbW) (Or.inr fun W' hb => hkk W' (hbW.trans hb)) (by simp) hn)
          have HKE := Lib.hid hee; have HBW1 := Lib.hid hbW; have HGW := Lib.hid hgw; have HBB := Lib.hid hBW; have HEL := Lib.hid hel
          have hj2 : 2 * j ≤ 1000 := by omega
          have hgs : g ≤ W1.heap.size := by rw [← hW1, ← hg]; simp
          have HGS := Lib.hid hgs
          have HJ := Lib.hid hj2
          have HW1 := Lib.hid hW1; have HG := Lib.hid hg
          clear hlt hj hown hB hB0 hoe hbW hBW HWN hg hgw hSL hSE hW1 hkk hee hel hgs
          go_upto_region 15 with fail
          rw [HW1.out, HG.out]
          go_wp2_with fail
          refine C1.out.mono ?_; rintro e w5 ⟨rfl, hW5, hb5⟩
          have HB5 := Lib.hid (HBW1.out.trans hb5)
          have hl5 : ([] ++ be 4 k ++ numsB (fun i => L.getD i 0) k).length ≤ 900000 := by simp [be_len, numsB_len]; omega
          have C2 := Lib.hid (wlist_any g g (2 * j) (fun i => (endsL S).getD i 0) _ _ _ w5 hW5 (HKE.out w5 (HBW1.out.trans hb5)) (Or.inr fun W' hb => HKE.out W' ((HBW1.out.trans hb5).trans hb)) hl5 HJ.out)
          have HS5 := Lib.hid (Nat.le_trans HGS.out hb5.size)
          have HX5 := Lib.hid (HBB.out.trans (hb5.mono HGW.out))
          clear hW5 hb5 hl5
          go_wp2_with fail
          refine C2.out.mono ?_; rintro e w6 ⟨rfl, hW6, hb6⟩
          have hbd : ([] ++ be 4 k ++ numsB (fun i => L.getD i 0) k ++ be 4 (2 * j) ++ numsB (fun i => (endsL S).getD i 0) (2 * j)) = bodyB L S := by
            unfold bodyB listB
            rw [HN.out, HEL.out]
            simp
          rw [hbd] at hW6
          have hlb : (bodyB L S).length ≤ 100000 := by unfold bodyB; rw [List.length_append, listB_len, listB_len, HN.out, HEL.out]; omega
          have C3 := Lib.hid (wbytes_any g g (bodyB L S) _ w6 hW6 (by omega))
          have HLB := Lib.hid hlb
          have HX6 := Lib.hid (HX5.out.trans (hb6.mono HGW.out))
          clear hW6 hb6 hbd hlb
          go_wp2_with fail
          refine C3.out.mono ?_; rintro e w7 ⟨v7, rfl, ho7, hb7⟩
          have HX7 := Lib.hid (HX6.out.trans (hb7.mono HX6.out.size))
          have C4 := Lib.hid (pack_any 1 (bodyB L S) v7 w7 (own_bytesV ho7) (by have := HLB.out; omega))
          clear ho7 hb7
          go_wp2_with fail
          refine C4.out.mono ?_; rintro e w8 ⟨v8, rfl, ho8, hb8⟩
          have HX8 := Lib.hid (HX7.out.trans (hb8.mono HX7.out.size))
          have HO8 := Lib.hid (own_base ho8 HX7.out.size)
          clear ho8 hb8
          go_wp2_with fail
          go_ret
          refine ⟨_, rfl, ?_, HX8.out⟩
          have h := HO8.out
          rw [show (packB L S).length = (bodyB L S).length + 13 from parcel_len 1 _]
          exact h
end

section
open Go.RowKit

theorem sort_ris (E : List (Int × Int)) : ((sortE E).map ris).Perm (E.map ris) := by
  have h := (sortE_perm _ E rfl).map ris
  rwa [List.map_map, show (ris ∘ ris) = ris from funext ris_ris] at h
theorem sort_again {L : List Int} {E : List (Int × Int)} (h : newFault L E = none) : newFault L (sortE E) = none ∧ sortE (sortE E) = sortE E := by
  obtain ⟨h1, h2, h3, h4⟩ := newFault_none.1 h
  exact ⟨newFault_none.2 ⟨h1, by rw [sortE_len]; exact h2, h3, good_perm h4 (sort_ris E)⟩, sort_perm h4 (sort_ris E)⟩
theorem small_of {L : List Int} {E : List (Int × Int)} (h : newFault L E = none) : Small L E := by
  obtain ⟨h1, h2, h3, h4⟩ := newFault_none.1 h
  refine ⟨by omega, by omega, fun x hx => ?_, fun e he => ?_⟩
  · have := h3 x hx
    omega
  · have := h4.2 e he
    omega
theorem small_sort {L : List Int} {E : List (Int × Int)} (h : newFault L E = none) : Small L (sortE E) := small_of (sort_again h).1
theorem load_graph {L : List Int} {S : List (Int × Int)} (h : newFault L S = none) : loadT (graphT L S) = .inr ⟨L, S⟩ := by
  have hs := small_of h
  unfold loadT
  rw [text_graph (by have := hs.n; omega) hs.l hs.s]
  simp only
  rw [h]
theorem graph_len {L : List Int} {S : List (Int × Int)} (h : newFault L S = none) : (graphT L S).length ≤ 18 * L.length + 18 * S.length := by
  have hs := small_of h
  exact graphT_len (by have := hs.n; omega) (fun x hx => by have := (hs.l x hx).2; omega) (fun x hx => by have := hs.s x hx; omega)
/-! ### Parcels -/
theorem numsB_split (Z : Nat → Int) : ∀ (n i : Nat), i < n → ∃ r, numsB Z n = numsB Z i ++ (numB (Z i) ++ r)
  | 0, i, h => absurd h (Nat.not_lt_zero i)
  | n + 1, i, h => by
    rcases Nat.lt_or_ge i n with h1 | h1
    · obtain ⟨r, hr⟩ := numsB_split Z n i h1
      exact ⟨r ++ numB (Z n), by show numsB Z n ++ numB (Z n) = _; rw [hr]; simp⟩
    · obtain rfl : i = n := by omega
      exact ⟨[], by show numsB Z i ++ numB (Z i) = _; simp⟩
theorem sub_mid (a b c : List UInt8) (p n : Nat) (hp : p = a.length) (hn : n = b.length) : sub (a ++ (b ++ c)) p n = b := by
  subst hp hn
  unfold sub
  rw [← List.append_assoc, List.take_left' (by simp), List.drop_left' rfl]
theorem num_numB {x : Int} (h : 0 ≤ x ∧ x < 4294967296) : ((num (numB x) : Nat) : Int) = x := by
  unfold numB
  rw [show fitsN x = true from decide_eq_true (by omega), if_pos rfl, num_be]
  rw [Nat.mod_eq_of_lt (by have : (256 : Nat) ^ 4 = 4294967296 := by decide
                           omega)]
  omega
theorem listAt_list {a r : List UInt8} {L : List Int} {most : Nat} (hm : L.length ≤ most) (hL : ∀ x ∈ L, 0 ≤ x ∧ x < 4294967296) (hs : L.length < 4294967296) : listAt (a ++ (listB L ++ r)) a.length most = some (L, a.length + 4 + 4 * L.length) := by
  have hl : (a ++ (listB L ++ r)).length = a.length + (4 + 4 * L.length) + r.length := by rw [List.length_append, List.length_append, listB_len]; omega
  have hn : num (sub (a ++ (listB L ++ r)) a.length 4) = L.length := by
    unfold listB
    rw [List.append_assoc, sub_mid a (be 4 L.length) _ a.length 4 rfl (be_len _ _).symm, num_be]
    exact Nat.mod_eq_of_lt hs
  unfold listAt
  rw [hn, if_pos ⟨by omega, hm, by omega⟩]
  congr 2
  apply List.ext_getElem
  · simp
  · intro i h1 h2
    rw [List.getElem_map, List.getElem_range]
    obtain ⟨q, hq⟩ := numsB_split (fun i => L.getD i 0) L.length i h2
    have e : a ++ (listB L ++ r) = (a ++ (be 4 L.length ++ numsB (fun i => L.getD i 0) i)) ++ (numB (L.getD i 0) ++ (q ++ r)) := by
      unfold listB
      rw [hq]
      simp
    rw [e, sub_mid _ _ _ _ 4 (by rw [List.length_append, List.length_append, be_len, numsB_len]; omega) (numB_len _).symm]
    have hx : L.getD i 0 = L[i] := by simp [List.getD, h2]
    rw [hx]
    exact num_numB (hL _ (List.getElem_mem h2))
theorem body_lists {L X : List Int} (hL : L.length ≤ 4096) (hX : X.length ≤ 32768) (h1 : ∀ x ∈ L, 0 ≤ x ∧ x < 4294967296) (h2 : ∀ x ∈ X, 0 ≤ x ∧ x < 4294967296) : bodyG (listB L ++ listB X) = if X.length % 2 = 0 ∧ newFault L (pairsL X) = none then some ⟨L, pairsL X⟩ else none := by
  have a := listAt_list (a := []) (r := listB X) hL h1 (by omega)
  have b := listAt_list (a := listB L) (r := []) hX h2 (by omega)
  rw [List.append_nil] at b
  simp only [List.nil_append, List.length_nil] at a
  unfold bodyG
  rw [a]
  simp only
  rw [show 0 + 4 + 4 * L.length = (listB L).length by simp only [listB_len], b]
  simp only
  have hq : (listB L).length + 4 + 4 * X.length = (listB L ++ listB X).length := by simp only [List.length_append, listB_len]; omega
  by_cases h : X.length % 2 = 0 ∧ newFault L (pairsL X) = none
  · rw [if_pos ⟨hq, h⟩, if_pos h]
  · rw [if_neg (fun k => h k.2), if_neg h]
theorem pairs_cons (x y : Int) (t : List Int) : pairsL (x :: y :: t) = (x, y) :: pairsL t := by
  unfold pairsL
  rw [show (x :: y :: t).length / 2 = t.length / 2 + 1 by simp only [List.length_cons]; omega, List.range_succ_eq_map, List.map_cons, List.map_map]
  congr 1
theorem pairs_ends : ∀ S : List (Int × Int), pairsL (endsL S) = S
  | [] => rfl
  | e :: t => by
    show pairsL (e.1 :: e.2 :: endsL t) = _
    rw [pairs_cons, pairs_ends t]
theorem ends_mem {S : List (Int × Int)} (h : ∀ e ∈ S, (0 ≤ e.1 ∧ e.1 ≤ 999999) ∧ 0 ≤ e.2 ∧ e.2 ≤ 999999) : ∀ x ∈ endsL S, 0 ≤ x ∧ x < 4294967296 := by
  intro x hx
  unfold endsL at hx
  obtain ⟨e, he, hxe⟩ := List.mem_flatMap.1 hx
  have := h e he
  simp only [List.mem_cons, List.not_mem_nil, or_false] at hxe
  rcases hxe with rfl | rfl <;> omega
theorem prefix_parcel (k : UInt8) (l : List UInt8) : markB.isPrefixOf (parcel k l) = true := by
  rw [List.isPrefixOf_iff_prefix]
  have h := (phead_parts k l).1
  refine ⟨(parcel k l).drop 4, ?_⟩
  have e : (parcel k l).take 4 = markB := by
    have := take_pre k l (be 4 (asum (phead k l))) 4 (by decide)
    rw [h] at this
    exact this
  rw [← e, List.take_append_drop]
theorem bytes_parcel (k : UInt8) (l : List UInt8) (hl : l.length < 4294967296) : bytesG (parcel k l) = if k = 1 then bodyG l else none := by
  unfold bytesG
  rw [up_parcel k l hl]
  simp only
  rw [parcel_kind, parcel_body]
theorem bytes_pack {L : List Int} {S : List (Int × Int)} (h : newFault L S = none) : bytesG (packB L S) = some ⟨L, S⟩ := by
  have hs := small_of h
  obtain ⟨h1, h2, _⟩ := newFault_none.1 h
  have hl : (bodyB L S).length < 4294967296 := by unfold bodyB; rw [List.length_append, listB_len, listB_len, endsL_len]; omega
  unfold packB
  rw [bytes_parcel 1 _ hl, if_pos rfl]
  unfold bodyB
  rw [body_lists h1 (by rw [endsL_len]; omega) (fun x hx => by have := hs.l x hx; omega) (ends_mem hs.s), pairs_ends, if_pos ⟨by rw [endsL_len]; omega, h⟩]
theorem pack_len (L : List Int) (S : List (Int × Int)) : (packB L S).length = 21 + 4 * L.length + 8 * S.length := by
  unfold packB bodyB
  rw [parcel_len, List.length_append, listB_len, listB_len, endsL_len]
  omega
/-- What a parcel tells is a graph, and no other is as long. -/
theorem bytes_some {b : List UInt8} {d : Dr} (h : bytesG b = some d) : newFault d.l d.e = none ∧ b.length = (packB d.l d.e).length ∧ markB.isPrefixOf b = true := by
  unfold bytesG at h
  cases hu : up b with
  | some c => rw [hu] at h; cases h
  | none =>
    rw [hu] at h
    simp only at h
    split at h
    · obtain ⟨h13, hb⟩ := up_none hu
      refine ⟨?_, ?_, by rw [hb]; exact prefix_parcel _ _⟩
      · unfold bodyG at h
        split at h
        · cases h
        · split at h
          · cases h
          · split at h
            · rename_i hc
              injection h with h
              rw [← h]; exact hc.2.2
            · cases h
      · obtain ⟨l, hl⟩ : ∃ l, (b.take (b.length - 4)).drop 9 = l := ⟨_, rfl⟩
        have hll : l.length = b.length - 13 := by rw [← hl, List.length_drop, List.length_take]; omega
        rw [hl] at h
        unfold bodyG at h
        split at h
        · cases h
        · rename_i L p hL
          split at h
          · cases h
          · rename_i X q hX
            split at h
            · rename_i hc
              injection h with h
              rw [← h, pack_len, pairsL_len]
              unfold listAt at hL hX
              split at hL
              · split at hX
                · injection hL with hL
                  injection hL with e1 e2
                  injection hX with hX
                  injection hX with e3 e4
                  have l1 : L.length = num (sub l 0 4) := by rw [← e1]; simp
                  have l2 : X.length = num (sub l p 4) := by rw [← e3]; simp
                  simp only
                  omega
                · cases hX
              · cases hL
            · cases h
    · cases h
end

section
open Go.RowKit

theorem eg_good : graphT [5, 5] [(0, 1)] = [118, 32, 48, 32, 53, 10, 118, 32, 49, 32, 53, 10, 101, 32, 48, 32, 49, 10] := by kernel_rfl
theorem eg_head : graphT [5] [] ++ [118, 32, 49, 32, 53] = [118, 32, 48, 32, 53, 10, 118, 32, 49, 32, 53] := by kernel_rfl
theorem eg_load : loadT [118, 32, 48, 32, 53, 10, 118, 32, 49, 32, 53, 10, 101, 32, 48, 32, 49, 10] = .inr ⟨[5, 5], [(0, 1)]⟩ := by
  rw [← eg_good]
  exact load_graph (by decide)
theorem eg_bad : loadT [118, 32, 48, 32, 53, 10, 118, 32, 49, 32, 53] = .inl 1 := by
  rw [← eg_head]
  unfold loadT
  rw [textD_runs (runs_graph [118, 32, 49, 32, 53] (by decide) (by decide) (by decide)), runD_line (by decide) (Or.inl (by unfold endsF; rw [cut_no (by decide)]))]
  rfl
theorem eg_sort : sortE [(0, 1)] = [(0, 1)] := by decide
set_option maxRecDepth 100000 in
set_option maxHeartbeats 4000000 in
theorem alive5 (w : World) (hg : GT w) : Calls Tryz.prog 7 #[] w fun e w' => e = .returned (.bool true) ∧ Below w.heap.size w w' := by
  have L1 := Lib.hid (show Calls Tryz.prog 16 #[.string ⟨#[118, 32, 48, 32, 53, 10, 118, 32, 49, 32, 53, 10, 101, 32, 48, 32, 49, 10]⟩] w (LoadTo [118, 32, 48, 32, 53, 10, 118, 32, 49, 32, 53, 10, 101, 32, 48, 32, 49, 10] w) from load_any _ (by decide) w hg)
  have HG := Lib.hid hg
  clear hg
  go_enter Tryz.func7, Tryz.ntmps7
  go_wp2_with fail
  refine L1.out.mono ?_; rintro e w1 ⟨hb1, ⟨p, u, hn, _⟩ | ⟨d, g, hn, _, rfl, hgo⟩⟩
  · rw [eg_load] at hn
    cases hn
  rw [eg_load] at hn
  obtain rfl := Sum.inr.inj hn
  simp only at hgo
  rw [eg_sort] at hgo
  have HB1 := Lib.hid hb1; have HGO := Lib.hid hgo
  have L2 := Lib.hid (show Calls Tryz.prog 16 #[.string ⟨#[118, 32, 48, 32, 53, 10, 118, 32, 49, 32, 53]⟩] w1 (LoadTo [118, 32, 48, 32, 53, 10, 118, 32, 49, 32, 53] w1) from load_any _ (by decide) w1 (HG.out.below hb1 (Nat.le_refl _)))
  clear hb1 hgo hn
  go_wp2_with fail
  refine L2.out.mono ?_; rintro e w2 ⟨hb2, ⟨p, u, hn, rfl, hf⟩ | ⟨d, g, hn, _⟩⟩
  case inr =>
    rw [eg_bad] at hn
    cases hn
  rw [eg_bad] at hn
  obtain rfl := Sum.inl.inj hn
  have HB2 := Lib.hid (HB1.out.trans (hb2.mono HB1.out.size))
  have hg2 := HGO.out.below hb2 (Nat.le_refl _)
  have LE := Lib.hid (len_any hg2)
  have SZ := Lib.hid (size_any hg2)
  have CO := Lib.hid (code_f7 hf (HG.out.below HB2.out (Nat.le_refl _)).et)
  have AT := Lib.hid (fun W hb => at_f (hf.below (w' := W) hb (Nat.le_refl _)) (HG.out.below (HB2.out.trans (hb.mono HB2.out.size)) (Nat.le_refl _)).et)
  obtain ⟨fb, rfl⟩ := hf.form
  clear hb2 hn hf hg2
  go_wp2_with fail
  refine LE.out.mono ?_; rintro e w3 ⟨rfl, hw⟩; obtain rfl := hw.symm; clear hw
  go_wp2_with fail
  refine SZ.out.mono ?_; rintro e w3 ⟨rfl, hw⟩; obtain rfl := hw.symm; clear hw
  go_wp2_with fail
  refine CO.out.mono ?_; rintro e w3 ⟨rfl, hb3⟩
  have AT3 := Lib.hid (AT.out w3 hb3)
  have HB3 := Lib.hid (HB2.out.trans (hb3.mono HB2.out.size))
  clear hb3
  go_wp2_with fail
  refine AT3.out.mono ?_; rintro e w4 ⟨rfl, hb4⟩
  have HB4 := Lib.hid (HB3.out.trans (hb4.mono HB3.out.size))
  clear hb4
  go_wp2_with fail
  go_ret
  exact ⟨rfl, HB4.out⟩
end
end Go.Proofs.YtnjkjgmnnmgngaaGreatDoor
