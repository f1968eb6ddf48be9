/- conf: Text. Written by gen_text22.py. -/
import Derived.Test.YtbbdammdiplagaaGreatDoorConfR
import Derived.Test.YtbbdammdiplagaaGreatDoorText17
namespace Go.Proofs.YtbbdammdiplagaaGreatDoor
open Go.RowKit

/-- A line of a text. -/
def lineB (wd v : List UInt8) : List UInt8 := wd ++ 32 :: (v ++ [10])
def decB (n : Int) : List UInt8 := Lib.decDigits n.toNat
/-- The text of what is asked. -/
def confT (x : CK) : List UInt8 := lineB wJob (kname x.c.kind) ++ (lineB wSize (decB x.c.size) ++ ((if x.c.kind = 3 then lineB wSup (decB x.c.sup) else []) ++ ((if x.o.length = 0 then [] else lineB wKeep (progT x.o)) ++ (lineB wWork (decB x.c.work) ++ lineB wCap (decB x.c.cap)))))
theorem byteCells_str2 (l m : List UInt8) : Lib.byteCells l ++ Lib.strCells (str m) = Lib.byteCells (l ++ m) := by
  simp [Lib.byteCells, Lib.strCells, str]
/-- A line written. -/
def LineTo (B b : Nat) (l wd v : List UInt8) (w : World) (e : Ending) (w' : World) : Prop :=
  e = .returned (.tuple #[]) ∧ Lib.IsBuilder 71 5 B b (Lib.byteCells (l ++ lineB wd v)) w' ∧ Below B w w' ∧ TF w w'
set_option maxRecDepth 100000 in
set_option maxHeartbeats 2000000 in
theorem line_any (B b : Nat) (l wd v : List UInt8) (w : World) (h : Lib.IsBuilder 71 5 B b (Lib.byteCells l) w) (h1 : l.length ≤ 1000000) (h2 : wd.length ≤ 1000) (h3 : v.length ≤ 1000000) (hB : B ≤ w.heap.size) :
    Calls Tryz.prog 29 #[.string (str wd), .string (str v), .pointer (some ⟨b, 0, none⟩)] w (LineTo B b l wd v w) := by
  have W0 := writeString_any B b (Lib.byteCells l) (((str wd ++ ⟨#[32]⟩) ++ str v) ++ ⟨#[10]⟩) w h (by rw [Lib.byteCells_length, show (⟨#[32]⟩ : ByteArray) = str [32] from rfl, show (⟨#[10]⟩ : ByteArray) = str [10] from rfl, str_append, str_append, str_append, str_size]; simp; omega) hB
  have hst : Lib.byteCells l ++ Lib.strCells (((str wd ++ ⟨#[32]⟩) ++ str v) ++ ⟨#[10]⟩) = Lib.byteCells (l ++ lineB wd v) := by
    rw [show (⟨#[32]⟩ : ByteArray) = str [32] from rfl, show (⟨#[10]⟩ : ByteArray) = str [10] from rfl, str_append, str_append, str_append, byteCells_str2]
    unfold lineB
    simp
  rw [hst] at W0
  have z1 : (str wd).size ≤ 1000 := h2
  have z2 : (str v).size ≤ 1000000 := h3
  generalize str wd = sw at *
  generalize str v = sv at *
  have n1 : ¬ 9223372036854775807 < sw.size + 1 := by omega
  have n2 : ¬ 9223372036854775807 < sw.size + (⟨#[32]⟩ : ByteArray).size := by show ¬ _ < _ + 1; omega
  have n3 : ¬ 9223372036854775807 < sw.size + 1 + sv.size := by omega
  have n4 : ¬ 9223372036854775807 < (sw ++ (⟨#[32]⟩ : ByteArray)).size + sv.size := by rw [ByteArray.size_append]; show ¬ _ < _ + 1 + _; omega
  have n5 : ¬ 9223372036854775807 < sw.size + 1 + sv.size + 1 := by omega
  have n6 : ¬ 9223372036854775807 < ((sw ++ (⟨#[32]⟩ : ByteArray)) ++ sv).size + (⟨#[10]⟩ : ByteArray).size := by rw [ByteArray.size_append, ByteArray.size_append]; show ¬ _ < _ + 1 + _ + 1; omega
  have HW0 := Lib.hid W0
  clear W0 hst h h1 h2 h3 hB
  go_enter Tryz.func29, Tryz.ntmps29
  go_wp2_with fail
  refine HW0.out.mono ?_; rintro e w1 ⟨rfl, hI, hb, htf⟩
  have HE := Lib.hid (show LineTo B b l wd v w (.returned (.tuple #[])) w1 from ⟨rfl, hI, hb, htf⟩)
  clear hI hb htf n1 n2 n3 n4 n5 n6
  go_wp2_with fail
  refine bodyPost_end (results_none rfl _ _ _) rfl ?_
  exact HE.out
end Go.Proofs.YtbbdammdiplagaaGreatDoor
