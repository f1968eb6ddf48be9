/- Contracts of the library at this program, out of the shelf. -/
import Derived.Shelf.SlicesE.Clone
import Derived.Ground.SlgnProg
import Derived.Test.YtlopoddllfkkfaaDoorProg
namespace Go.Proofs
open Go.Shelf
def Tryd.cloneLet_ren : Go.Shelf.Ren := ⟨fun | 41 => 47 | n => n, fun | 22 => 78 | 23 => 83 | 4 => 4 | n => n, fun | n => n⟩
theorem Tryd.cloneLet : Go.Proofs.SlLaysE0.n41 Tryd.prog Tryd.cloneLet_ren := {
  mixed := by kernel_rfl
  f41 := ⟨Tryd.f47.name, by decide, Tryd.func47.trans (congrArg some (by kernel_rfl))⟩
  t4 := Tryd.underlying4
  a4 := Tryd.isAgg4
  z4 := Tryd.sizeOf4
  v4 := Tryd.zeroValue4
  t22 := Tryd.underlying78
  a22 := Tryd.isAgg78
  z22 := Tryd.sizeOf78
  v22 := Tryd.zeroValue78 }
end Go.Proofs
