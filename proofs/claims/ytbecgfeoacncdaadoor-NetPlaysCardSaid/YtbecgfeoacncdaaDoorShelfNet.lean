/- Contracts of the library at this program, out of the shelf. -/
import Derived.Shelf.SlicesE.Clone
import Derived.Ground.SlgnProg
import Derived.Shelf.SlMaps.Clone
import Derived.Ground.SlmcProg
import Derived.Test.YtbecgfeoacncdaaDoorProg
namespace Go.Proofs
open Go.Shelf
def Tryd.cloneLet_ren : Go.Shelf.Ren := ⟨fun | 41 => 28 | n => n, fun | 22 => 40 | 23 => 50 | 4 => 4 | n => n, fun | n => n⟩
theorem Tryd.cloneLet : Go.Proofs.SlLaysE0.n41 Tryd.prog Tryd.cloneLet_ren := {
  mixed := by kernel_rfl
  f41 := ⟨Tryd.f28.name, by decide, Tryd.func28.trans (congrArg some (by kernel_rfl))⟩
  t4 := Tryd.underlying4
  a4 := Tryd.isAgg4
  z4 := Tryd.sizeOf4
  v4 := Tryd.zeroValue4
  t22 := Tryd.underlying40
  a22 := Tryd.isAgg40
  z22 := Tryd.sizeOf40
  v22 := Tryd.zeroValue40 }
def Tryd.cloneSent_ren : Go.Shelf.Ren := ⟨fun | 5 => 32 | 7 => 35 | n => n, fun | 23 => 64 | 25 => 70 | 3 => 3 | 4 => 4 | 20 => 20 | n => n, fun | n => n⟩
theorem Tryd.cloneSent : Go.Proofs.SlLaysW.n5 Tryd.prog Tryd.cloneSent_ren := {
  mixed := by kernel_rfl
  f5 := ⟨Tryd.f32.name, by decide, Tryd.func32.trans (congrArg some (by kernel_rfl))⟩
  f7 := Tryd.func35.trans (congrArg some (by kernel_rfl))
  t4 := Tryd.underlying4
  a4 := Tryd.isAgg4
  z4 := Tryd.sizeOf4
  v4 := Tryd.zeroValue4
  t20 := Tryd.underlying20
  a20 := Tryd.isAgg20
  z20 := Tryd.sizeOf20
  v20 := Tryd.zeroValue20
  t23 := Tryd.underlying64
  a23 := Tryd.isAgg64
  z23 := Tryd.sizeOf64
  v23 := Tryd.zeroValue64 }
def Tryd.cloneCame_ren : Go.Shelf.Ren := ⟨fun | 5 => 33 | 7 => 35 | n => n, fun | 23 => 65 | 25 => 73 | 3 => 50 | 4 => 4 | 20 => 20 | n => n, fun | n => n⟩
theorem Tryd.cloneCame : Go.Proofs.SlLaysW.n5 Tryd.prog Tryd.cloneCame_ren := {
  mixed := by kernel_rfl
  f5 := ⟨Tryd.f33.name, by decide, Tryd.func33.trans (congrArg some (by kernel_rfl))⟩
  f7 := Tryd.func35.trans (congrArg some (by kernel_rfl))
  t4 := Tryd.underlying4
  a4 := Tryd.isAgg4
  z4 := Tryd.sizeOf4
  v4 := Tryd.zeroValue4
  t20 := Tryd.underlying20
  a20 := Tryd.isAgg20
  z20 := Tryd.sizeOf20
  v20 := Tryd.zeroValue20
  t23 := Tryd.underlying65
  a23 := Tryd.isAgg65
  z23 := Tryd.sizeOf65
  v23 := Tryd.zeroValue65 }
end Go.Proofs
