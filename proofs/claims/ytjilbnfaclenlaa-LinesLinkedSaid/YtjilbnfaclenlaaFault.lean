/- fault.New, by contract (a seat without errors.As). -/
import Derived.Test.YtjilbnfaclenlaaProg
import Derived.WalkKit
import Derived.LaidEql
import Derived.Stop.Asserts
import Derived.RowKitTokens
import Derived.Handy
namespace Go.Proofs.Ytjilbnfaclenlaa
open Go.RowKit Go.Extern.Stop Go.Stop Go.Extern

theorem new_any (c a : Int) (s : ByteArray) (w : World) :
    Calls Try.prog 41 #[.int .i64 c, .int .i64 a, .string s] w fun e w' => e = .returned (.iface 86 (.pointer (some ⟨w.heap.size, 0, none⟩))) ∧ w.alloc (.cells #[.int .i64 c, .int .i64 a, .string s] 88) = w' := by
  go_enter Try.func41, Try.ntmps41
  go_wp2
  go_ret
  exact ⟨rfl, rfl⟩
end Go.Proofs.Ytjilbnfaclenlaa
