/- fault.New, by contract (a seat without errors.As). -/
import Derived.Test.YtploaffmhemjkaaProg
import Derived.WalkKit
import Derived.LaidEql
import Derived.Stop.Asserts
import Derived.RowKitTokens
import Derived.Handy
namespace Go.Proofs.Ytploaffmhemjkaa
open Go.RowKit Go.Extern.Stop Go.Stop Go.Extern

theorem new_any (c a : Int) (s : ByteArray) (w : World) :
    Calls Try.prog 49 #[.int .i64 c, .int .i64 a, .string s] w fun e w' => e = .returned (.iface 87 (.pointer (some ⟨w.heap.size, 0, none⟩))) ∧ w.alloc (.cells #[.int .i64 c, .int .i64 a, .string s] 89) = w' := by
  go_enter Try.func49, Try.ntmps49
  go_wp2
  go_ret
  exact ⟨rfl, rfl⟩
end Go.Proofs.Ytploaffmhemjkaa
