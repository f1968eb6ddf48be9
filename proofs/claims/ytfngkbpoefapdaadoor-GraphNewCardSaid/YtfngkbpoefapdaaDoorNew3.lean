/- graph.New, whole. -/
import Derived.Test.YtfngkbpoefapdaaDoorBuild4
namespace Go.Proofs.YtfngkbpoefapdaaDoor
open Go.RowKit

theorem graph_new (L : List Int) (E : List (Int × Int)) (vl ve : Value) (w : World) (hl : SeqV w vl L) (he : EdgesV w ve E) (hE : ∀ e, e ∈ E → In64 e.1 ∧ In64 e.2) (hm : L.length ≤ 9223372036854775807) (hm2 : E.length ≤ 9223372036854775807) :
    Calls Tryd.prog 9 #[vl, ve] w (NewTo L E w) := by
  by_cases h : 4096 < L.length ∨ 16384 < E.length
  · exact new_large L E vl ve w hl he h hm hm2
  · exact graphNew_any L E vl ve w hl he hE (by omega) (by omega) (fun W base A c hb ho hv hg => build_any L E L.length E.length ve W base A c rfl rfl (by omega) (by omega) hb ho hv hg)
end Go.Proofs.YtfngkbpoefapdaaDoor
