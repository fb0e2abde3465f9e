/- The code's Change, List and Keys are what the statements ask of them. -/
import Derived.Test.YtdggipgieanpeaaDoorPrW
import Derived.Test.YtdggipgieanpeaaDoorPrX
namespace Go.Proofs.YtdggipgieanpeaaDoor
open Go.RowKit
theorem code18 {T : World → Prop} (hT : ∀ w w', T w → Below w.heap.size w w' → T w') : Code18 T where
  bel := hT
  change := fun a t s w _ _ _ _ => Pc.change_any a t s w
  list := fun c w _ _ _ _ _ => Pc.list_any c w
  keys := fun g A c l w _ hg hl hc hn => Pc.keys_any g A c l w hg hl hc hn
theorem code18u : Code18 (fun _ => True) := code18 fun _ _ _ _ => trivial
end Go.Proofs.YtdggipgieanpeaaDoor
