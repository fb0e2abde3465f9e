/- The code's four functions are what they must be. -/
import Derived.Test.YthcaeihpdlgcaaaDoorSnQ
import Derived.Test.YthcaeihpdlgcaaaDoorSnT
namespace Go.Proofs.YthcaeihpdlgcaaaDoor
open Go.RowKit
theorem code16 : Code16 RT where
  bel := fun _ _ h hb => h.below hb
  bytes := fun x w _ _ => bytes_any x w
  parse := fun s w _ hs => parse_any s hs w
  off := fun c t u w ht _ _ _ => off_any c t u zR w ht
  code := fun n x w ht _ _ => code_any n x w ht
end Go.Proofs.YthcaeihpdlgcaaaDoor
