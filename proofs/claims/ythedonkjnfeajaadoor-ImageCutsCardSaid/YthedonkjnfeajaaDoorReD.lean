/- A change's readers: is who asks registered, is the reservation taken over. -/
import Derived.Test.YthedonkjnfeajaaDoorReC
namespace Go.Proofs.YthedonkjnfeajaaDoor
open Go.RowKit
def regdB (t : Tl) (m : Cm) : Bool := (m.ke != 0) && (m.ke == keyR t.rs m.ho)
end Go.Proofs.YthedonkjnfeajaaDoor
