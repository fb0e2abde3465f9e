/- A change's readers: is the reservation taken over. -/
import Derived.Test.YthedonkjnfeajaaDoorReD
namespace Go.Proofs.YthedonkjnfeajaaDoor
open Go.RowKit
def takesB (t : Tl) (m : Cm) : Bool := if t.ty = 0 then false else if shB t.ty then decide (m.ot = 0) else decide (keyR t.rs t.ho = m.ot)
abbrev hoC (t : Tl) : Array Value := #[.int .i64 t.ty, .string t.ho]
end Go.Proofs.YthedonkjnfeajaaDoor
