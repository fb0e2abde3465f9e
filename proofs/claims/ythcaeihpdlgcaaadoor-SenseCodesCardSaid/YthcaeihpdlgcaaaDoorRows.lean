/-
  NARROWER THAN 'FOR EVERY INPUT', by the rows' own cells (each row's printed sentence says how): SenseBytes: laid · SenseOf: laid · SenseBack: laid · SenseCodes: laid.
  DERIVED. THE GIVEN ROWS OF THIS SEAT. 4 by the template 'for every input the law returns true; each argument reads behind the call as it read before'; 0 by the template 'total and deterministic' (their statements: YthcaeihpdlgcaaaDoorTotals.lean).
  GIVEN WITH THE SEED: the statements are not yours to turn. If you find one false, say at which input.
  Laid BY PROGRAM, IN A SANDBOX (cutbox-rows.mjs): the forced cells as the released guide's own fill.sh prints them over the translation 23fefa38cae48961… (all of the seat's roots in one cut). By AI agents, Wed Nov 11 2026. No macro, syntax, notation, axiom, sorry.
-/
import Derived.Test.YthcaeihpdlgcaaaDoorChecked
import GoSem.Claim
import GoSem.ClaimJoined
import GoSem.ClaimMapViews
import Derived.JoinedTies
import Derived.KernelRfl
namespace Go.Proofs.YthcaeihpdlgcaaaDoor
/- THE CELL 'sum', in the pinned program and in every row, IS THE sha256 OF THE DUMP (.gsa) THAT YthcaeihpdlgcaaaDoorProg.lean LOADS. Nothing in Lean hashes anything: it is a label: what it is worth is what the hold of that sum in a sandbox is worth. -/
noncomputable def Tryd.pinned : Pinned := { name := "ythcaeihpdlgcaaadoor", sum := "23fefa38cae48961e9c0316ed579d111158e31324d8be25acb36414d64a03ac7", checked := Tryd.checked }
namespace Rows
def none {H : Type} : Left H := { results := [], args := [] }

/- WHAT THE LISTED PACKAGE-LEVEL VARIABLES READ AS WHEN THE CALL BEGINS. Each datum BY PROGRAM (the guide's laid-datum.mjs) off the statement by which the dump's own 'gosem.cut.vars' lays the variable. In a bare row this is a premise. The card (YthcaeihpdlgcaaaDoorCards.lean) ties it to the program's text. -/
def laid_headgate_sense_rows {H : Type} : DataW H := .agg [.agg [.lit (.int .i64 1), .lit (.int .i64 0), .lit (.int .i64 0), .lit (.int .i64 0), .lit (.int .i64 0), .lit (.int .i64 0)], .agg [.lit (.int .i64 2), .lit (.int .i64 0), .lit (.int .i64 24), .lit (.int .i64 0), .lit (.int .i64 0), .lit (.int .i64 0)], .agg [.lit (.int .i64 3), .lit (.int .i64 0), .lit (.int .i64 2), .lit (.int .i64 14), .lit (.int .i64 29), .lit (.int .i64 0)], .agg [.lit (.int .i64 4), .lit (.int .i64 0), .lit (.int .i64 2), .lit (.int .i64 5), .lit (.int .i64 33), .lit (.int .i64 0)], .agg [.lit (.int .i64 5), .lit (.int .i64 0), .lit (.int .i64 2), .lit (.int .i64 5), .lit (.int .i64 36), .lit (.int .i64 0)], .agg [.lit (.int .i64 6), .lit (.int .i64 0), .lit (.int .i64 2), .lit (.int .i64 5), .lit (.int .i64 37), .lit (.int .i64 0)], .agg [.lit (.int .i64 8), .lit (.int .i64 0), .lit (.int .i64 2), .lit (.int .i64 3), .lit (.int .i64 12), .lit (.int .i64 0)], .agg [.lit (.int .i64 7), .lit (.int .i64 1), .lit (.int .i64 2), .lit (.int .i64 6), .lit (.int .i64 41), .lit (.int .i64 0)], .agg [.lit (.int .i64 7), .lit (.int .i64 2), .lit (.int .i64 2), .lit (.int .i64 6), .lit (.int .i64 42), .lit (.int .i64 5)], .agg [.lit (.int .i64 7), .lit (.int .i64 3), .lit (.int .i64 2), .lit (.int .i64 6), .lit (.int .i64 42), .lit (.int .i64 4)], .agg [.lit (.int .i64 7), .lit (.int .i64 4), .lit (.int .i64 2), .lit (.int .i64 6), .lit (.int .i64 42), .lit (.int .i64 3)]]

/-- 'headgatelaw16.SenseBytes': WHATEVER THE INPUT: true; the input reads as it did. -/
def senseBytesSpec : ChangeSpec := { name := "senseBytes", fn := fun _ => fun
  | [d1, d2] => { results := [.lit (.bool true)], args := [d1, d2] }
  | _ => none }
def senseBytesRow : OpenClaim := { program := "ythcaeihpdlgcaaadoor", sum := "23fefa38cae48961e9c0316ed579d111158e31324d8be25acb36414d64a03ac7", func := "headgate/headgatelaw16.SenseBytes", spec := "senseBytes", unfollowed := true, recurses := true, named := ["headgate/sense.rows"], apart := false, laid := [("headgate/sense.rows", laid_headgate_sense_rows)] }
def SenseBytesSaid : Prop := senseBytesRow.holds Tryd.pinned (OpenSpec.ofChange senseBytesSpec)

/-- ITS FALSE NEIGHBOUR: 'it returns false'. Refute it at one input. -/
def senseBytesWrong : ChangeSpec := { name := "senseBytes", fn := fun _ => fun
  | [d1, d2] => { results := [.lit (.bool false)], args := [d1, d2] }
  | _ => none }
def SenseBytesWrongFalsely : Prop := senseBytesRow.holds Tryd.pinned (OpenSpec.ofChange senseBytesWrong)

/-- 'headgatelaw16.SenseOf': WHATEVER THE INPUT: true; the input reads as it did. -/
def senseOfSpec : ChangeSpec := { name := "senseOf", fn := fun _ => fun
  | [d1, d2, d3] => { results := [.lit (.bool true)], args := [d1, d2, d3] }
  | _ => none }
def senseOfRow : OpenClaim := { program := "ythcaeihpdlgcaaadoor", sum := "23fefa38cae48961e9c0316ed579d111158e31324d8be25acb36414d64a03ac7", func := "headgate/headgatelaw16.SenseOf", spec := "senseOf", unfollowed := true, recurses := true, named := ["headgate/sense.rows"], apart := false, laid := [("headgate/sense.rows", laid_headgate_sense_rows)] }
def SenseOfSaid : Prop := senseOfRow.holds Tryd.pinned (OpenSpec.ofChange senseOfSpec)

/-- ITS FALSE NEIGHBOUR: 'it returns false'. Refute it at one input. -/
def senseOfWrong : ChangeSpec := { name := "senseOf", fn := fun _ => fun
  | [d1, d2, d3] => { results := [.lit (.bool false)], args := [d1, d2, d3] }
  | _ => none }
def SenseOfWrongFalsely : Prop := senseOfRow.holds Tryd.pinned (OpenSpec.ofChange senseOfWrong)

/-- 'headgatelaw16.SenseBack': WHATEVER THE INPUT: true; the input reads as it did. -/
def senseBackSpec : ChangeSpec := { name := "senseBack", fn := fun _ => fun
  | [d1, d2] => { results := [.lit (.bool true)], args := [d1, d2] }
  | _ => none }
def senseBackRow : OpenClaim := { program := "ythcaeihpdlgcaaadoor", sum := "23fefa38cae48961e9c0316ed579d111158e31324d8be25acb36414d64a03ac7", func := "headgate/headgatelaw16.SenseBack", spec := "senseBack", unfollowed := true, recurses := true, named := ["headgate/sense.rows"], apart := false, laid := [("headgate/sense.rows", laid_headgate_sense_rows)] }
def SenseBackSaid : Prop := senseBackRow.holds Tryd.pinned (OpenSpec.ofChange senseBackSpec)

/-- ITS FALSE NEIGHBOUR: 'it returns false'. Refute it at one input. -/
def senseBackWrong : ChangeSpec := { name := "senseBack", fn := fun _ => fun
  | [d1, d2] => { results := [.lit (.bool false)], args := [d1, d2] }
  | _ => none }
def SenseBackWrongFalsely : Prop := senseBackRow.holds Tryd.pinned (OpenSpec.ofChange senseBackWrong)

/-- 'headgatelaw16.SenseCodes': WHATEVER THE INPUT: true; the input reads as it did. -/
def senseCodesSpec : ChangeSpec := { name := "senseCodes", fn := fun _ => fun
  | [d1, d2] => { results := [.lit (.bool true)], args := [d1, d2] }
  | _ => none }
def senseCodesRow : OpenClaim := { program := "ythcaeihpdlgcaaadoor", sum := "23fefa38cae48961e9c0316ed579d111158e31324d8be25acb36414d64a03ac7", func := "headgate/headgatelaw16.SenseCodes", spec := "senseCodes", unfollowed := true, recurses := true, named := ["headgate/sense.rows"], apart := false, laid := [("headgate/sense.rows", laid_headgate_sense_rows)] }
def SenseCodesSaid : Prop := senseCodesRow.holds Tryd.pinned (OpenSpec.ofChange senseCodesSpec)

/-- ITS FALSE NEIGHBOUR: 'it returns false'. Refute it at one input. -/
def senseCodesWrong : ChangeSpec := { name := "senseCodes", fn := fun _ => fun
  | [d1, d2] => { results := [.lit (.bool false)], args := [d1, d2] }
  | _ => none }
def SenseCodesWrongFalsely : Prop := senseCodesRow.holds Tryd.pinned (OpenSpec.ofChange senseCodesWrong)

/- THE SECOND FORM. 'bulk': how many values and letters a reading holds, each counted each time it is reached (what is shared counts as often as it is met; a slice's spare places count too). A statement '..UptoSaid' is the law's where the arguments, and the package variables that the reading takes, are together of bulk at most 1048576: NARROWER than '..Said'. Prove '..Said' where nothing that the law and all that it calls make is longer than what came in: it says more and counts as full. Else prove '..UptoSaid'. A law counts once. -/
mutual
def uptoBulk {H : Type} : DataW H → Nat
  | .lit (.string bytes) => bytes.length + 1
  | .lit _ => 1
  | .nil => 1
  | .ptr d => uptoBulk d + 1
  | .slice elems spare => uptoBulkAll elems + uptoBulkAll spare + 1
  | .agg parts => uptoBulkAll parts + 1
  | .iface _ d => uptoBulk d + 1
  | .map entries => uptoBulkEntries entries + 1
  | .held _ => 1
def uptoBulkAll {H : Type} : List (DataW H) → Nat
  | [] => 0
  | d :: r => uptoBulk d + uptoBulkAll r
def uptoBulkEntries {H : Type} : List (Lit × DataW H) → Nat
  | [] => 0
  | x :: r => uptoBulkEntry x + uptoBulkEntries r
def uptoBulkEntry {H : Type} : Lit × DataW H → Nat
  | (.string bytes, d) => bytes.length + uptoBulk d + 1
  | (_, d) => uptoBulk d + 1
 end
def uptoSmall : (H : Type) → List (DataW H) → Bool := fun _ ds => decide (uptoBulkAll ds ≤ 1048576)
def OpenSpec.upto (s : _root_.Go.ChangeSpec) : _root_.Go.OpenSpec := { _root_.Go.OpenSpec.ofChange s with cond := some uptoSmall }

/-- 'headgatelaw16.SenseBytes', WHERE WHAT IT READS IS OF BULK AT MOST 1048576: true; the input reads as it did. -/
def senseBytesUptoRow : OpenClaim := { program := "ythcaeihpdlgcaaadoor", sum := "23fefa38cae48961e9c0316ed579d111158e31324d8be25acb36414d64a03ac7", func := "headgate/headgatelaw16.SenseBytes", spec := "senseBytes", unfollowed := true, recurses := true, named := ["headgate/sense.rows"], apart := false, laid := [("headgate/sense.rows", laid_headgate_sense_rows)], narrowed := true }
def SenseBytesUptoSaid : Prop := senseBytesUptoRow.holds Tryd.pinned (OpenSpec.upto senseBytesSpec)

/-- 'headgatelaw16.SenseOf', WHERE WHAT IT READS IS OF BULK AT MOST 1048576: true; the input reads as it did. -/
def senseOfUptoRow : OpenClaim := { program := "ythcaeihpdlgcaaadoor", sum := "23fefa38cae48961e9c0316ed579d111158e31324d8be25acb36414d64a03ac7", func := "headgate/headgatelaw16.SenseOf", spec := "senseOf", unfollowed := true, recurses := true, named := ["headgate/sense.rows"], apart := false, laid := [("headgate/sense.rows", laid_headgate_sense_rows)], narrowed := true }
def SenseOfUptoSaid : Prop := senseOfUptoRow.holds Tryd.pinned (OpenSpec.upto senseOfSpec)

/-- 'headgatelaw16.SenseBack', WHERE WHAT IT READS IS OF BULK AT MOST 1048576: true; the input reads as it did. -/
def senseBackUptoRow : OpenClaim := { program := "ythcaeihpdlgcaaadoor", sum := "23fefa38cae48961e9c0316ed579d111158e31324d8be25acb36414d64a03ac7", func := "headgate/headgatelaw16.SenseBack", spec := "senseBack", unfollowed := true, recurses := true, named := ["headgate/sense.rows"], apart := false, laid := [("headgate/sense.rows", laid_headgate_sense_rows)], narrowed := true }
def SenseBackUptoSaid : Prop := senseBackUptoRow.holds Tryd.pinned (OpenSpec.upto senseBackSpec)

/-- 'headgatelaw16.SenseCodes', WHERE WHAT IT READS IS OF BULK AT MOST 1048576: true; the input reads as it did. -/
def senseCodesUptoRow : OpenClaim := { program := "ythcaeihpdlgcaaadoor", sum := "23fefa38cae48961e9c0316ed579d111158e31324d8be25acb36414d64a03ac7", func := "headgate/headgatelaw16.SenseCodes", spec := "senseCodes", unfollowed := true, recurses := true, named := ["headgate/sense.rows"], apart := false, laid := [("headgate/sense.rows", laid_headgate_sense_rows)], narrowed := true }
def SenseCodesUptoSaid : Prop := senseCodesUptoRow.holds Tryd.pinned (OpenSpec.upto senseCodesSpec)

end Rows
end Go.Proofs.YthcaeihpdlgcaaaDoor
