/-
  No cell of these rows narrows 'for every input' (looked for: loops, veiled, ifaces, maps, wideKeys, modest, calm, conditions, laid).
  DERIVED. THE GIVEN ROWS OF THIS SEAT. 4 by the template 'for every input the law returns true; each argument reads behind the call as it read before'; 0 by the template 'total and deterministic' (their statements: YtiijjbepoonknaaTotals.lean).
  GIVEN WITH THE SEED: the statements are not yours to turn. If you find one false, say at which input.
  Laid BY PROGRAM, IN A SANDBOX (cutbox-rows.mjs): the forced cells as the released guide's own fill.sh prints them over the translation 08db32f58498af13… (all of the seat's roots in one cut). By AI agents, Wed Nov 11 2026. No macro, syntax, notation, axiom, sorry.
-/
import Derived.Test.YtiijjbepoonknaaChecked
import GoSem.Claim
import GoSem.ClaimJoined
import GoSem.ClaimMapViews
import Derived.JoinedTies
import Derived.KernelRfl
namespace Go.Proofs.Ytiijjbepoonknaa
/- THE CELL 'sum', in the pinned program and in every row, IS THE sha256 OF THE DUMP (.gsa) THAT YtiijjbepoonknaaProg.lean LOADS. Nothing in Lean hashes anything: it is a label: what it is worth is what the hold of that sum in a sandbox is worth. -/
noncomputable def Try.pinned : Pinned := { name := "ytiijjbepoonknaa", sum := "08db32f58498af13e10a1acdc7b543b3b0dc02841600a7d253a78a88e0fb09e0", checked := Try.checked }
namespace Rows
def none {H : Type} : Left H := { results := [], args := [] }

/-- 'headgatelaw03.NamesTells': WHATEVER THE INPUT: true; the input reads as it did. -/
def namesTellsSpec : ChangeSpec := { name := "namesTells", fn := fun _ => fun
  | [d] => { results := [.lit (.bool true)], args := [d] }
  | _ => none }
def namesTellsRow : OpenClaim := { program := "ytiijjbepoonknaa", sum := "08db32f58498af13e10a1acdc7b543b3b0dc02841600a7d253a78a88e0fb09e0", func := "headgate/headgatelaw03.NamesTells", spec := "namesTells", apart := false }
def NamesTellsSaid : Prop := namesTellsRow.holds Try.pinned (OpenSpec.ofChange namesTellsSpec)

/-- ITS FALSE NEIGHBOUR: 'it returns false'. Refute it at one input. -/
def namesTellsWrong : ChangeSpec := { name := "namesTells", fn := fun _ => fun
  | [d] => { results := [.lit (.bool false)], args := [d] }
  | _ => none }
def NamesTellsWrongFalsely : Prop := namesTellsRow.holds Try.pinned (OpenSpec.ofChange namesTellsWrong)

/-- 'headgatelaw03.NamesMakes': WHATEVER THE INPUT: true; the input reads as it did. -/
def namesMakesSpec : ChangeSpec := { name := "namesMakes", fn := fun _ => fun
  | [d] => { results := [.lit (.bool true)], args := [d] }
  | _ => none }
def namesMakesRow : OpenClaim := { program := "ytiijjbepoonknaa", sum := "08db32f58498af13e10a1acdc7b543b3b0dc02841600a7d253a78a88e0fb09e0", func := "headgate/headgatelaw03.NamesMakes", spec := "namesMakes", apart := false }
def NamesMakesSaid : Prop := namesMakesRow.holds Try.pinned (OpenSpec.ofChange namesMakesSpec)

/-- ITS FALSE NEIGHBOUR: 'it returns false'. Refute it at one input. -/
def namesMakesWrong : ChangeSpec := { name := "namesMakes", fn := fun _ => fun
  | [d] => { results := [.lit (.bool false)], args := [d] }
  | _ => none }
def NamesMakesWrongFalsely : Prop := namesMakesRow.holds Try.pinned (OpenSpec.ofChange namesMakesWrong)

/-- 'headgatelaw03.NamesBack': WHATEVER THE INPUT: true; the input reads as it did. -/
def namesBackSpec : ChangeSpec := { name := "namesBack", fn := fun _ => fun
  | [d] => { results := [.lit (.bool true)], args := [d] }
  | _ => none }
def namesBackRow : OpenClaim := { program := "ytiijjbepoonknaa", sum := "08db32f58498af13e10a1acdc7b543b3b0dc02841600a7d253a78a88e0fb09e0", func := "headgate/headgatelaw03.NamesBack", spec := "namesBack", apart := false }
def NamesBackSaid : Prop := namesBackRow.holds Try.pinned (OpenSpec.ofChange namesBackSpec)

/-- ITS FALSE NEIGHBOUR: 'it returns false'. Refute it at one input. -/
def namesBackWrong : ChangeSpec := { name := "namesBack", fn := fun _ => fun
  | [d] => { results := [.lit (.bool false)], args := [d] }
  | _ => none }
def NamesBackWrongFalsely : Prop := namesBackRow.holds Try.pinned (OpenSpec.ofChange namesBackWrong)

/-- 'headgatelaw03.NamesMonths': WHATEVER THE INPUT: true; the input reads as it did. -/
def namesMonthsSpec : ChangeSpec := { name := "namesMonths", fn := fun _ => fun
  | [d1, d2, d3] => { results := [.lit (.bool true)], args := [d1, d2, d3] }
  | _ => none }
def namesMonthsRow : OpenClaim := { program := "ytiijjbepoonknaa", sum := "08db32f58498af13e10a1acdc7b543b3b0dc02841600a7d253a78a88e0fb09e0", func := "headgate/headgatelaw03.NamesMonths", spec := "namesMonths", unfollowed := true, recurses := true, apart := false }
def NamesMonthsSaid : Prop := namesMonthsRow.holds Try.pinned (OpenSpec.ofChange namesMonthsSpec)

/-- ITS FALSE NEIGHBOUR: 'it returns false'. Refute it at one input. -/
def namesMonthsWrong : ChangeSpec := { name := "namesMonths", fn := fun _ => fun
  | [d1, d2, d3] => { results := [.lit (.bool false)], args := [d1, d2, d3] }
  | _ => none }
def NamesMonthsWrongFalsely : Prop := namesMonthsRow.holds Try.pinned (OpenSpec.ofChange namesMonthsWrong)

/- THE SECOND FORM. 'bulk': how many values and letters a reading holds, each counted each time it is reached (what is shared counts as often as it is met; a slice's spare places count too). A statement '..UptoSaid' is the law's where the arguments, and the package variables that the reading takes, are together of bulk at most 1048576: NARROWER than '..Said'. Prove '..Said' where nothing that the law and all that it calls make is longer than what came in: it says more and counts as full. Else prove '..UptoSaid'. A law counts once. -/
mutual
def uptoBulk {H : Type} : DataW H → Nat
  | .lit (.string bytes) => bytes.length + 1
  | .lit _ => 1
  | .nil => 1
  | .ptr d => uptoBulk d + 1
  | .slice elems spare => uptoBulkAll elems + uptoBulkAll spare + 1
  | .agg parts => uptoBulkAll parts + 1
  | .iface _ d => uptoBulk d + 1
  | .map entries => uptoBulkEntries entries + 1
  | .held _ => 1
def uptoBulkAll {H : Type} : List (DataW H) → Nat
  | [] => 0
  | d :: r => uptoBulk d + uptoBulkAll r
def uptoBulkEntries {H : Type} : List (Lit × DataW H) → Nat
  | [] => 0
  | x :: r => uptoBulkEntry x + uptoBulkEntries r
def uptoBulkEntry {H : Type} : Lit × DataW H → Nat
  | (.string bytes, d) => bytes.length + uptoBulk d + 1
  | (_, d) => uptoBulk d + 1
 end
def uptoSmall : (H : Type) → List (DataW H) → Bool := fun _ ds => decide (uptoBulkAll ds ≤ 1048576)
def OpenSpec.upto (s : _root_.Go.ChangeSpec) : _root_.Go.OpenSpec := { _root_.Go.OpenSpec.ofChange s with cond := some uptoSmall }

/-- 'headgatelaw03.NamesTells', WHERE WHAT IT READS IS OF BULK AT MOST 1048576: true; the input reads as it did. -/
def namesTellsUptoRow : OpenClaim := { program := "ytiijjbepoonknaa", sum := "08db32f58498af13e10a1acdc7b543b3b0dc02841600a7d253a78a88e0fb09e0", func := "headgate/headgatelaw03.NamesTells", spec := "namesTells", apart := false, narrowed := true }
def NamesTellsUptoSaid : Prop := namesTellsUptoRow.holds Try.pinned (OpenSpec.upto namesTellsSpec)

/-- 'headgatelaw03.NamesMakes', WHERE WHAT IT READS IS OF BULK AT MOST 1048576: true; the input reads as it did. -/
def namesMakesUptoRow : OpenClaim := { program := "ytiijjbepoonknaa", sum := "08db32f58498af13e10a1acdc7b543b3b0dc02841600a7d253a78a88e0fb09e0", func := "headgate/headgatelaw03.NamesMakes", spec := "namesMakes", apart := false, narrowed := true }
def NamesMakesUptoSaid : Prop := namesMakesUptoRow.holds Try.pinned (OpenSpec.upto namesMakesSpec)

/-- 'headgatelaw03.NamesBack', WHERE WHAT IT READS IS OF BULK AT MOST 1048576: true; the input reads as it did. -/
def namesBackUptoRow : OpenClaim := { program := "ytiijjbepoonknaa", sum := "08db32f58498af13e10a1acdc7b543b3b0dc02841600a7d253a78a88e0fb09e0", func := "headgate/headgatelaw03.NamesBack", spec := "namesBack", apart := false, narrowed := true }
def NamesBackUptoSaid : Prop := namesBackUptoRow.holds Try.pinned (OpenSpec.upto namesBackSpec)

/-- 'headgatelaw03.NamesMonths', WHERE WHAT IT READS IS OF BULK AT MOST 1048576: true; the input reads as it did. -/
def namesMonthsUptoRow : OpenClaim := { program := "ytiijjbepoonknaa", sum := "08db32f58498af13e10a1acdc7b543b3b0dc02841600a7d253a78a88e0fb09e0", func := "headgate/headgatelaw03.NamesMonths", spec := "namesMonths", unfollowed := true, recurses := true, apart := false, narrowed := true }
def NamesMonthsUptoSaid : Prop := namesMonthsUptoRow.holds Try.pinned (OpenSpec.upto namesMonthsSpec)

end Rows
end Go.Proofs.Ytiijjbepoonknaa
