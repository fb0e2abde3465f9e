/-
  NARROWER THAN 'FOR EVERY INPUT', by the rows' own cells (each row's printed sentence says how): JournalPlays: laid · JournalSafe: laid · JournalNone: laid · JournalSwitch: laid · JournalFull: laid.
  DERIVED. THE GIVEN ROWS OF THIS SEAT. 5 by the template 'for every input the law returns true; each argument reads behind the call as it read before'; 0 by the template 'total and deterministic' (their statements: YtgdaihembmcamaaGreatDoorTotals.lean).
  GIVEN WITH THE SEED: the statements are not yours to turn. If you find one false, say at which input.
  Laid BY PROGRAM, IN A SANDBOX (cutbox-rows.mjs): the forced cells as the released guide's own fill.sh prints them over the translation 6fb494e8efba4b0f… (all of the seat's roots in one cut). By AI agents, Wed Nov 11 2026. No macro, syntax, notation, axiom, sorry.
-/
import Derived.Test.YtgdaihembmcamaaGreatDoorChecked
import GoSem.PinnedTables
import GoSem.Claim
import GoSem.ClaimJoined
import GoSem.ClaimMapViews
import Derived.JoinedTies
import Derived.KernelRfl
namespace Go.Proofs.YtgdaihembmcamaaGreatDoor
/- THE CELL 'sum', in the pinned program and in every row, IS THE sha256 OF THE DUMP (.gsa) THAT YtgdaihembmcamaaGreatDoorProg.lean LOADS. Nothing in Lean hashes anything: it is a label: what it is worth is what the hold of that sum in a sandbox is worth. -/
noncomputable def Tryz.pinned : Pinned := { name := "ytgdaihembmcamaagreatdoor", sum := "6fb494e8efba4b0f9013a6ec70c8b8875bfd9221ac5c914ad49d5eb09836a52b", checked := Tryz.checked }
namespace Rows
def none {H : Type} : Left H := { results := [], args := [] }

/- WHAT THE LISTED PACKAGE-LEVEL VARIABLES READ AS WHEN THE CALL BEGINS. Each datum BY PROGRAM (the guide's laid-datum.mjs) off the statement by which the dump's own 'gosem.cut.vars' lays the variable. In a bare row this is a premise. The card (YtgdaihembmcamaaGreatDoorCards.lean) ties it to the program's text. -/
def laid_unicode_utf8_acceptRanges {H : Type} : DataW H := .agg [.agg [.lit (.int .u8 128), .lit (.int .u8 191)], .agg [.lit (.int .u8 160), .lit (.int .u8 191)], .agg [.lit (.int .u8 128), .lit (.int .u8 159)], .agg [.lit (.int .u8 144), .lit (.int .u8 191)], .agg [.lit (.int .u8 128), .lit (.int .u8 143)], .agg [.lit (.int .u8 0), .lit (.int .u8 0)], .agg [.lit (.int .u8 0), .lit (.int .u8 0)], .agg [.lit (.int .u8 0), .lit (.int .u8 0)], .agg [.lit (.int .u8 0), .lit (.int .u8 0)], .agg [.lit (.int .u8 0), .lit (.int .u8 0)], .agg [.lit (.int .u8 0), .lit (.int .u8 0)], .agg [.lit (.int .u8 0), .lit (.int .u8 0)], .agg [.lit (.int .u8 0), .lit (.int .u8 0)], .agg [.lit (.int .u8 0), .lit (.int .u8 0)], .agg [.lit (.int .u8 0), .lit (.int .u8 0)], .agg [.lit (.int .u8 0), .lit (.int .u8 0)]]
def laid_headgate_crc_steps {H : Type} : DataW H := .agg [.lit (.int .u32 0), .lit (.int .u32 274646895), .lit (.int .u32 549293790), .lit (.int .u32 820201905), .lit (.int .u32 1098587580), .lit (.int .u32 1361435347), .lit (.int .u32 1640403810), .lit (.int .u32 1905808397), .lit (.int .u32 2197175160), .lit (.int .u32 2460548119), .lit (.int .u32 2722870694), .lit (.int .u32 2987750089), .lit (.int .u32 3280807620), .lit (.int .u32 3553878443), .lit (.int .u32 3811616794), .lit (.int .u32 4084100981)]
/-- One of Go's own tables, pinned by name: the form's constant. -/
def laid_unicode_utf8_first : DataW Unit := Go.Pinned.utf8First

/-- 'headgatelaw06.JournalPlays': WHATEVER THE INPUT: true; the input reads as it did. -/
def journalPlaysSpec : ChangeSpec := { name := "journalPlays", fn := fun _ => fun
  | [d] => { results := [.lit (.bool true)], args := [d] }
  | _ => none }
def journalPlaysRow : OpenClaim := { program := "ytgdaihembmcamaagreatdoor", sum := "6fb494e8efba4b0f9013a6ec70c8b8875bfd9221ac5c914ad49d5eb09836a52b", func := "headgate/headgatelaw06.JournalPlays", spec := "journalPlays", inPlace := ["internal/abi.NoEscape", "internal/bytealg.MakeNoZero", "sync/atomic.AddInt64", "sync/atomic.AddUint64", "internal/bytealg.IndexByteString", "internal/bytealg.IndexString", "sync/atomic.StoreUint64", "sync/atomic.LoadInt64"], unfollowed := true, recurses := true, named := ["headgate/crc.steps", "unicode/utf8.first", "unicode/utf8.acceptRanges", "internal/bytealg.MaxLen"], apart := false, laid := [("unicode/utf8.acceptRanges", laid_unicode_utf8_acceptRanges), ("headgate/crc.steps", laid_headgate_crc_steps), ("unicode/utf8.first", laid_unicode_utf8_first)] }
def JournalPlaysSaid : Prop := journalPlaysRow.holds Tryz.pinned (OpenSpec.ofChange journalPlaysSpec)

/-- ITS FALSE NEIGHBOUR: 'it returns false'. Refute it at one input. -/
def journalPlaysWrong : ChangeSpec := { name := "journalPlays", fn := fun _ => fun
  | [d] => { results := [.lit (.bool false)], args := [d] }
  | _ => none }
def JournalPlaysWrongFalsely : Prop := journalPlaysRow.holds Tryz.pinned (OpenSpec.ofChange journalPlaysWrong)

/-- 'headgatelaw06.JournalSafe': WHATEVER THE INPUT: true; the input reads as it did. -/
def journalSafeSpec : ChangeSpec := { name := "journalSafe", fn := fun _ => fun
  | [d1, d2, d3] => { results := [.lit (.bool true)], args := [d1, d2, d3] }
  | _ => none }
def journalSafeRow : OpenClaim := { program := "ytgdaihembmcamaagreatdoor", sum := "6fb494e8efba4b0f9013a6ec70c8b8875bfd9221ac5c914ad49d5eb09836a52b", func := "headgate/headgatelaw06.JournalSafe", spec := "journalSafe", inPlace := ["internal/abi.NoEscape", "internal/bytealg.MakeNoZero", "sync/atomic.AddInt64", "sync/atomic.AddUint64", "internal/bytealg.IndexByteString", "internal/bytealg.IndexString", "sync/atomic.StoreUint64"], unfollowed := true, recurses := true, named := ["headgate/crc.steps", "unicode/utf8.first", "unicode/utf8.acceptRanges", "internal/bytealg.MaxLen"], apart := false, laid := [("unicode/utf8.acceptRanges", laid_unicode_utf8_acceptRanges), ("headgate/crc.steps", laid_headgate_crc_steps), ("unicode/utf8.first", laid_unicode_utf8_first)] }
def JournalSafeSaid : Prop := journalSafeRow.holds Tryz.pinned (OpenSpec.ofChange journalSafeSpec)

/-- ITS FALSE NEIGHBOUR: 'it returns false'. Refute it at one input. -/
def journalSafeWrong : ChangeSpec := { name := "journalSafe", fn := fun _ => fun
  | [d1, d2, d3] => { results := [.lit (.bool false)], args := [d1, d2, d3] }
  | _ => none }
def JournalSafeWrongFalsely : Prop := journalSafeRow.holds Tryz.pinned (OpenSpec.ofChange journalSafeWrong)

/-- 'headgatelaw06.JournalNone': WHATEVER THE INPUT: true; the input reads as it did. -/
def journalNoneSpec : ChangeSpec := { name := "journalNone", fn := fun _ => fun
  | [d1, d2] => { results := [.lit (.bool true)], args := [d1, d2] }
  | _ => none }
def journalNoneRow : OpenClaim := { program := "ytgdaihembmcamaagreatdoor", sum := "6fb494e8efba4b0f9013a6ec70c8b8875bfd9221ac5c914ad49d5eb09836a52b", func := "headgate/headgatelaw06.JournalNone", spec := "journalNone", inPlace := ["internal/abi.NoEscape", "internal/bytealg.MakeNoZero", "sync/atomic.AddInt64", "sync/atomic.AddUint64", "internal/bytealg.IndexByteString", "internal/bytealg.IndexString", "sync/atomic.StoreUint64"], unfollowed := true, recurses := true, named := ["headgate/crc.steps", "unicode/utf8.first", "unicode/utf8.acceptRanges", "internal/bytealg.MaxLen"], apart := false, laid := [("unicode/utf8.acceptRanges", laid_unicode_utf8_acceptRanges), ("headgate/crc.steps", laid_headgate_crc_steps), ("unicode/utf8.first", laid_unicode_utf8_first)] }
def JournalNoneSaid : Prop := journalNoneRow.holds Tryz.pinned (OpenSpec.ofChange journalNoneSpec)

/-- ITS FALSE NEIGHBOUR: 'it returns false'. Refute it at one input. -/
def journalNoneWrong : ChangeSpec := { name := "journalNone", fn := fun _ => fun
  | [d1, d2] => { results := [.lit (.bool false)], args := [d1, d2] }
  | _ => none }
def JournalNoneWrongFalsely : Prop := journalNoneRow.holds Tryz.pinned (OpenSpec.ofChange journalNoneWrong)

/-- 'headgatelaw06.JournalSwitch': WHATEVER THE INPUT: true; the input reads as it did. -/
def journalSwitchSpec : ChangeSpec := { name := "journalSwitch", fn := fun _ => fun
  | [d1, d2, d3] => { results := [.lit (.bool true)], args := [d1, d2, d3] }
  | _ => none }
def journalSwitchRow : OpenClaim := { program := "ytgdaihembmcamaagreatdoor", sum := "6fb494e8efba4b0f9013a6ec70c8b8875bfd9221ac5c914ad49d5eb09836a52b", func := "headgate/headgatelaw06.JournalSwitch", spec := "journalSwitch", inPlace := ["internal/abi.NoEscape", "internal/bytealg.MakeNoZero", "sync/atomic.AddInt64", "sync/atomic.AddUint64", "internal/bytealg.IndexByteString", "internal/bytealg.IndexString", "sync/atomic.StoreUint64"], unfollowed := true, recurses := true, named := ["headgate/crc.steps", "unicode/utf8.first", "unicode/utf8.acceptRanges", "internal/bytealg.MaxLen"], apart := false, laid := [("unicode/utf8.acceptRanges", laid_unicode_utf8_acceptRanges), ("headgate/crc.steps", laid_headgate_crc_steps), ("unicode/utf8.first", laid_unicode_utf8_first)] }
def JournalSwitchSaid : Prop := journalSwitchRow.holds Tryz.pinned (OpenSpec.ofChange journalSwitchSpec)

/-- ITS FALSE NEIGHBOUR: 'it returns false'. Refute it at one input. -/
def journalSwitchWrong : ChangeSpec := { name := "journalSwitch", fn := fun _ => fun
  | [d1, d2, d3] => { results := [.lit (.bool false)], args := [d1, d2, d3] }
  | _ => none }
def JournalSwitchWrongFalsely : Prop := journalSwitchRow.holds Tryz.pinned (OpenSpec.ofChange journalSwitchWrong)

/-- 'headgatelaw06.JournalFull': WHATEVER THE INPUT: true; the input reads as it did. -/
def journalFullSpec : ChangeSpec := { name := "journalFull", fn := fun _ => fun
  | [d1, d2] => { results := [.lit (.bool true)], args := [d1, d2] }
  | _ => none }
def journalFullRow : OpenClaim := { program := "ytgdaihembmcamaagreatdoor", sum := "6fb494e8efba4b0f9013a6ec70c8b8875bfd9221ac5c914ad49d5eb09836a52b", func := "headgate/headgatelaw06.JournalFull", spec := "journalFull", inPlace := ["internal/abi.NoEscape", "internal/bytealg.MakeNoZero", "sync/atomic.AddInt64", "sync/atomic.AddUint64", "internal/bytealg.IndexByteString", "internal/bytealg.IndexString", "sync/atomic.StoreUint64"], unfollowed := true, recurses := true, named := ["headgate/crc.steps", "unicode/utf8.first", "unicode/utf8.acceptRanges", "internal/bytealg.MaxLen"], apart := false, laid := [("unicode/utf8.acceptRanges", laid_unicode_utf8_acceptRanges), ("headgate/crc.steps", laid_headgate_crc_steps), ("unicode/utf8.first", laid_unicode_utf8_first)] }
def JournalFullSaid : Prop := journalFullRow.holds Tryz.pinned (OpenSpec.ofChange journalFullSpec)

/-- ITS FALSE NEIGHBOUR: 'it returns false'. Refute it at one input. -/
def journalFullWrong : ChangeSpec := { name := "journalFull", fn := fun _ => fun
  | [d1, d2] => { results := [.lit (.bool false)], args := [d1, d2] }
  | _ => none }
def JournalFullWrongFalsely : Prop := journalFullRow.holds Tryz.pinned (OpenSpec.ofChange journalFullWrong)

/- THE SECOND FORM. 'bulk': how many values and letters a reading holds, each counted each time it is reached (what is shared counts as often as it is met; a slice's spare places count too). A statement '..UptoSaid' is the law's where the arguments, and the package variables that the reading takes, are together of bulk at most 1048576: NARROWER than '..Said'. Prove '..Said' where nothing that the law and all that it calls make is longer than what came in: it says more and counts as full. Else prove '..UptoSaid'. A law counts once. -/
mutual
def uptoBulk {H : Type} : DataW H → Nat
  | .lit (.string bytes) => bytes.length + 1
  | .lit _ => 1
  | .nil => 1
  | .ptr d => uptoBulk d + 1
  | .slice elems spare => uptoBulkAll elems + uptoBulkAll spare + 1
  | .agg parts => uptoBulkAll parts + 1
  | .iface _ d => uptoBulk d + 1
  | .map entries => uptoBulkEntries entries + 1
  | .held _ => 1
def uptoBulkAll {H : Type} : List (DataW H) → Nat
  | [] => 0
  | d :: r => uptoBulk d + uptoBulkAll r
def uptoBulkEntries {H : Type} : List (Lit × DataW H) → Nat
  | [] => 0
  | x :: r => uptoBulkEntry x + uptoBulkEntries r
def uptoBulkEntry {H : Type} : Lit × DataW H → Nat
  | (.string bytes, d) => bytes.length + uptoBulk d + 1
  | (_, d) => uptoBulk d + 1
 end
def uptoSmall : (H : Type) → List (DataW H) → Bool := fun _ ds => decide (uptoBulkAll ds ≤ 1048576)
def OpenSpec.upto (s : _root_.Go.ChangeSpec) : _root_.Go.OpenSpec := { _root_.Go.OpenSpec.ofChange s with cond := some uptoSmall }

/-- 'headgatelaw06.JournalPlays', WHERE WHAT IT READS IS OF BULK AT MOST 1048576: true; the input reads as it did. -/
def journalPlaysUptoRow : OpenClaim := { program := "ytgdaihembmcamaagreatdoor", sum := "6fb494e8efba4b0f9013a6ec70c8b8875bfd9221ac5c914ad49d5eb09836a52b", func := "headgate/headgatelaw06.JournalPlays", spec := "journalPlays", inPlace := ["internal/abi.NoEscape", "internal/bytealg.MakeNoZero", "sync/atomic.AddInt64", "sync/atomic.AddUint64", "internal/bytealg.IndexByteString", "internal/bytealg.IndexString", "sync/atomic.StoreUint64", "sync/atomic.LoadInt64"], unfollowed := true, recurses := true, named := ["headgate/crc.steps", "unicode/utf8.first", "unicode/utf8.acceptRanges", "internal/bytealg.MaxLen"], apart := false, laid := [("unicode/utf8.acceptRanges", laid_unicode_utf8_acceptRanges), ("headgate/crc.steps", laid_headgate_crc_steps), ("unicode/utf8.first", laid_unicode_utf8_first)], narrowed := true }
def JournalPlaysUptoSaid : Prop := journalPlaysUptoRow.holds Tryz.pinned (OpenSpec.upto journalPlaysSpec)

/-- 'headgatelaw06.JournalSafe', WHERE WHAT IT READS IS OF BULK AT MOST 1048576: true; the input reads as it did. -/
def journalSafeUptoRow : OpenClaim := { program := "ytgdaihembmcamaagreatdoor", sum := "6fb494e8efba4b0f9013a6ec70c8b8875bfd9221ac5c914ad49d5eb09836a52b", func := "headgate/headgatelaw06.JournalSafe", spec := "journalSafe", inPlace := ["internal/abi.NoEscape", "internal/bytealg.MakeNoZero", "sync/atomic.AddInt64", "sync/atomic.AddUint64", "internal/bytealg.IndexByteString", "internal/bytealg.IndexString", "sync/atomic.StoreUint64"], unfollowed := true, recurses := true, named := ["headgate/crc.steps", "unicode/utf8.first", "unicode/utf8.acceptRanges", "internal/bytealg.MaxLen"], apart := false, laid := [("unicode/utf8.acceptRanges", laid_unicode_utf8_acceptRanges), ("headgate/crc.steps", laid_headgate_crc_steps), ("unicode/utf8.first", laid_unicode_utf8_first)], narrowed := true }
def JournalSafeUptoSaid : Prop := journalSafeUptoRow.holds Tryz.pinned (OpenSpec.upto journalSafeSpec)

/-- 'headgatelaw06.JournalNone', WHERE WHAT IT READS IS OF BULK AT MOST 1048576: true; the input reads as it did. -/
def journalNoneUptoRow : OpenClaim := { program := "ytgdaihembmcamaagreatdoor", sum := "6fb494e8efba4b0f9013a6ec70c8b8875bfd9221ac5c914ad49d5eb09836a52b", func := "headgate/headgatelaw06.JournalNone", spec := "journalNone", inPlace := ["internal/abi.NoEscape", "internal/bytealg.MakeNoZero", "sync/atomic.AddInt64", "sync/atomic.AddUint64", "internal/bytealg.IndexByteString", "internal/bytealg.IndexString", "sync/atomic.StoreUint64"], unfollowed := true, recurses := true, named := ["headgate/crc.steps", "unicode/utf8.first", "unicode/utf8.acceptRanges", "internal/bytealg.MaxLen"], apart := false, laid := [("unicode/utf8.acceptRanges", laid_unicode_utf8_acceptRanges), ("headgate/crc.steps", laid_headgate_crc_steps), ("unicode/utf8.first", laid_unicode_utf8_first)], narrowed := true }
def JournalNoneUptoSaid : Prop := journalNoneUptoRow.holds Tryz.pinned (OpenSpec.upto journalNoneSpec)

/-- 'headgatelaw06.JournalSwitch', WHERE WHAT IT READS IS OF BULK AT MOST 1048576: true; the input reads as it did. -/
def journalSwitchUptoRow : OpenClaim := { program := "ytgdaihembmcamaagreatdoor", sum := "6fb494e8efba4b0f9013a6ec70c8b8875bfd9221ac5c914ad49d5eb09836a52b", func := "headgate/headgatelaw06.JournalSwitch", spec := "journalSwitch", inPlace := ["internal/abi.NoEscape", "internal/bytealg.MakeNoZero", "sync/atomic.AddInt64", "sync/atomic.AddUint64", "internal/bytealg.IndexByteString", "internal/bytealg.IndexString", "sync/atomic.StoreUint64"], unfollowed := true, recurses := true, named := ["headgate/crc.steps", "unicode/utf8.first", "unicode/utf8.acceptRanges", "internal/bytealg.MaxLen"], apart := false, laid := [("unicode/utf8.acceptRanges", laid_unicode_utf8_acceptRanges), ("headgate/crc.steps", laid_headgate_crc_steps), ("unicode/utf8.first", laid_unicode_utf8_first)], narrowed := true }
def JournalSwitchUptoSaid : Prop := journalSwitchUptoRow.holds Tryz.pinned (OpenSpec.upto journalSwitchSpec)

/-- 'headgatelaw06.JournalFull', WHERE WHAT IT READS IS OF BULK AT MOST 1048576: true; the input reads as it did. -/
def journalFullUptoRow : OpenClaim := { program := "ytgdaihembmcamaagreatdoor", sum := "6fb494e8efba4b0f9013a6ec70c8b8875bfd9221ac5c914ad49d5eb09836a52b", func := "headgate/headgatelaw06.JournalFull", spec := "journalFull", inPlace := ["internal/abi.NoEscape", "internal/bytealg.MakeNoZero", "sync/atomic.AddInt64", "sync/atomic.AddUint64", "internal/bytealg.IndexByteString", "internal/bytealg.IndexString", "sync/atomic.StoreUint64"], unfollowed := true, recurses := true, named := ["headgate/crc.steps", "unicode/utf8.first", "unicode/utf8.acceptRanges", "internal/bytealg.MaxLen"], apart := false, laid := [("unicode/utf8.acceptRanges", laid_unicode_utf8_acceptRanges), ("headgate/crc.steps", laid_headgate_crc_steps), ("unicode/utf8.first", laid_unicode_utf8_first)], narrowed := true }
def JournalFullUptoSaid : Prop := journalFullUptoRow.holds Tryz.pinned (OpenSpec.upto journalFullSpec)

end Rows
end Go.Proofs.YtgdaihembmcamaaGreatDoor
