/- What the listed table of four steps gives the walks; an array of two numbers by value. -/
import Derived.Test.YtglfjlbhjaemgaaGreatDoorPl09
import Derived.ProofKit
import Derived.LaidMore
import Derived.OpenShut
import Derived.Stop.Joined
import Derived.SevenTiedAt
import Derived.ShutString
import Derived.WideKeyArr2
namespace Go.Proofs.YtglfjlbhjaemgaaGreatDoor
open Go.ChangeShapes Go.WideShapes Go.ChangeAt Go.RowKit
open Go.ChangeMaps (open_string shut_string)
theorem Tryz.own : ownKnob Tryz.prog.godebug = none := by kernel_rfl
theorem gSteps : Tryz.prog.globalNamed "headgate/crc.steps" = some 1 := by kernel_rfl
theorem tSteps : (Tryz.prog.globals[1]?).map (·.type) = some 353 := by kernel_rfl
theorem cells38 : Tryz.prog.cellsOf 353 = 16 := by kernel_rfl
theorem cells22 : Tryz.prog.cellsOf 122 = 1 := by kernel_rfl
theorem laid_all : (Rows.laid_headgate_crc_steps : DataW Unit) = .agg ((List.range 16).map fun i => .lit (.int .u32 (st4 i : Nat))) := by kernel_rfl
theorem u8_nat {x : Int} (h : (Lit.int .u8 x).wf = true) : ∃ b : UInt8, x = (b.toNat : Int) := by
  have hd : (0 : Int) ≤ x ∧ x ≤ 255 := by simpa [Lit.wf, IntKind.min, IntKind.max, IntKind.signed, IntKind.bits] using h
  exact ⟨UInt8.ofNat x.toNat, by rw [UInt8.toNat_ofNat']; omega⟩
section
variable {H : Type} {enc : TypeId × Value → H} {P : Program} {t e : TypeId} {q : IntKind} {W : World} {base : Nat} {sp : Nat → Bool} {held : Bool}
end
end Go.Proofs.YtglfjlbhjaemgaaGreatDoor
