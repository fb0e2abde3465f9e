/- Big and Little of the code, and the question of the document whether bytes stand there, at every input. -/
import Derived.Test.YtlkjkichihfkcaaDoorReads
namespace Go.Proofs.YtlkjkichihfkcaaDoor
open Go.RowKit
def okB (s : ByteArray) (a n : Int) : Bool := decide (1 ≤ n ∧ n ≤ 8 ∧ 0 ≤ a ∧ a + n ≤ s.size)
def bigR (s : ByteArray) (a n : Int) : Nat := if okB s a n = true then bigV (readV s a.toNat) n.toNat else 0
def litR (s : ByteArray) (a n : Int) : Nat := if okB s a n = true then litV (readV s a.toNat) n.toNat else 0
theorem okB_yes {s : ByteArray} {a n : Int} (h : 1 ≤ n ∧ n ≤ 8 ∧ 0 ≤ a ∧ a + n ≤ s.size) : okB s a n = true := by unfold okB; exact decide_eq_true h
theorem okB_no {s : ByteArray} {a n : Int} (h : ¬ (1 ≤ n ∧ n ≤ 8 ∧ 0 ≤ a ∧ a + n ≤ s.size)) : okB s a n = false := by unfold okB; exact decide_eq_false h
theorem bigR_yes {s : ByteArray} {a n : Nat} (h : okB s a n = true) : bigR s a n = bigV (readV s a) n := by unfold bigR; rw [if_pos h]; rfl
theorem litR_yes {s : ByteArray} {a n : Nat} (h : okB s a n = true) : litR s a n = litV (readV s a) n := by unfold litR; rw [if_pos h]; rfl
theorem bigR_no {s : ByteArray} {a n : Int} (h : okB s a n = false) : bigR s a n = 0 := by unfold bigR; rw [h]; rfl
theorem litR_no {s : ByteArray} {a n : Int} (h : okB s a n = false) : litR s a n = 0 := by unfold litR; rw [h]; rfl
theorem ret_two {k : IntKind} {a b : Int} {c d : Bool} (h : a = b) (g : c = d) : Ending.returned (.tuple #[.int k a, .bool c]) = .returned (.tuple #[.int k b, .bool d]) := by rw [h, g]

end Go.Proofs.YtlkjkichihfkcaaDoor
