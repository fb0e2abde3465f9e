/- The closed facts of the rows of StoreApart. -/
import Derived.Test.YtglfjlbhjaemgaaGreatDoorRows
import Derived.Test.YtglfjlbhjaemgaaGreatDoorChecked
import Derived.ProofKit
import Derived.JoinedOf
namespace Go.Proofs.YtglfjlbhjaemgaaGreatDoor
set_option maxHeartbeats 8000000 in
theorem storeApart_facts : joinedFacts Tryz.pinned.checked.prog 6 Tryz.f6 Rows.storeApartSpec Rows.storeApartRow = true := by
  unfold joinedFacts
  simp only [Bool.and_eq_true]
  and_intros <;> as_aux_lemma => kernel_rfl
end Go.Proofs.YtglfjlbhjaemgaaGreatDoor
