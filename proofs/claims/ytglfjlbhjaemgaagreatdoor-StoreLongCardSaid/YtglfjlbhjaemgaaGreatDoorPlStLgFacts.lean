/- The closed facts of the rows of StoreLong. -/
import Derived.Test.YtglfjlbhjaemgaaGreatDoorRows
import Derived.Test.YtglfjlbhjaemgaaGreatDoorChecked
import Derived.ProofKit
import Derived.JoinedOf
namespace Go.Proofs.YtglfjlbhjaemgaaGreatDoor
set_option maxHeartbeats 8000000 in
theorem storeLong_facts : joinedFacts Tryz.pinned.checked.prog 4 Tryz.f4 Rows.storeLongSpec Rows.storeLongRow = true := by
  unfold joinedFacts
  simp only [Bool.and_eq_true]
  and_intros <;> as_aux_lemma => kernel_rfl
end Go.Proofs.YtglfjlbhjaemgaaGreatDoor
