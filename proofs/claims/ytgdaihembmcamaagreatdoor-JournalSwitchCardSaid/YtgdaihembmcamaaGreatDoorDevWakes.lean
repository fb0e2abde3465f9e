/- wakes: what each statement asks besides. -/
import Derived.Test.YtgdaihembmcamaaGreatDoorDevDuo
namespace Go.Proofs.YtgdaihembmcamaaGreatDoor
open Go.RowKit
theorem blk_eq (b : UInt8) : bytesS 512 b = ⟨Array.replicate 512 b⟩ := rfl
theorem new_due (n : Nat) : (St.new n).due = false := rfl
theorem new_why (n : Nat) (i k : Int) (h : 0 ≤ i ∧ 0 ≤ k ∧ i + k ≤ n) : (St.new n).why n i k = 0 := why_ok (by omega) rfl
def wk1 : St := (St.new 4).oped.hold (1 + 0) (bytesS 512 97)
theorem wk_wr : (St.new 4).wr 1 (bytesS 512 97) 0 1 = (wk1, true) := by
  rw [wr_go (new_due 4), sec_whole (bytesS_size 512 97)]
  rfl
theorem wk_seen : catS (part wk1.seen 1 1) = bytesS 512 97 := by
  have : wk1.seen = (St.new 4).seen.set 1 (bytesS 512 97) := seen_hold _ _ _
  rw [this]
  exact catS_one _
theorem wk_torn : catS (part (wk1.crash []).seen 1 1) = bytesS 512 0 := by
  have : (wk1.crash []).seen = (St.new 4).safe.set 1 (mixS 0 (bytesS 512 97) (bytesS 512 0)) := rfl
  rw [this, mix_noneD (bytesS_size 512 0)]
  exact catS_one _
end Go.Proofs.YtgdaihembmcamaaGreatDoor
