/- Two lists of ranges, the first one empty: the code's slices.Equal; two commands, the other way round. -/
import Derived.Test.YtdggipgieanpeaaDoorPrO
namespace Go.Proofs.YtdggipgieanpeaaDoor.Pc
open Go.RowKit
theorem equal_zero (A B : Option Addr) (n a b : Nat) (w : World) : Calls Tryd.prog 28 #[.slice B 0 b, .slice A n a] w fun e w' => e = .returned (.bool (n == 0)) ∧ w' = w := by
  by_cases h : n = 0
  · subst h
    go_enter Tryd.func28, Tryd.ntmps28
    go_wp2_with (fail)
    go_loop [13] (fun i => i = .int .i64 0) (fun _ => 0)
    case atStart => rfl
    case round =>
      subst hrel
      go_wp2_with (fail)
      go_ret
      exact ⟨rfl, rfl⟩
  · have q : ¬ (n : Int) = 0 := by omega
    have q1 : ¬ (0 : Int) = (n : Int) := by omega
    have q2 : ((0 : Int) != (n : Int)) = true := by rw [bne_iff_ne]; omega
    have q3 : ¬ n = 0 := h
    have HV := Lib.hid (show (n == 0) = false by simpa using h)
    clear h
    go_enter Tryd.func28, Tryd.ntmps28
    go_wp2_with (fail)
    go_ret
    exact ⟨by rw [HV.out]; rfl, rfl⟩
theorem same_turn (c d : Kc) : sameK c d = ((d.op == c.op) && (d.lu == c.lu) && (d.ho.toList == c.ho.toList) && (d.lb == c.lb) && (d.bl == c.bl) && (d.da.toList == c.da.toList) && (d.fu == c.fu) && (c.rn == 0) && (d.ke == c.ke) && (d.nk == c.nk) && (d.ot == c.ot) && (d.ty == c.ty) && (d.ig == c.ig) && (d.ap == c.ap)) := by
  unfold sameK
  rw [BEq.comm (a := c.op), BEq.comm (a := c.lu), BEq.comm (a := c.ho.toList), BEq.comm (a := c.lb), BEq.comm (a := c.bl), BEq.comm (a := c.da.toList), BEq.comm (a := c.fu), BEq.comm (a := c.ke), BEq.comm (a := c.nk), BEq.comm (a := c.ot), BEq.comm (a := c.ty), BEq.comm (a := c.ig), BEq.comm (a := c.ap)]
end Go.Proofs.YtdggipgieanpeaaDoor.Pc
