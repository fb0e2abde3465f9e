/- Are two commands alike: the statements' Cmds, where the second one has no ranges. -/
import Derived.Test.YtdggipgieanpeaaPrC1
import Derived.Test.YtdggipgieanpeaaPrC2
import Derived.Test.YtdggipgieanpeaaPrC3
namespace Go.Proofs.Ytdggipgieanpeaa
open Go.RowKit
theorem cmds_any (c d : Kc) (hd : d.rn = 0) (w : World) : Calls Try.prog 11 #[kcV c, kcV d] w fun e w' => e = .returned (.bool (sameK c d)) ∧ Below w.heap.size w w' := by
  cases q0 : (c.op == d.op) with
  | false => exact cmds_0 c d hd q0 w
  | true =>
    cases q1 : (c.lu == d.lu) with
    | false => exact cmds_1 c d hd q0 q1 w
    | true =>
      cases q2 : (c.ho.toList == d.ho.toList) with
      | false => exact cmds_2 c d hd q0 q1 q2 w
      | true =>
        cases q3 : (c.lb == d.lb) with
        | false => exact cmds_3 c d hd q0 q1 q2 q3 w
        | true =>
          cases q4 : (c.bl == d.bl) with
          | false => exact cmds_4 c d hd q0 q1 q2 q3 q4 w
          | true =>
            cases q5 : (c.da.toList == d.da.toList) with
            | false => exact cmds_5 c d hd q0 q1 q2 q3 q4 q5 w
            | true =>
              cases q6 : (c.fu == d.fu) with
              | false => exact cmds_6 c d hd q0 q1 q2 q3 q4 q5 q6 w
              | true =>
                cases q7 : (c.rn == 0) with
                | false => exact cmds_7 c d hd q0 q1 q2 q3 q4 q5 q6 q7 w
                | true =>
                  cases q8 : (c.ke == d.ke) with
                  | false => exact cmds_8 c d hd q0 q1 q2 q3 q4 q5 q6 q7 q8 w
                  | true =>
                    cases q9 : (c.nk == d.nk) with
                    | false => exact cmds_9 c d hd q0 q1 q2 q3 q4 q5 q6 q7 q8 q9 w
                    | true =>
                      cases q10 : (c.ot == d.ot) with
                      | false => exact cmds_10 c d hd q0 q1 q2 q3 q4 q5 q6 q7 q8 q9 q10 w
                      | true =>
                        cases q11 : (c.ty == d.ty) with
                        | false => exact cmds_11 c d hd q0 q1 q2 q3 q4 q5 q6 q7 q8 q9 q10 q11 w
                        | true =>
                          cases q12 : (c.ig == d.ig) with
                          | false => exact cmds_12 c d hd q0 q1 q2 q3 q4 q5 q6 q7 q8 q9 q10 q11 q12 w
                          | true =>
                            cases q13 : (c.ap == d.ap) with
                            | false => exact cmds_13 c d hd q0 q1 q2 q3 q4 q5 q6 q7 q8 q9 q10 q11 q12 q13 w
                            | true =>
                              exact cmds_all c d hd q0 q1 q2 q3 q4 q5 q6 q7 q8 q9 q10 q11 q12 q13 w
end Go.Proofs.Ytdggipgieanpeaa
