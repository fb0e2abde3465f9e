/- Are two commands alike: the code's same. -/
import Derived.Test.YtdggipgieanpeaaPrU1
import Derived.Test.YtdggipgieanpeaaPrU2
import Derived.Test.YtdggipgieanpeaaPrU3
namespace Go.Proofs.Ytdggipgieanpeaa.Pc
open Go.RowKit
theorem psame_any (c d : Kc) (hd : d.rn = 0) (w : World) : Calls Try.prog 21 #[kcV d, kcV c] w fun e w' => e = .returned (.bool (sameK c d)) ∧ Below w.heap.size w w' := by
  cases q0 : (d.op == c.op) with
  | false => exact psame_0 c d hd q0 w
  | true =>
    cases q1 : (d.lu == c.lu) with
    | false => exact psame_1 c d hd q0 q1 w
    | true =>
      cases q2 : (d.ho.toList == c.ho.toList) with
      | false => exact psame_2 c d hd q0 q1 q2 w
      | true =>
        cases q3 : (d.lb == c.lb) with
        | false => exact psame_3 c d hd q0 q1 q2 q3 w
        | true =>
          cases q4 : (d.bl == c.bl) with
          | false => exact psame_4 c d hd q0 q1 q2 q3 q4 w
          | true =>
            cases q5 : (d.da.toList == c.da.toList) with
            | false => exact psame_5 c d hd q0 q1 q2 q3 q4 q5 w
            | true =>
              cases q6 : (d.fu == c.fu) with
              | false => exact psame_6 c d hd q0 q1 q2 q3 q4 q5 q6 w
              | true =>
                cases q7 : (c.rn == 0) with
                | false => exact psame_7 c d hd q0 q1 q2 q3 q4 q5 q6 q7 w
                | true =>
                  cases q8 : (d.ke == c.ke) with
                  | false => exact psame_8 c d hd q0 q1 q2 q3 q4 q5 q6 q7 q8 w
                  | true =>
                    cases q9 : (d.nk == c.nk) with
                    | false => exact psame_9 c d hd q0 q1 q2 q3 q4 q5 q6 q7 q8 q9 w
                    | true =>
                      cases q10 : (d.ot == c.ot) with
                      | false => exact psame_10 c d hd q0 q1 q2 q3 q4 q5 q6 q7 q8 q9 q10 w
                      | true =>
                        cases q11 : (d.ty == c.ty) with
                        | false => exact psame_11 c d hd q0 q1 q2 q3 q4 q5 q6 q7 q8 q9 q10 q11 w
                        | true =>
                          cases q12 : (d.ig == c.ig) with
                          | false => exact psame_12 c d hd q0 q1 q2 q3 q4 q5 q6 q7 q8 q9 q10 q11 q12 w
                          | true =>
                            cases q13 : (d.ap == c.ap) with
                            | false => exact psame_13 c d hd q0 q1 q2 q3 q4 q5 q6 q7 q8 q9 q10 q11 q12 q13 w
                            | true =>
                              exact psame_all c d hd q0 q1 q2 q3 q4 q5 q6 q7 q8 q9 q10 q11 q12 q13 w
end Go.Proofs.Ytdggipgieanpeaa.Pc
