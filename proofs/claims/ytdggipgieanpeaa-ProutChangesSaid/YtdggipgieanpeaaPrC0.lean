/- Two lists of ranges, the second one empty. -/
import Derived.Test.YtdggipgieanpeaaPrB
namespace Go.Proofs.Ytdggipgieanpeaa
open Go.RowKit
theorem ranges_zero (A B : Option Addr) (n a b : Nat) (w : World) : Calls Try.prog 23 #[.slice A n a, .slice B 0 b] w fun e w' => e = .returned (.bool (n == 0)) ∧ w' = w := by
  by_cases h : n = 0
  · subst h
    go_enter Try.func23, Try.ntmps23
    go_wp2_with (fail)
    go_loop [5] (fun i => i = .int .i64 0) (fun _ => 0)
    case atStart => rfl
    case round =>
      subst hrel
      go_wp2_with (fail)
      go_ret
      exact ⟨rfl, rfl⟩
  · have q : ¬ (n : Int) = 0 := by omega
    have q2 : ((n : Int) != 0) = true := by rw [bne_iff_ne]; omega
    have q3 : ¬ n = 0 := h
    have HV := Lib.hid (show (n == 0) = false by simpa using h)
    clear h
    go_enter Try.func23, Try.ntmps23
    go_wp2_with (fail)
    go_ret
    exact ⟨by rw [HV.out]; rfl, rfl⟩
end Go.Proofs.Ytdggipgieanpeaa
