/- The calls of FieldsReads and FieldsWrites return true. -/
import Derived.Test.YtkedklfhgfaddaaWakes
namespace Go.Proofs.Ytkedklfhgfaddaa
open Go.RowKit
set_option maxHeartbeats 1000000 in
theorem reads_any (s : ByteArray) (a n : Int) (w : World) (hs : s.size ≤ maxLen) :
    Calls Try.prog 3 #[.string s, .int .i64 a, .int .i64 n] w fun e w' => e = .returned (.bool true) ∧ Below w.heap.size w w' := by
  have hs' := hs
  unfold maxLen at hs
  by_cases h : s.size ≤ 100000
  · go_enter Try.func3, Try.ntmps3
    go_wp2_with (fail)
    refine (big_any _ _ _ _ hs').mono ?_; rintro e w1 ⟨rfl, hb1⟩
    have H1 := Lib.hid hb1; clear hb1
    go_wp2_with (fail)
    refine (refBig_any _ _ _ _ hs').mono ?_; rintro e w2 ⟨rfl, rfl⟩
    go_wp2_with (fail)
    refine (little_any _ _ _ _ hs').mono ?_; rintro e w3 ⟨rfl, hb3⟩
    have H3 := Lib.hid hb3; clear hb3
    go_wp2_with (fail)
    refine (refLittle_any _ _ _ _ hs').mono ?_; rintro e w4 ⟨rfl, rfl⟩
    go_wp2_with (fail)
    refine (wakes_any _).mono ?_; rintro e w5 ⟨rfl, hb5⟩
    have H5 := Lib.hid hb5; clear hb5
    go_wp2
    go_ret
    have h13 := H1.out.trans (H3.out.mono H1.out.size)
    exact ⟨rfl, h13.trans (H5.out.mono h13.size)⟩
  · have h' : 100000 < s.size := by omega
    clear h
    go_enter Try.func3, Try.ntmps3
    go_wp2_with (fail)
    refine (wakes_any _).mono ?_; rintro e w5 ⟨rfl, hb5⟩
    go_wp2
    go_ret
    exact ⟨rfl, hb5⟩
set_option maxHeartbeats 1000000 in
theorem writes_any (x : Nat) (n : Int) (w : World) (hx : x < 18446744073709551616) :
    Calls Try.prog 4 #[.int .u64 x, .int .i64 n] w fun e w' => e = .returned (.bool true) ∧ Below w.heap.size w w' := by
  go_enter Try.func4, Try.ntmps4
  go_wp2_with (fail)
  refine (putBig_any _ _ _).mono ?_; rintro e w1 ⟨rfl, hb1⟩
  have H1 := Lib.hid hb1; clear hb1
  go_wp2_with (fail)
  refine (refPutBig_any _ _ _ hx).mono ?_; rintro e w2 ⟨rfl, hb2⟩
  have H2 := Lib.hid hb2; clear hb2
  go_wp2_with (fail)
  refine (putLittle_any _ _ _).mono ?_; rintro e w3 ⟨rfl, hb3⟩
  have H3 := Lib.hid hb3; clear hb3
  go_wp2_with (fail)
  refine (refPutLittle_any _ _ _ hx).mono ?_; rintro e w4 ⟨rfl, hb4⟩
  have H4 := Lib.hid hb4; clear hb4
  go_wp2_with (fail)
  refine (wakes_any _).mono ?_; rintro e w5 ⟨rfl, hb5⟩
  have H5 := Lib.hid hb5; clear hb5
  go_wp2
  go_ret
  have h12 := H1.out.trans (H2.out.mono H1.out.size)
  have h13 := h12.trans (H3.out.mono h12.size)
  have h14 := h13.trans (H4.out.mono h13.size)
  exact ⟨rfl, h14.trans (H5.out.mono h14.size)⟩
end Go.Proofs.Ytkedklfhgfaddaa
