/- The calls of CrcSums, CrcRight and CrcJoins return true. -/
import Derived.Test.YtlkjkichihfkcaaDoorCrc
namespace Go.Proofs.YtlkjkichihfkcaaDoor
open Go.RowKit
set_option maxHeartbeats 1000000 in
theorem sums_any (s : ByteArray) (x : Nat) (w : World) (hs : s.size ≤ maxLen) (hx : x < 4294967296) (ht : Tab w) :
    Calls Tryd.prog 3 #[.string s, .int .u32 x] w fun e w' => e = .returned (.bool true) ∧ Below w.heap.size w w' := by
  have hs' := hs
  unfold maxLen at hs
  by_cases h : s.size ≤ 20000
  · go_enter Tryd.func3, Tryd.ntmps3
    go_wp2_with (fail)
    refine (sum_any _ _ hs' ht).mono ?_; rintro e w' ⟨rfl, rfl⟩
    go_wp2_with (fail)
    refine (refSum_any _ _ hs').mono ?_; rintro e w' ⟨rfl, rfl⟩
    go_wp2_with (fail)
    refine (more_any _ _ _ hs' hx ht).mono ?_; rintro e w' ⟨rfl, rfl⟩
    go_wp2_with (fail)
    refine (refMore_any _ _ _ hs' hx).mono ?_; rintro e w' ⟨rfl, rfl⟩
    go_wp2_with (fail)
    refine (digest_any _ _ hs' ht).mono ?_; rintro e w1 ⟨rfl, hb1⟩
    have ht1 := ht.below hb1
    have H1 := Lib.hid hb1; clear hb1
    go_wp2_with (fail)
    refine (refDigest_any _ _ hs').mono ?_; rintro e w2 ⟨rfl, hb2⟩
    have ht2 := ht1.below hb2
    have H2 := Lib.hid hb2; clear hb2
    go_wp2_with (fail)
    refine (wakes_any _ ht2).mono ?_; rintro e w3 ⟨rfl, hb3⟩
    have H3 := Lib.hid hb3; clear hb3
    go_wp2
    go_ret
    have h12 := H1.out.trans (H2.out.mono H1.out.size)
    exact ⟨rfl, h12.trans (H3.out.mono h12.size)⟩
  · have h' : 20000 < s.size := by omega
    clear h
    go_enter Tryd.func3, Tryd.ntmps3
    go_wp2_with (fail)
    refine (wakes_any _ ht).mono ?_; rintro e w3 ⟨rfl, hb3⟩
    go_wp2
    go_ret
    exact ⟨rfl, hb3⟩
set_option maxHeartbeats 1000000 in
theorem rights_in (s d : ByteArray) (w : World) (hs : s.size ≤ 20000) (hd : d.size ≤ 20000) (ht : Tab w) :
    Calls Tryd.prog 4 #[.string s, .string d] w fun e w' => e = .returned (.bool true) ∧ Below w.heap.size w w' := by
  have hs' : s.size ≤ maxLen := by unfold maxLen; omega
  go_enter Tryd.func4, Tryd.ntmps4
  go_wp2_with (fail)
  refine (right_any _ _ _ hs' ht).mono ?_; rintro e w1 ⟨rfl, hb1⟩
  have ht1 := ht.below hb1
  have H1 := Lib.hid hb1; clear hb1
  go_wp2_with (fail)
  refine (refDigest_any _ _ hs').mono ?_; rintro e w2 ⟨rfl, hb2⟩
  have ht2 := ht1.below hb2
  have H2 := Lib.hid hb2; clear hb2
  go_wp2_with (fail)
  refine (digest_any _ _ hs' ht2).mono ?_; rintro e w3 ⟨rfl, hb3⟩
  have ht3 := ht2.below hb3
  have H3 := Lib.hid hb3; clear hb3
  go_wp2_with (fail)
  refine (right_any _ _ _ hs' ht3).mono ?_; rintro e w4 ⟨rfl, hb4⟩
  have ht4 := ht3.below hb4
  have H4 := Lib.hid hb4; clear hb4
  go_wp2_with (fail)
  refine (wakes_any _ ht4).mono ?_; rintro e w5 ⟨rfl, hb5⟩
  have H5 := Lib.hid hb5; clear hb5
  go_wp2
  go_ret
  have h12 := H1.out.trans (H2.out.mono H1.out.size)
  have h13 := h12.trans (H3.out.mono h12.size)
  have h14 := h13.trans (H4.out.mono h13.size)
  exact ⟨rfl, h14.trans (H5.out.mono h14.size)⟩
theorem rights_out (s d : ByteArray) (w : World) (hs : s.size ≤ maxLen) (hd : d.size ≤ maxLen) (h : ¬ (s.size ≤ 20000 ∧ d.size ≤ 20000)) (ht : Tab w) :
    Calls Tryd.prog 4 #[.string s, .string d] w fun e w' => e = .returned (.bool true) ∧ Below w.heap.size w w' := by
  unfold maxLen at hs hd
  by_cases h1 : s.size ≤ 20000
  · have h2 : 20000 < d.size := by omega
    clear h
    go_enter Tryd.func4, Tryd.ntmps4
    go_wp2_with (fail)
    refine (wakes_any _ ht).mono ?_; rintro e w3 ⟨rfl, hb3⟩
    go_wp2
    go_ret
    exact ⟨rfl, hb3⟩
  · have h2 : 20000 < s.size := by omega
    clear h h1
    go_enter Tryd.func4, Tryd.ntmps4
    go_wp2_with (fail)
    refine (wakes_any _ ht).mono ?_; rintro e w3 ⟨rfl, hb3⟩
    go_wp2
    go_ret
    exact ⟨rfl, hb3⟩
theorem rights_any (s d : ByteArray) (w : World) (hs : s.size ≤ maxLen) (hd : d.size ≤ maxLen) (ht : Tab w) :
    Calls Tryd.prog 4 #[.string s, .string d] w fun e w' => e = .returned (.bool true) ∧ Below w.heap.size w w' := by
  by_cases h : s.size ≤ 20000 ∧ d.size ≤ 20000
  · exact rights_in s d w h.1 h.2 ht
  · exact rights_out s d w hs hd h ht
end Go.Proofs.YtlkjkichihfkcaaDoor
