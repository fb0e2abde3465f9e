/- The calls of NamesTells, NamesMakes and NamesBack return true. -/
import Derived.Test.YtiijjbepoonknaaNamesAs
namespace Go.Proofs.Ytiijjbepoonknaa
open Go.RowKit
theorem wkh_is : hostS wk1 = ⟨#[97, 58, 98]⟩ := by
  rw [hostS_yes (either_iqn wk1_is)]
  decide +kernel
theorem wke_is : hostE wk1 = 0 := hostE_yes (either_iqn wk1_is)
set_option maxHeartbeats 1000000 in
theorem wakes_any (w : World) :
    Calls Try.prog 7 #[] w fun e w' => e = .returned (.bool true) ∧ Below w.heap.size w w' := by
  have H1 := Lib.hid wk2_is
  have H2 := Lib.hid wk3_is
  have H3 := Lib.hid wkh_is
  have H4 := Lib.hid wke_is
  go_enter Try.func7, Try.ntmps7
  go_wp2_with (fail)
  refine (host_any wk1 _ (by decide)).mono ?_; rintro e w1 ⟨rfl, hb⟩
  rw [H3.out, H4.out]
  have B1 := Lib.hid hb; clear hb
  go_wp2_with (fail)
  refine (iqn_any wk2 _ (by decide)).mono ?_; rintro e w2 ⟨rfl, hb⟩
  rw [H1.out]
  have B2 := Lib.hid (B1.out.trans (hb.mono B1.out.size)); clear hb
  go_wp2_with (fail)
  refine (nqn_any wk3 _ (by decide)).mono ?_; rintro e w3 ⟨rfl, hb⟩
  rw [H2.out]
  have B3 := Lib.hid (B2.out.trans (hb.mono B2.out.size)); clear hb
  go_wp2_with (fail)
  go_ret
  exact ⟨rfl, B3.out⟩
set_option maxHeartbeats 2000000 in
theorem tells_any (s : ByteArray) (w : World) (hs : s.size ≤ maxLen) :
    Calls Try.prog 3 #[.string s] w fun e w' => e = .returned (.bool true) ∧ Below w.heap.size w w' := by
  have hm := hs
  unfold maxLen at hs
  by_cases h : s.size ≤ 20000
  · obtain ⟨x, hx⟩ : ∃ x, hostE s = x := ⟨_, rfl⟩
    have hx' : x = 0 ∨ x = 30 := by
      rw [← hx]
      unfold hostE
      split
      · exact .inl rfl
      · exact .inr rfl
    have HX := Lib.hid hx; clear hx
    go_enter Try.func3, Try.ntmps3
    go_wp2_with (fail)
    refine (host_any s _ (by omega)).mono ?_; rintro e w1 ⟨rfl, hb⟩
    rw [HX.out]
    have B1 := Lib.hid hb; clear hb
    go_wp2_with (fail)
    refine (refHost_any s _ hm).mono ?_; rintro e w2 ⟨rfl, hb⟩
    rw [HX.out]
    have B2 := Lib.hid (B1.out.trans (hb.mono B1.out.size)); clear hb
    go_wp2_with (fail)
    refine (name_any s _ hm).mono ?_; rintro e w3 ⟨rfl, hb⟩
    have B3 := Lib.hid (B2.out.trans (hb.mono B2.out.size)); clear hb
    go_wp2_with (fail)
    refine (refName_any s _ hm).mono ?_; rintro e w4 ⟨rfl, rfl⟩
    go_wp2_with (fail)
    refine (iqn_any s _ hm).mono ?_; rintro e w4 ⟨rfl, hb⟩
    have B4 := Lib.hid (B3.out.trans (hb.mono B3.out.size)); clear hb
    go_wp2_with (fail)
    refine (refIqn_any s _ hm).mono ?_; rintro e w5 ⟨rfl, hb⟩
    have B5 := Lib.hid (B4.out.trans (hb.mono B4.out.size)); clear hb
    go_wp2_with (fail)
    refine (nqn_any s _ hm).mono ?_; rintro e w6 ⟨rfl, hb⟩
    have B6 := Lib.hid (B5.out.trans (hb.mono B5.out.size)); clear hb
    go_wp2_with (fail)
    refine (refNqn_any s _ hm).mono ?_; rintro e w7 ⟨rfl, hb⟩
    have B7 := Lib.hid (B6.out.trans (hb.mono B6.out.size)); clear hb
    go_wp2_with (fail)
    refine (wakes_any _).mono ?_; rintro e w8 ⟨rfl, hb⟩
    have B8 := Lib.hid (B7.out.trans (hb.mono B7.out.size)); clear hb
    go_wp2_with (fail)
    go_ret
    exact ⟨rfl, B8.out⟩
  · have h' : 20000 < s.size := by omega
    clear h
    go_enter Try.func3, Try.ntmps3
    go_wp2_with (fail)
    refine (wakes_any _).mono ?_; rintro e w3 ⟨rfl, hb3⟩
    go_wp2_with (fail)
    go_ret
    exact ⟨rfl, hb3⟩
theorem asE_two (b : Bool) : ∃ x, asE b = x ∧ (x = 0 ∨ x = 30) := by
  refine ⟨_, rfl, ?_⟩
  unfold asE
  split
  · exact .inl rfl
  · exact .inr rfl
set_option maxHeartbeats 2000000 in
theorem makes_any (s : ByteArray) (w : World) (hs : s.size ≤ maxLen) :
    Calls Try.prog 4 #[.string s] w fun e w' => e = .returned (.bool true) ∧ Below w.heap.size w w' := by
  unfold maxLen at hs
  by_cases h : s.size ≤ 20000
  · have h1 := h
    obtain ⟨x, hx, hx'⟩ := asE_two (iqnB (i12 ++ s))
    obtain ⟨y, hy, hy'⟩ := asE_two (nqnB (n12 ++ s))
    have HX := Lib.hid hx; clear hx
    have HY := Lib.hid hy; clear hy
    go_enter Try.func4, Try.ntmps4
    go_wp2_with (fail)
    refine (asIqn_any s _ h1).mono ?_; rintro e w1 ⟨rfl, hb⟩
    rw [HX.out]
    have B1 := Lib.hid hb; clear hb
    go_wp2_with (fail)
    refine (refAsIqn_any s _ h1).mono ?_; rintro e w2 ⟨rfl, hb⟩
    rw [HX.out]
    have B2 := Lib.hid (B1.out.trans (hb.mono B1.out.size)); clear hb
    go_wp2_with (fail)
    refine (asNqn_any s _ h1).mono ?_; rintro e w3 ⟨rfl, hb⟩
    rw [HY.out]
    have B3 := Lib.hid (B2.out.trans (hb.mono B2.out.size)); clear hb
    go_wp2_with (fail)
    refine (refAsNqn_any s _ h1).mono ?_; rintro e w4 ⟨rfl, hb⟩
    rw [HY.out]
    have B4 := Lib.hid (B3.out.trans (hb.mono B3.out.size)); clear hb
    go_wp2_with (fail)
    refine (wakes_any _).mono ?_; rintro e w8 ⟨rfl, hb⟩
    have B8 := Lib.hid (B4.out.trans (hb.mono B4.out.size)); clear hb
    go_wp2_with (fail)
    go_ret
    exact ⟨rfl, B8.out⟩
  · have h' : 20000 < s.size := by omega
    clear h
    go_enter Try.func4, Try.ntmps4
    go_wp2_with (fail)
    refine (wakes_any _).mono ?_; rintro e w3 ⟨rfl, hb3⟩
    go_wp2_with (fail)
    go_ret
    exact ⟨rfl, hb3⟩
end Go.Proofs.Ytiijjbepoonknaa
