/- The call of CrcJoins returns true. -/
import Derived.Test.YtlkjkichihfkcaaDoorCrc
namespace Go.Proofs.YtlkjkichihfkcaaDoor
open Go.RowKit
theorem lst_append (a b : ByteArray) : lst (a ++ b) = lst a ++ lst b := by unfold lst; rw [ByteArray.data_append, Array.toList_append]
theorem join_sum (a b : ByteArray) : moreV (sumV a) (lst b) = sumV (a ++ b) := by
  unfold sumV; rw [lst_append, moreV_append]
theorem nil_sum (a : ByteArray) : moreV (sumV a) (lst ⟨#[]⟩) = sumV a := moreV_nil _
set_option maxHeartbeats 1000000 in
theorem joins_in (a b c : ByteArray) (w : World) (ha : a.size ≤ 20000) (hb : b.size ≤ 20000) (hc : c.size ≤ 20000) (ht : Tab w) :
    Calls Tryd.prog 5 #[.string a, .string b, .string c] w fun e w' => e = .returned (.bool true) ∧ Below w.heap.size w w' := by
  have ha' : a.size ≤ maxLen := by unfold maxLen; omega
  have hb' : b.size ≤ maxLen := by unfold maxLen; omega
  have hc' : c.size ≤ maxLen := by unfold maxLen; omega
  have hab : (a ++ b).size ≤ maxLen := by rw [ByteArray.size_append]; unfold maxLen; omega
  have habc : (a ++ b ++ c).size ≤ maxLen := by rw [ByteArray.size_append, ByteArray.size_append]; unfold maxLen; omega
  have J1 := Lib.hid (join_sum a b)
  have J2 := Lib.hid (join_sum (a ++ b) c)
  have J3 := Lib.hid (nil_sum a)
  have HAB := Lib.hid hab
  have HABC := Lib.hid habc
  clear hab habc
  have l1 := sumV_lt a
  have l2 := sumV_lt (a ++ b)
  go_enter Tryd.func5, Tryd.ntmps5
  go_wp2_with (fail)
  refine (sum_any _ _ ha' ht).mono ?_; rintro e w' ⟨rfl, rfl⟩
  go_wp2_with (fail)
  refine (more_any _ _ _ hb' l1 ht).mono ?_; rintro e w' ⟨rfl, rfl⟩
  rw [J1.out]
  go_wp2_with (fail)
  refine (sum_any _ _ HAB.out ht).mono ?_; rintro e w' ⟨rfl, rfl⟩
  go_wp2_with (fail)
  refine (sum_any _ _ ha' ht).mono ?_; rintro e w' ⟨rfl, rfl⟩
  go_wp2_with (fail)
  refine (more_any _ _ _ hb' l1 ht).mono ?_; rintro e w' ⟨rfl, rfl⟩
  rw [J1.out]
  go_wp2_with (fail)
  refine (more_any _ _ _ hc' l2 ht).mono ?_; rintro e w' ⟨rfl, rfl⟩
  rw [J2.out]
  go_wp2_with (fail)
  refine (sum_any _ _ HABC.out ht).mono ?_; rintro e w' ⟨rfl, rfl⟩
  go_wp2_with (fail)
  refine (sum_any _ _ ha' ht).mono ?_; rintro e w' ⟨rfl, rfl⟩
  go_wp2_with (fail)
  refine (more_any _ _ _ (by unfold maxLen; decide) l1 ht).mono ?_; rintro e w' ⟨rfl, rfl⟩
  rw [J3.out]
  go_wp2_with (fail)
  refine (sum_any _ _ ha' ht).mono ?_; rintro e w' ⟨rfl, rfl⟩
  go_wp2_with (fail)
  refine (wakes_any _ ht).mono ?_; rintro e w5 ⟨rfl, hb5⟩
  go_wp2
  go_ret
  exact ⟨rfl, hb5⟩
theorem joins_out (a b c : ByteArray) (w : World) (ha : a.size ≤ maxLen) (hb : b.size ≤ maxLen) (hc : c.size ≤ maxLen) (h : ¬ (a.size ≤ 20000 ∧ b.size ≤ 20000 ∧ c.size ≤ 20000)) (ht : Tab w) :
    Calls Tryd.prog 5 #[.string a, .string b, .string c] w fun e w' => e = .returned (.bool true) ∧ Below w.heap.size w w' := by
  unfold maxLen at ha hb hc
  by_cases h1 : a.size ≤ 20000
  · by_cases h2 : b.size ≤ 20000
    · have h3 : 20000 < c.size := by omega
      clear h
      go_enter Tryd.func5, Tryd.ntmps5
      go_wp2_with (fail)
      refine (wakes_any _ ht).mono ?_; rintro e w3 ⟨rfl, hb3⟩
      go_wp2
      go_ret
      exact ⟨rfl, hb3⟩
    · have h3 : 20000 < b.size := by omega
      clear h h2
      go_enter Tryd.func5, Tryd.ntmps5
      go_wp2_with (fail)
      refine (wakes_any _ ht).mono ?_; rintro e w3 ⟨rfl, hb3⟩
      go_wp2
      go_ret
      exact ⟨rfl, hb3⟩
  · have h3 : 20000 < a.size := by omega
    clear h h1
    go_enter Tryd.func5, Tryd.ntmps5
    go_wp2_with (fail)
    refine (wakes_any _ ht).mono ?_; rintro e w3 ⟨rfl, hb3⟩
    go_wp2
    go_ret
    exact ⟨rfl, hb3⟩
theorem joins_any (a b c : ByteArray) (w : World) (ha : a.size ≤ maxLen) (hb : b.size ≤ maxLen) (hc : c.size ≤ maxLen) (ht : Tab w) :
    Calls Tryd.prog 5 #[.string a, .string b, .string c] w fun e w' => e = .returned (.bool true) ∧ Below w.heap.size w w' := by
  by_cases h : a.size ≤ 20000 ∧ b.size ≤ 20000 ∧ c.size ≤ 20000
  · exact joins_in a b c w h.1 h.2.1 h.2.2 ht
  · exact joins_out a b c w ha hb hc h ht
end Go.Proofs.YtlkjkichihfkcaaDoor
