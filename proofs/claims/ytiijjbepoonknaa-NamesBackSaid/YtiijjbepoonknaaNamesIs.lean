/- isQualified of the code and dated of the document: both answer qualB. -/
import Derived.Test.YtiijjbepoonknaaNamesQual
namespace Go.Proofs.Ytiijjbepoonknaa
open Go.RowKit
def strEq (a b : ByteArray) : Bool := a.toList == b.toList
def qualB (s h : ByteArray) : Bool := nameB s && decide (12 < s.size) && strEq (s.extract 0 4) h && monB (s.extract 4 12) && nameB (s.extract 12 s.size)
theorem strEq_yes {a b : ByteArray} (h : strEq a b = true) : a.toList = b.toList := by unfold strEq at h; simpa using h
theorem strEq_no {a b : ByteArray} (h : strEq a b = false) : ¬ a.toList = b.toList := by unfold strEq at h; simpa using h
theorem max_ext {s : ByteArray} (a b : Nat) (hs : s.size ≤ maxLen) : (s.extract a b).size ≤ maxLen := by rw [ByteArray.size_extract]; omega
set_option maxHeartbeats 1000000 in
theorem isQual_any (s h : ByteArray) (w : World) (hs : s.size ≤ maxLen) :
    Calls Try.prog 25 #[.string s, .string h] w fun e w' => e = .returned (.bool (qualB s h)) ∧ Below w.heap.size w w' := by
  have S0 := Lib.hid hs
  unfold maxLen at hs
  cases hN : nameB s with
  | false =>
    have HF := Lib.hid (show qualB s h = false by unfold qualB; rw [hN, Bool.false_and, Bool.false_and, Bool.false_and, Bool.false_and])
    have HN := Lib.hid hN; clear hN
    go_enter Try.func25, Try.ntmps25
    go_wp2_with (fail)
    refine (name_any _ _ S0.out).mono ?_; rintro e w1 ⟨rfl, hb⟩
    rw [HN.out]
    have H1 := Lib.hid hb; clear hb
    go_wp2_with (fail)
    go_ret
    exact ⟨ret_bool HF.out.symm, H1.out⟩
  | true =>
  have HN := Lib.hid hN
  by_cases h12 : 12 < s.size
  · have d12 : decide (12 < (s.size : Int)) = true := by simp; omega
    cases hE : strEq (s.extract 0 4) h with
    | false =>
      have HF := Lib.hid (show qualB s h = false by unfold qualB; rw [hE, Bool.and_false, Bool.false_and, Bool.false_and])
      have e1 : ((s.extract 0 4).toList == h.toList) = false := hE
      have e2 := strEq_no hE
      clear hN hE
      go_enter Try.func25, Try.ntmps25
      go_wp2_with (fail)
      refine (name_any _ _ S0.out).mono ?_; rintro e w1 ⟨rfl, hb⟩
      rw [HN.out]
      have H1 := Lib.hid hb; clear hb
      go_wp2_with (fail)
      go_ret
      exact ⟨ret_bool HF.out.symm, H1.out⟩
    | true =>
    have e1 : ((s.extract 0 4).toList == h.toList) = true := hE
    have e2 := strEq_yes hE
    have HR := Lib.hid (show qualB s h = (monB (s.extract 4 12) && nameB (s.extract 12 s.size)) by unfold qualB; rw [hN, hE, decide_eq_true h12, Bool.true_and, Bool.true_and, Bool.true_and])
    have h8 : (s.extract 4 12).size = 8 := by rw [ByteArray.size_extract]; omega
    have H8 := Lib.hid h8
    clear hN hE h8
    go_enter Try.func25, Try.ntmps25
    go_wp2_with (fail)
    refine (name_any _ _ S0.out).mono ?_; rintro e w1 ⟨rfl, hb⟩
    rw [HN.out]
    have H1 := Lib.hid hb; clear hb
    go_wp2_with (fail)
    refine (isMonth_any _ _ H8.out).mono ?_; rintro e w2 ⟨rfl, hb⟩
    have H2 := Lib.hid (H1.out.trans (hb.mono H1.out.size)); clear hb
    cases hM : monB (s.extract 4 12) with
    | false =>
      have HF := Lib.hid (HR.out.trans (by rw [hM, Bool.false_and]))
      clear hM
      go_wp2_with (fail)
      go_ret
      exact ⟨ret_bool HF.out.symm, H2.out⟩
    | true =>
    have HF := Lib.hid (HR.out.trans (by rw [hM, Bool.true_and]))
    clear hM
    go_wp2_with (fail)
    refine (name_any _ _ (max_ext _ _ S0.out)).mono ?_; rintro e w3 ⟨rfl, hb⟩
    have H3 := Lib.hid (H2.out.trans (hb.mono H2.out.size)); clear hb
    go_wp2_with (fail)
    go_ret
    exact ⟨ret_bool HF.out.symm, H3.out⟩
  · have HF := Lib.hid (show qualB s h = false by unfold qualB; rw [decide_eq_false h12, Bool.and_false, Bool.false_and, Bool.false_and, Bool.false_and])
    have d12 : decide (12 < (s.size : Int)) = false := by simp; omega
    clear hN
    go_enter Try.func25, Try.ntmps25
    go_wp2_with (fail)
    refine (name_any _ _ S0.out).mono ?_; rintro e w1 ⟨rfl, hb⟩
    rw [HN.out]
    have H1 := Lib.hid hb; clear hb
    go_wp2_with (fail)
    go_ret
    exact ⟨ret_bool HF.out.symm, H1.out⟩
end Go.Proofs.Ytiijjbepoonknaa
