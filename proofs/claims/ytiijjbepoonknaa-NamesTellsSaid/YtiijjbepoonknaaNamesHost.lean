/- Iqn, Nqn, Host, AsIqn and AsNqn of the code and of the document. -/
import Derived.Test.YtiijjbepoonknaaNamesDated
import Derived.Test.YtiijjbepoonknaaShelf
namespace Go.Proofs.Ytiijjbepoonknaa
open Go.RowKit
def iqnS : ByteArray := ⟨#[105, 113, 110, 46]⟩
def nqnS : ByteArray := ⟨#[110, 113, 110, 46]⟩
def iqnB (s : ByteArray) : Bool := qualB s iqnS
def nqnB (s : ByteArray) : Bool := qualB s nqnS
def eitherB (s : ByteArray) : Bool := iqnB s || nqnB s
def hostS (s : ByteArray) : ByteArray := if eitherB s = true then s.extract 12 s.size else ⟨#[]⟩
def hostE (s : ByteArray) : Int := if eitherB s = true then 0 else 30
theorem ret_str {a b : ByteArray} {k : IntKind} {c d : Int} (h : a = b) (g : c = d) : Ending.returned (.tuple #[.string a, .int k c]) = .returned (.tuple #[.string b, .int k d]) := by rw [h, g]
theorem either_iqn {s : ByteArray} (h : iqnB s = true) : eitherB s = true := by unfold eitherB; rw [h, Bool.true_or]
theorem either_nqn {s : ByteArray} (h : nqnB s = true) : eitherB s = true := by unfold eitherB; rw [h, Bool.or_true]
theorem either_no {s : ByteArray} (h : iqnB s = false) (g : nqnB s = false) : eitherB s = false := by unfold eitherB; rw [h, g, Bool.or_false]
theorem either_size {s : ByteArray} (h : eitherB s = true) : 12 < s.size := by
  apply Decidable.byContradiction
  intro g
  have := either_no (show iqnB s = false from qualB_short g) (show nqnB s = false from qualB_short g)
  rw [this] at h
  cases h
theorem hostS_yes {s : ByteArray} (h : eitherB s = true) : hostS s = s.extract 12 s.size := by unfold hostS; rw [if_pos h]
theorem hostE_yes {s : ByteArray} (h : eitherB s = true) : hostE s = 0 := by unfold hostE; rw [if_pos h]
theorem hostS_no {s : ByteArray} (h : eitherB s = false) : hostS s = ⟨#[]⟩ := by unfold hostS; rw [h]; rfl
theorem hostE_no {s : ByteArray} (h : eitherB s = false) : hostE s = 30 := by unfold hostE; rw [h]; rfl
set_option maxHeartbeats 400000 in
theorem iqn_any (s : ByteArray) (w : World) (hs : s.size ≤ maxLen) :
    Calls Try.prog 12 #[.string s] w fun e w' => e = .returned (.bool (iqnB s)) ∧ Below w.heap.size w w' := by
  go_enter Try.func12, Try.ntmps12
  go_wp2_with (fail)
  refine (isQual_any s iqnS _ hs).mono ?_; rintro e w1 ⟨rfl, hb⟩
  go_wp2_with (fail)
  go_ret
  exact ⟨rfl, hb⟩
set_option maxHeartbeats 400000 in
theorem nqn_any (s : ByteArray) (w : World) (hs : s.size ≤ maxLen) :
    Calls Try.prog 14 #[.string s] w fun e w' => e = .returned (.bool (nqnB s)) ∧ Below w.heap.size w w' := by
  go_enter Try.func14, Try.ntmps14
  go_wp2_with (fail)
  refine (isQual_any s nqnS _ hs).mono ?_; rintro e w1 ⟨rfl, hb⟩
  go_wp2_with (fail)
  go_ret
  exact ⟨rfl, hb⟩
set_option maxHeartbeats 400000 in
theorem refIqn_any (s : ByteArray) (w : World) (hs : s.size ≤ maxLen) :
    Calls Try.prog 13 #[.string s] w fun e w' => e = .returned (.bool (iqnB s)) ∧ Below w.heap.size w w' := by
  go_enter Try.func13, Try.ntmps13
  go_wp2_with (fail)
  refine (dated_any s iqnS _ hs).mono ?_; rintro e w1 ⟨rfl, hb⟩
  go_wp2_with (fail)
  go_ret
  exact ⟨rfl, hb⟩
set_option maxHeartbeats 400000 in
theorem refNqn_any (s : ByteArray) (w : World) (hs : s.size ≤ maxLen) :
    Calls Try.prog 15 #[.string s] w fun e w' => e = .returned (.bool (nqnB s)) ∧ Below w.heap.size w w' := by
  go_enter Try.func15, Try.ntmps15
  go_wp2_with (fail)
  refine (dated_any s nqnS _ hs).mono ?_; rintro e w1 ⟨rfl, hb⟩
  go_wp2_with (fail)
  go_ret
  exact ⟨rfl, hb⟩
set_option maxHeartbeats 400000 in
theorem clone_any (s : ByteArray) (w : World) (hs : s.size ≤ 281474976710656) :
    Calls Try.prog 21 #[.string s] w fun e w' => e = .returned (.string s) ∧ Below w.heap.size w w' := by
  go_enter Try.func21, Try.ntmps21
  go_wp2_with (fail)
  refine (Try.stringslite_Clone s _ hs).mono ?_; rintro e w1 ⟨rfl, hb⟩
  go_wp2_with (fail)
  go_ret
  exact ⟨rfl, hb⟩
set_option maxHeartbeats 1000000 in
theorem host_any (s : ByteArray) (w : World) (hs : s.size ≤ 281474976710656) :
    Calls Try.prog 8 #[.string s] w fun e w' => e = .returned (.tuple #[.string (hostS s), .int .i64 (hostE s)]) ∧ Below w.heap.size w w' := by
  have hm : s.size ≤ maxLen := by unfold maxLen; omega
  have hx : (s.extract 12 s.size).size ≤ 281474976710656 := by rw [ByteArray.size_extract]; omega
  have HX := Lib.hid hx; clear hx
  cases hI : iqnB s with
  | true =>
    have he := either_iqn hI
    have hz := either_size he
    have HS := Lib.hid (hostS_yes he)
    have HE := Lib.hid (hostE_yes he)
    have HI := Lib.hid hI
    clear he hI
    go_enter Try.func8, Try.ntmps8
    go_wp2_with (fail)
    refine (iqn_any _ _ hm).mono ?_; rintro e w1 ⟨rfl, hb⟩
    rw [HI.out]
    have H1 := Lib.hid hb; clear hb
    go_wp2_with (fail)
    refine (clone_any _ _ HX.out).mono ?_; rintro e w2 ⟨rfl, hb⟩
    have H2 := Lib.hid (H1.out.trans (hb.mono H1.out.size)); clear hb
    go_wp2_with (fail)
    go_ret2
    exact ⟨ret_str HS.out.symm HE.out.symm, H2.out⟩
  | false =>
  cases hN : nqnB s with
  | true =>
    have he := either_nqn hN
    have hz := either_size he
    have HS := Lib.hid (hostS_yes he)
    have HE := Lib.hid (hostE_yes he)
    have HI := Lib.hid hI
    have HN := Lib.hid hN
    clear he hI hN
    go_enter Try.func8, Try.ntmps8
    go_wp2_with (fail)
    refine (iqn_any _ _ hm).mono ?_; rintro e w1 ⟨rfl, hb⟩
    rw [HI.out]
    have H1 := Lib.hid hb; clear hb
    go_wp2_with (fail)
    refine (nqn_any _ _ hm).mono ?_; rintro e w2 ⟨rfl, hb⟩
    rw [HN.out]
    have H2 := Lib.hid (H1.out.trans (hb.mono H1.out.size)); clear hb
    go_wp2_with (fail)
    refine (clone_any _ _ HX.out).mono ?_; rintro e w3 ⟨rfl, hb⟩
    have H3 := Lib.hid (H2.out.trans (hb.mono H2.out.size)); clear hb
    go_wp2_with (fail)
    go_ret2
    exact ⟨ret_str HS.out.symm HE.out.symm, H3.out⟩
  | false =>
    have he := either_no hI hN
    have HS := Lib.hid (hostS_no he)
    have HE := Lib.hid (hostE_no he)
    have HI := Lib.hid hI
    have HN := Lib.hid hN
    clear he hI hN
    go_enter Try.func8, Try.ntmps8
    go_wp2_with (fail)
    refine (iqn_any _ _ hm).mono ?_; rintro e w1 ⟨rfl, hb⟩
    rw [HI.out]
    have H1 := Lib.hid hb; clear hb
    go_wp2_with (fail)
    refine (nqn_any _ _ hm).mono ?_; rintro e w2 ⟨rfl, hb⟩
    rw [HN.out]
    have H2 := Lib.hid (H1.out.trans (hb.mono H1.out.size)); clear hb
    go_wp2_with (fail)
    go_ret2
    exact ⟨ret_str HS.out.symm HE.out.symm, H2.out⟩
set_option maxHeartbeats 1000000 in
theorem refHost_any (s : ByteArray) (w : World) (hm : s.size ≤ maxLen) :
    Calls Try.prog 9 #[.string s] w fun e w' => e = .returned (.tuple #[.string (hostS s), .int .i64 (hostE s)]) ∧ Below w.heap.size w w' := by
  have hs := hm
  unfold maxLen at hs
  cases hI : iqnB s with
  | true =>
    have he := either_iqn hI
    have hz := either_size he
    have HS := Lib.hid (hostS_yes he)
    have HE := Lib.hid (hostE_yes he)
    have HI := Lib.hid hI
    clear he hI
    go_enter Try.func9, Try.ntmps9
    go_wp2_with (fail)
    refine (refIqn_any _ _ hm).mono ?_; rintro e w1 ⟨rfl, hb⟩
    rw [HI.out]
    have H1 := Lib.hid hb; clear hb
    go_wp2_with (fail)
    go_ret2
    exact ⟨ret_str HS.out.symm HE.out.symm, H1.out⟩
  | false =>
  cases hN : nqnB s with
  | true =>
    have he := either_nqn hN
    have hz := either_size he
    have HS := Lib.hid (hostS_yes he)
    have HE := Lib.hid (hostE_yes he)
    have HI := Lib.hid hI
    have HN := Lib.hid hN
    clear he hI hN
    go_enter Try.func9, Try.ntmps9
    go_wp2_with (fail)
    refine (refIqn_any _ _ hm).mono ?_; rintro e w1 ⟨rfl, hb⟩
    rw [HI.out]
    have H1 := Lib.hid hb; clear hb
    go_wp2_with (fail)
    refine (refNqn_any _ _ hm).mono ?_; rintro e w2 ⟨rfl, hb⟩
    rw [HN.out]
    have H2 := Lib.hid (H1.out.trans (hb.mono H1.out.size)); clear hb
    go_wp2_with (fail)
    go_ret2
    exact ⟨ret_str HS.out.symm HE.out.symm, H2.out⟩
  | false =>
    have he := either_no hI hN
    have HS := Lib.hid (hostS_no he)
    have HE := Lib.hid (hostE_no he)
    have HI := Lib.hid hI
    have HN := Lib.hid hN
    clear he hI hN
    go_enter Try.func9, Try.ntmps9
    go_wp2_with (fail)
    refine (refIqn_any _ _ hm).mono ?_; rintro e w1 ⟨rfl, hb⟩
    rw [HI.out]
    have H1 := Lib.hid hb; clear hb
    go_wp2_with (fail)
    refine (refNqn_any _ _ hm).mono ?_; rintro e w2 ⟨rfl, hb⟩
    rw [HN.out]
    have H2 := Lib.hid (H1.out.trans (hb.mono H1.out.size)); clear hb
    go_wp2_with (fail)
    go_ret2
    exact ⟨ret_str HS.out.symm HE.out.symm, H2.out⟩
end Go.Proofs.Ytiijjbepoonknaa
