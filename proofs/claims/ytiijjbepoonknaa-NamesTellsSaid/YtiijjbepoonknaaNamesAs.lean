/- AsIqn and AsNqn of the code and of the document; wakes. -/
import Derived.Test.YtiijjbepoonknaaNamesHost
namespace Go.Proofs.Ytiijjbepoonknaa
open Go.RowKit
def m8 : ByteArray := ⟨#[50, 48, 50, 48, 45, 48, 49, 46]⟩
def i12 : ByteArray := ⟨#[105, 113, 110, 46, 50, 48, 50, 48, 45, 48, 49, 46]⟩
def n12 : ByteArray := ⟨#[110, 113, 110, 46, 50, 48, 50, 48, 45, 48, 49, 46]⟩
theorem i12_is : iqnS ++ m8 = i12 := by decide +kernel
theorem n12_is : nqnS ++ m8 = n12 := by decide +kernel
def asS (s : ByteArray) (b : Bool) : ByteArray := if b = true then s else ⟨#[]⟩
def asE (b : Bool) : Int := if b = true then 0 else 30
theorem asS_yes {s : ByteArray} {b : Bool} (h : b = true) : asS s b = s := by rw [h]; rfl
theorem asE_yes {b : Bool} (h : b = true) : asE b = 0 := by rw [h]; rfl
theorem asS_no {s : ByteArray} {b : Bool} (h : b = false) : asS s b = ⟨#[]⟩ := by rw [h]; rfl
theorem asE_no {b : Bool} (h : b = false) : asE b = 30 := by rw [h]; rfl
set_option maxHeartbeats 1000000 in
theorem qualify_any (d h : ByteArray) (w : World) (hd : d.size ≤ 100) (hh : h.size ≤ 20000) :
    Calls Try.prog 27 #[.string d, .string h] w fun e w' => e = .returned (.tuple #[.string (asS (d ++ m8 ++ h) (qualB (d ++ m8 ++ h) d)), .int .i64 (asE (qualB (d ++ m8 ++ h) d))]) ∧ Below w.heap.size w w' := by
  have hz : (d ++ m8 ++ h).size ≤ maxLen := by
    rw [ByteArray.size_append, ByteArray.size_append]
    have : m8.size = 8 := rfl
    unfold maxLen; omega
  have HZ := Lib.hid hz; clear hz
  have m8z : m8.size = 8 := rfl
  have k1 : ¬ 9223372036854775807 < d.size + m8.size := by omega
  have k2 : ¬ 9223372036854775807 < d.size + m8.size + h.size := by omega
  clear m8z
  have hm : (⟨#[50, 48, 50, 48, 45, 48, 49, 46]⟩ : ByteArray) = m8 := rfl
  cases hq : qualB (d ++ m8 ++ h) d with
  | true =>
    have HQ := Lib.hid hq
    have HS := Lib.hid (asS_yes (s := d ++ m8 ++ h) (b := true) rfl)
    have HE := Lib.hid (asE_yes (b := true) rfl)
    clear hq
    go_enter Try.func27, Try.ntmps27
    go_wp2_with (fail)
    refine (isQual_any _ _ _ HZ.out).mono ?_; rintro e w1 ⟨rfl, hb⟩
    rw [HQ.out]
    go_wp2_with (fail)
    go_ret2
    exact ⟨ret_str HS.out.symm HE.out.symm, hb⟩
  | false =>
    have HQ := Lib.hid hq
    have HS := Lib.hid (asS_no (s := d ++ m8 ++ h) (b := false) rfl)
    have HE := Lib.hid (asE_no (b := false) rfl)
    clear hq
    go_enter Try.func27, Try.ntmps27
    go_wp2_with (fail)
    refine (isQual_any _ _ _ HZ.out).mono ?_; rintro e w1 ⟨rfl, hb⟩
    rw [HQ.out]
    go_wp2_with (fail)
    go_ret2
    exact ⟨ret_str HS.out.symm HE.out.symm, hb⟩
set_option maxHeartbeats 400000 in
theorem asIqn_any (h : ByteArray) (w : World) (hh : h.size ≤ 20000) :
    Calls Try.prog 16 #[.string h] w fun e w' => e = .returned (.tuple #[.string (asS (i12 ++ h) (iqnB (i12 ++ h))), .int .i64 (asE (iqnB (i12 ++ h)))]) ∧ Below w.heap.size w w' := by
  have HI := Lib.hid i12_is
  go_enter Try.func16, Try.ntmps16
  go_wp2_with (fail)
  refine (qualify_any iqnS _ _ (by decide) hh).mono ?_; rintro e w1 ⟨rfl, hb⟩
  rw [HI.out]
  go_wp2_with (fail)
  go_ret2
  exact ⟨rfl, hb⟩
set_option maxHeartbeats 400000 in
theorem asNqn_any (h : ByteArray) (w : World) (hh : h.size ≤ 20000) :
    Calls Try.prog 18 #[.string h] w fun e w' => e = .returned (.tuple #[.string (asS (n12 ++ h) (nqnB (n12 ++ h))), .int .i64 (asE (nqnB (n12 ++ h)))]) ∧ Below w.heap.size w w' := by
  have HI := Lib.hid n12_is
  go_enter Try.func18, Try.ntmps18
  go_wp2_with (fail)
  refine (qualify_any nqnS _ _ (by decide) hh).mono ?_; rintro e w1 ⟨rfl, hb⟩
  rw [HI.out]
  go_wp2_with (fail)
  go_ret2
  exact ⟨rfl, hb⟩
set_option maxHeartbeats 1000000 in
theorem refAsIqn_any (h : ByteArray) (w : World) (hh : h.size ≤ 20000) :
    Calls Try.prog 17 #[.string h] w fun e w' => e = .returned (.tuple #[.string (asS (i12 ++ h) (iqnB (i12 ++ h))), .int .i64 (asE (iqnB (i12 ++ h)))]) ∧ Below w.heap.size w w' := by
  have z12 : i12.size = 12 := rfl
  have hz : (i12 ++ h).size ≤ maxLen := by rw [ByteArray.size_append]; unfold maxLen; omega
  have HZ := Lib.hid hz; clear hz
  have k1 : ¬ 9223372036854775807 < i12.size + h.size := by omega
  clear z12
  have hm : (⟨#[105, 113, 110, 46, 50, 48, 50, 48, 45, 48, 49, 46]⟩ : ByteArray) = i12 := rfl
  cases hq : iqnB (i12 ++ h) with
  | true =>
    have HQ := Lib.hid hq
    have HS := Lib.hid (asS_yes (s := i12 ++ h) (b := true) rfl)
    have HE := Lib.hid (asE_yes (b := true) rfl)
    clear hq
    go_enter Try.func17, Try.ntmps17
    go_wp2_with (fail)
    refine (refIqn_any _ _ HZ.out).mono ?_; rintro e w1 ⟨rfl, hb⟩
    rw [HQ.out]
    go_wp2_with (fail)
    go_ret2
    exact ⟨ret_str HS.out.symm HE.out.symm, hb⟩
  | false =>
    have HQ := Lib.hid hq
    have HS := Lib.hid (asS_no (s := i12 ++ h) (b := false) rfl)
    have HE := Lib.hid (asE_no (b := false) rfl)
    clear hq
    go_enter Try.func17, Try.ntmps17
    go_wp2_with (fail)
    refine (refIqn_any _ _ HZ.out).mono ?_; rintro e w1 ⟨rfl, hb⟩
    rw [HQ.out]
    go_wp2_with (fail)
    go_ret2
    exact ⟨ret_str HS.out.symm HE.out.symm, hb⟩
set_option maxHeartbeats 1000000 in
theorem refAsNqn_any (h : ByteArray) (w : World) (hh : h.size ≤ 20000) :
    Calls Try.prog 19 #[.string h] w fun e w' => e = .returned (.tuple #[.string (asS (n12 ++ h) (nqnB (n12 ++ h))), .int .i64 (asE (nqnB (n12 ++ h)))]) ∧ Below w.heap.size w w' := by
  have z12 : n12.size = 12 := rfl
  have hz : (n12 ++ h).size ≤ maxLen := by rw [ByteArray.size_append]; unfold maxLen; omega
  have HZ := Lib.hid hz; clear hz
  have k1 : ¬ 9223372036854775807 < n12.size + h.size := by omega
  clear z12
  have hm : (⟨#[110, 113, 110, 46, 50, 48, 50, 48, 45, 48, 49, 46]⟩ : ByteArray) = n12 := rfl
  cases hq : nqnB (n12 ++ h) with
  | true =>
    have HQ := Lib.hid hq
    have HS := Lib.hid (asS_yes (s := n12 ++ h) (b := true) rfl)
    have HE := Lib.hid (asE_yes (b := true) rfl)
    clear hq
    go_enter Try.func19, Try.ntmps19
    go_wp2_with (fail)
    refine (refNqn_any _ _ HZ.out).mono ?_; rintro e w1 ⟨rfl, hb⟩
    rw [HQ.out]
    go_wp2_with (fail)
    go_ret2
    exact ⟨ret_str HS.out.symm HE.out.symm, hb⟩
  | false =>
    have HQ := Lib.hid hq
    have HS := Lib.hid (asS_no (s := n12 ++ h) (b := false) rfl)
    have HE := Lib.hid (asE_no (b := false) rfl)
    clear hq
    go_enter Try.func19, Try.ntmps19
    go_wp2_with (fail)
    refine (refNqn_any _ _ HZ.out).mono ?_; rintro e w1 ⟨rfl, hb⟩
    rw [HQ.out]
    go_wp2_with (fail)
    go_ret2
    exact ⟨ret_str HS.out.symm HE.out.symm, hb⟩
def wk1 : ByteArray := ⟨#[105, 113, 110, 46, 50, 48, 50, 48, 45, 48, 49, 46, 97, 58, 98]⟩
def wk2 : ByteArray := ⟨#[105, 113, 110, 46, 50, 48, 50, 48, 45, 49, 51, 46, 97]⟩
def wk3 : ByteArray := ⟨#[110, 113, 110, 46, 50, 48, 50, 48, 45, 49, 50, 46, 97]⟩
theorem wk1_is : iqnB wk1 = true := by decide +kernel
theorem wk2_is : iqnB wk2 = false := by decide +kernel
theorem wk3_is : nqnB wk3 = true := by decide +kernel
end Go.Proofs.Ytiijjbepoonknaa
