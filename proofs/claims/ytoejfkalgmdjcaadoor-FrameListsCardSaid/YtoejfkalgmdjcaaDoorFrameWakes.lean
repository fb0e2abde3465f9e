/- That the small example with which each statement asks first comes out true; FramePuts. -/
import Derived.Test.YtoejfkalgmdjcaaDoorFrameMath
namespace Go.Proofs.YtoejfkalgmdjcaaDoor
open Go.RowKit
def abS : ByteArray := ⟨#[97, 98]⟩
theorem app_nil (a : ByteArray) : a ++ (⟨#[]⟩ : ByteArray) = a := by apply bytes_ext; rw [app_list]; simp
theorem wakeGot : gotV (putS 7 abS) = .tuple #[.int .u64 7, .string abS, .int .i64 512, .int .i64 0] := by
  have h := put_of 7 abS ⟨#[]⟩ (by decide) (by decide)
  rw [app_nil] at h
  exact h.got (by decide)
theorem wakeSize : (putS 7 abS).size = 512 := putS_size 7 abS
theorem wakeSec1 (w : World) : Calls Tryd.prog 12 #[.int .i64 488] w fun e w' => e = .returned (.int .i64 1) ∧ w = w' := sectors_in 488 w (by decide)
theorem wakeSec2 (w : World) : Calls Tryd.prog 12 #[.int .i64 489] w fun e w' => e = .returned (.int .i64 2) ∧ w = w' := sectors_in 489 w (by decide)
set_option maxRecDepth 100000 in
set_option maxHeartbeats 1000000 in
theorem wakes_any (w : World) (ht : Tab w) : Calls Tryd.prog 9 #[] w fun e w' => e = .returned (.bool true) ∧ Below w.heap.size w w' := by
  have hs := wakeSize
  have hg := wakeGot
  have HT := Lib.hid ht; clear ht
  go_enter Tryd.func9, Tryd.ntmps9
  go_wp2_with (fail)
  refine (put_ok 7 abS _ (by decide) HT.out).mono ?_; rintro e w1 ⟨rfl, hb1⟩
  have H1 := Lib.hid hb1; clear hb1
  generalize putS 7 abS = f at *
  go_wp2_with (fail)
  refine (get_any f _ (by rw [hs]; unfold maxLen; decide) (HT.out.below H1.out)).mono ?_; rintro e w2 ⟨rfl, hb2⟩
  have H2 := Lib.hid (H1.out.trans (hb2.mono H1.out.size)); clear hb2
  rw [hg]
  unfold abS
  have hsi : (f.size : Int) = 512 := by omega
  clear hg
  go_wp2_with (fail)

  refine (wakeSec1 _).mono ?_; rintro e w' ⟨rfl, rfl⟩
  go_wp2_with (fail)
  refine (wakeSec2 _).mono ?_; rintro e w' ⟨rfl, rfl⟩
  go_wp2
  go_ret
  exact ⟨rfl, H2.out⟩
set_option maxHeartbeats 1000000 in
theorem puts_out (n : Nat) (t : ByteArray) (k : Int) (w : World) (h : 70000 < t.size) (ht : Tab w) :
    Calls Tryd.prog 3 #[.int .u64 n, .string t, .int .i64 k] w fun e w' => e = .returned (.bool true) ∧ Below w.heap.size w w' := by
  have hi : (70000 : Int) < t.size := by omega
  have HT := Lib.hid ht; clear ht
  go_enter Tryd.func3, Tryd.ntmps3
  go_wp2_with (fail)
  refine (wakes_any _ HT.out).mono ?_; rintro e w1 ⟨rfl, hb1⟩
  go_wp2
  go_ret
  exact ⟨rfl, hb1⟩
set_option maxRecDepth 100000 in
set_option maxHeartbeats 1000000 in
theorem puts_in (n : Nat) (t : ByteArray) (k : Int) (w : World) (hn : n < 18446744073709551616) (h : ¬ 70000 < t.size) (ht : Tab w) :
    Calls Tryd.prog 3 #[.int .u64 n, .string t, .int .i64 k] w fun e w' => e = .returned (.bool true) ∧ Below w.heap.size w w' := by
  have hi : ¬ (70000 : Int) < t.size := by omega
  have HT := Lib.hid ht; clear ht
  have HN := Lib.hid hn; clear hn
  by_cases hl : t.size ≤ 65536
  · have HL := Lib.hid hl; clear hl
    go_enter Tryd.func3, Tryd.ntmps3
    go_wp2_with (fail)
    refine (put_ok n t _ HL.out HT.out).mono ?_; rintro e w1 ⟨rfl, hb1⟩
    have H1 := Lib.hid hb1; clear hb1
    go_wp2_with (fail)
    refine (refPut_ok n t _ HN.out HL.out).mono ?_; rintro e w2 ⟨rfl, hb2⟩
    have H2 := Lib.hid (H1.out.trans (hb2.mono H1.out.size)); clear hb2
    go_wp2_with (fail)
    refine (sectors_any k _).mono ?_; rintro e w' ⟨rfl, rfl⟩
    go_wp2_with (fail)
    refine (refSectors_any k _).mono ?_; rintro e w' ⟨rfl, rfl⟩
    go_wp2_with (fail)
    refine (wakes_any _ (HT.out.below H2.out)).mono ?_; rintro e w3 ⟨rfl, hb3⟩
    have H3 := Lib.hid (H2.out.trans (hb3.mono H2.out.size)); clear hb3
    go_wp2
    go_ret
    exact ⟨rfl, H3.out⟩
  · have HL := Lib.hid (show 65536 < t.size by omega); clear hl
    go_enter Tryd.func3, Tryd.ntmps3
    go_wp2_with (fail)
    refine (put_long n t _ HL.out).mono ?_; rintro e w' ⟨rfl, rfl⟩
    go_wp2_with (fail)
    refine (refPut_long n t _ HL.out).mono ?_; rintro e w' ⟨rfl, rfl⟩
    go_wp2_with (fail)
    refine (sectors_any k _).mono ?_; rintro e w' ⟨rfl, rfl⟩
    go_wp2_with (fail)
    refine (refSectors_any k _).mono ?_; rintro e w' ⟨rfl, rfl⟩
    go_wp2_with (fail)
    refine (wakes_any _ HT.out).mono ?_; rintro e w3 ⟨rfl, hb3⟩
    go_wp2
    go_ret
    exact ⟨rfl, hb3⟩
theorem puts_any (n : Nat) (t : ByteArray) (k : Int) (w : World) (hn : n < 18446744073709551616) (ht : Tab w) :
    Calls Tryd.prog 3 #[.int .u64 n, .string t, .int .i64 k] w fun e w' => e = .returned (.bool true) ∧ Below w.heap.size w w' := by
  by_cases h : 70000 < t.size
  · exact puts_out n t k w h ht
  · exact puts_in n t k w hn h ht
end Go.Proofs.YtoejfkalgmdjcaaDoor
