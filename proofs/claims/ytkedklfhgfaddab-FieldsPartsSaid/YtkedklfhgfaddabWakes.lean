/- Pad of the code, and that the small example with which each statement asks first comes out true. -/
import Derived.Test.YtkedklfhgfaddabPutRefs
import Derived.Test.YtkedklfhgfaddabShelf
namespace Go.Proofs.Ytkedklfhgfaddab
open Go.RowKit
def padB (s : ByteArray) (n : Nat) : ByteArray := s ++ ⟨Array.replicate (n - s.size % n) 0⟩
set_option maxHeartbeats 400000 in
theorem pad_more (s : ByteArray) (n : Nat) (w : World) (hs : s.size ≤ 100000) (h1 : 1 ≤ n) (h2 : n ≤ 4096) (h3 : s.size % n ≠ 0) :
    Calls Try.prog 9 #[.string s, .int .i64 n] w fun e w' => e = .returned (.string (padB s n)) ∧ Below w.heap.size w w' := by
  have hm : s.size % n < n := Nat.mod_lt _ (by omega)
  have hmi : (s.size : Int) % (n : Int) ≠ 0 := by omega
  have hmi2 : (s.size : Int) % (n : Int) < n := by omega
  have hmi0 : 0 ≤ (s.size : Int) % (n : Int) := by omega
  have hb : (((s.size : Int) % (n : Int)) == 0) = false := by simpa using hmi
  have hrl : Lib.repeatL [0] (n - s.size % n) = List.replicate (n - s.size % n) 0 := by
    have := Lib.repeatL_replicate 0 1 (n - s.size % n)
    simpa using this
  have HR := Lib.hid hrl; clear hrl
  go_enter Try.func9, Try.ntmps9
  go_wp2_with (fail)
  rw [show ((n : Int) - (s.size : Int) % n) = ((n - s.size % n : Nat) : Int) by omega]
  refine (Try.strings_Repeat _ (n - s.size % n) _ (by omega) (by show 1 * (n - s.size % n) ≤ _; omega)).mono ?_; rintro e w' ⟨rfl, hb⟩
  rw [show ((⟨#[0]⟩ : ByteArray).data.toList) = [0] from rfl, HR.out]
  go_wp2
  go_ret
  exact ⟨ret_str (by unfold padB; rfl), hb⟩
set_option maxHeartbeats 400000 in
theorem pad_same (s : ByteArray) (n : Int) (w : World) (hs : s.size ≤ 100000) (h : n < 1 ∨ 4096 < n ∨ (s.size : Int) % n = 0) :
    Calls Try.prog 9 #[.string s, .int .i64 n] w fun e w' => e = .returned (.string s) ∧ Below w.heap.size w w' := by
  by_cases h1 : 1 ≤ n
  · by_cases h2 : n ≤ 4096
    · have h3 : (s.size : Int) % n = 0 := by omega
      clear h
      go_enter Try.func9, Try.ntmps9
      go_wp2
      go_ret
      exact ⟨rfl, Below.refl _ _⟩
    · clear h
      go_enter Try.func9, Try.ntmps9
      go_wp2
      go_ret
      exact ⟨rfl, Below.refl _ _⟩
  · clear h
    go_enter Try.func9, Try.ntmps9
    go_wp2
    go_ret
    exact ⟨rfl, Below.refl _ _⟩
theorem wakeBig (w : World) : Calls Try.prog 5 #[.string ⟨#[1, 2, 3]⟩, .int .i64 1, .int .i64 2] w fun e w' => e = .returned (.tuple #[.int .u64 515, .bool true]) ∧ Below w.heap.size w w' :=
  (big_any ⟨#[1, 2, 3]⟩ 1 2 w (by unfold maxLen; decide)).mono fun _ _ ⟨he, hb⟩ => ⟨he.trans (ret_two (by decide) (by decide)), hb⟩
theorem wakeLittle (w : World) : Calls Try.prog 6 #[.string ⟨#[1, 2, 3]⟩, .int .i64 1, .int .i64 2] w fun e w' => e = .returned (.tuple #[.int .u64 770, .bool true]) ∧ Below w.heap.size w w' :=
  (little_any ⟨#[1, 2, 3]⟩ 1 2 w (by unfold maxLen; decide)).mono fun _ _ ⟨he, hb⟩ => ⟨he.trans (ret_two (by decide) (by decide)), hb⟩
theorem wakePut (w : World) : Calls Try.prog 8 #[.int .u64 258, .int .i64 4] w fun e w' => e = .returned (.string ⟨#[0, 0, 1, 2]⟩) ∧ Below w.heap.size w w' :=
  (putBig_any 258 4 w).mono fun _ _ ⟨he, hb⟩ => ⟨he.trans (ret_str (by decide)), hb⟩
theorem wakePad (w : World) : Calls Try.prog 9 #[.string ⟨#[97, 98]⟩, .int .i64 4] w fun e w' => e = .returned (.string ⟨#[97, 98, 0, 0]⟩) ∧ Below w.heap.size w w' :=
  (pad_more ⟨#[97, 98]⟩ 4 w (by decide) (by decide) (by decide) (by decide)).mono fun _ _ ⟨he, hb⟩ => ⟨he.trans (ret_str (by decide)), hb⟩
set_option maxHeartbeats 1000000 in
theorem wakes_any (w : World) : Calls Try.prog 4 #[] w fun e w' => e = .returned (.bool true) ∧ Below w.heap.size w w' := by
  go_enter Try.func4, Try.ntmps4
  go_wp2_with (fail)
  refine (wakeBig _).mono ?_; rintro e w1 ⟨rfl, hb1⟩
  have H1 := Lib.hid hb1; clear hb1
  go_wp2_with (fail)
  refine (wakeLittle _).mono ?_; rintro e w2 ⟨rfl, hb2⟩
  have H2 := Lib.hid hb2; clear hb2
  go_wp2_with (fail)
  refine (wakePut _).mono ?_; rintro e w3 ⟨rfl, hb3⟩
  have H3 := Lib.hid hb3; clear hb3
  go_wp2_with (fail)
  refine (wakePad _).mono ?_; rintro e w4 ⟨rfl, hb4⟩
  have H4 := Lib.hid hb4; clear hb4
  go_wp2
  go_ret
  have h12 := H1.out.trans (H2.out.mono H1.out.size)
  have h13 := h12.trans (H3.out.mono h12.size)
  exact ⟨rfl, h13.trans (H4.out.mono h13.size)⟩
end Go.Proofs.Ytkedklfhgfaddab
