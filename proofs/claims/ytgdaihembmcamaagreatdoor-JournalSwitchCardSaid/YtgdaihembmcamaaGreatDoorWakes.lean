/- Pad of the code, and that the small example with which each statement asks first comes out true. -/
import Derived.Test.YtgdaihembmcamaaGreatDoorPutRefs
import Derived.Test.YtgdaihembmcamaaGreatDoorShelf
namespace Go.Proofs.YtgdaihembmcamaaGreatDoor
open Go.RowKit
def padB (s : ByteArray) (n : Nat) : ByteArray := s ++ ⟨Array.replicate (n - s.size % n) 0⟩
set_option maxHeartbeats 400000 in
theorem pad_more (s : ByteArray) (n : Nat) (w : World) (hs : s.size ≤ 100000) (h1 : 1 ≤ n) (h2 : n ≤ 4096) (h3 : s.size % n ≠ 0) :
    Calls Tryz.prog 85 #[.string s, .int .i64 n] w fun e w' => e = .returned (.string (padB s n)) ∧ Below w.heap.size w w' := by
  have hm : s.size % n < n := Nat.mod_lt _ (by omega)
  have hmi : (s.size : Int) % (n : Int) ≠ 0 := by omega
  have hmi2 : (s.size : Int) % (n : Int) < n := by omega
  have hmi0 : 0 ≤ (s.size : Int) % (n : Int) := by omega
  have hb : (((s.size : Int) % (n : Int)) == 0) = false := by simpa using hmi
  have hrl : Lib.repeatL [0] (n - s.size % n) = List.replicate (n - s.size % n) 0 := by
    have := Lib.repeatL_replicate 0 1 (n - s.size % n)
    simpa using this
  have HR := Lib.hid hrl; clear hrl
  go_enter Tryz.func85, Tryz.ntmps85
  go_wp2_with (fail)
  rw [show ((n : Int) - (s.size : Int) % n) = ((n - s.size % n : Nat) : Int) by omega]
  refine (Tryz.strings_Repeat _ (n - s.size % n) _ (by omega) (by show 1 * (n - s.size % n) ≤ _; omega)).mono ?_; rintro e w' ⟨rfl, hb⟩
  rw [show ((⟨#[0]⟩ : ByteArray).data.toList) = [0] from rfl, HR.out]
  go_wp2
  go_ret
  exact ⟨ret_str (by unfold padB; rfl), hb⟩
set_option maxHeartbeats 400000 in
theorem pad_same (s : ByteArray) (n : Int) (w : World) (hs : s.size ≤ 100000) (h : n < 1 ∨ 4096 < n ∨ (s.size : Int) % n = 0) :
    Calls Tryz.prog 85 #[.string s, .int .i64 n] w fun e w' => e = .returned (.string s) ∧ Below w.heap.size w w' := by
  by_cases h1 : 1 ≤ n
  · by_cases h2 : n ≤ 4096
    · have h3 : (s.size : Int) % n = 0 := by omega
      clear h
      go_enter Tryz.func85, Tryz.ntmps85
      go_wp2
      go_ret
      exact ⟨rfl, Below.refl _ _⟩
    · clear h
      go_enter Tryz.func85, Tryz.ntmps85
      go_wp2
      go_ret
      exact ⟨rfl, Below.refl _ _⟩
  · clear h
    go_enter Tryz.func85, Tryz.ntmps85
    go_wp2
    go_ret
    exact ⟨rfl, Below.refl _ _⟩
theorem wakeBig (w : World) : Calls Tryz.prog 87 #[.string ⟨#[1, 2, 3]⟩, .int .i64 1, .int .i64 2] w fun e w' => e = .returned (.tuple #[.int .u64 515, .bool true]) ∧ Below w.heap.size w w' :=
  (big_any ⟨#[1, 2, 3]⟩ 1 2 w (by unfold maxLen; decide)).mono fun _ _ ⟨he, hb⟩ => ⟨he.trans (ret_two (by decide) (by decide)), hb⟩
theorem wakePut (w : World) : Calls Tryz.prog 84 #[.int .u64 258, .int .i64 4] w fun e w' => e = .returned (.string ⟨#[0, 0, 1, 2]⟩) ∧ Below w.heap.size w w' :=
  (putBig_any 258 4 w).mono fun _ _ ⟨he, hb⟩ => ⟨he.trans (ret_str (by decide)), hb⟩
theorem wakePad (w : World) : Calls Tryz.prog 85 #[.string ⟨#[97, 98]⟩, .int .i64 4] w fun e w' => e = .returned (.string ⟨#[97, 98, 0, 0]⟩) ∧ Below w.heap.size w w' :=
  (pad_more ⟨#[97, 98]⟩ 4 w (by decide) (by decide) (by decide) (by decide)).mono fun _ _ ⟨he, hb⟩ => ⟨he.trans (ret_str (by decide)), hb⟩
end Go.Proofs.YtgdaihembmcamaaGreatDoor
