/- What the code does when it reads a number (both ways) and when it refuses. -/
import Derived.Test.YtlkjkichihfkcaaDoorRows
import Derived.Test.YtlkjkichihfkcaaDoorMath
import Derived.WalkKit
import Derived.WalkSpells
import Derived.WalkLawsBesides
import Derived.Lib.Hide
import Derived.IntWalk
import Derived.Deep.QuietTactic
import Derived.BigQuiet
namespace Go.Proofs.YtlkjkichihfkcaaDoor
open Go.RowKit
def byt (s : ByteArray) (i : Nat) : Nat := (s.data.toList.getD i 0).toNat
theorem byt_lt (s : ByteArray) (i : Nat) : byt s i < 256 := UInt8.toNat_lt _
theorem byt_eq (s : ByteArray) (i : Nat) (h : i < s.size) : byt s i = s[i].toNat := by
  have h' : i < s.data.toList.length := by simpa using h
  unfold byt
  rw [List.getD_eq_getElem?_getD, List.getElem?_eq_getElem h']
  rfl
theorem ret_int {k : IntKind} {a b : Int} (h : a = b) : Ending.returned (.int k a) = .returned (.int k b) := by rw [h]
theorem orStep (v b sh : Nat) (hv : v < 18446744073709551616) (hb : b < 256) (hsh : sh ≤ 56) :
    bits BinOp.or IntKind.u64 (v : Int) (IntKind.u64.wrap (IntKind.u64.wrap (b : Int) * 2 ^ sh)) = ((v ||| b * 2 ^ sh : Nat) : Int) := by
  have h1 : 2 ^ sh ≤ 2 ^ 56 := Nat.pow_le_pow_right (by omega) hsh
  have h2 : b * 2 ^ sh ≤ 255 * 2 ^ 56 := Nat.mul_le_mul (by omega) h1
  have h3 : b * 2 ^ sh < 18446744073709551616 := Nat.lt_of_le_of_lt h2 (by decide)
  rw [IntKind.wrap_u64, IntKind.wrap_u64, ← u64_or_nat v _ hv h3]
  have e : (b : Int) % 18446744073709551616 = b := by omega
  rw [e]
  have e2 : (b : Int) * 2 ^ sh = ((b * 2 ^ sh : Nat) : Int) := by rw [Int.natCast_mul, Int.natCast_pow]; rfl
  rw [e2]
  congr 1
  omega
def readV (s : ByteArray) (a : Nat) : Nat → Nat := fun i => byt s (a + i)

set_option maxHeartbeats 400000 in
theorem isSize_yes (n : Int) (w : World) (h1 : 1 ≤ n) (h2 : n ≤ 8) :
    Calls Tryd.prog 22 #[.int .i64 n] w fun e w' => e = .returned (.bool true) ∧ w = w' := by
  go_enter Tryd.func22, Tryd.ntmps22
  go_wp2
  go_ret
  exact ⟨rfl, rfl⟩
set_option maxHeartbeats 400000 in
theorem isSize_no (n : Int) (w : World) (h : ¬ (1 ≤ n ∧ n ≤ 8)) :
    Calls Tryd.prog 22 #[.int .i64 n] w fun e w' => e = .returned (.bool false) ∧ w = w' := by
  by_cases h1 : 1 ≤ n
  · have h2 : ¬ n ≤ 8 := by omega
    clear h
    go_enter Tryd.func22, Tryd.ntmps22
    go_wp2
    go_ret
    exact ⟨rfl, rfl⟩
  · clear h
    go_enter Tryd.func22, Tryd.ntmps22
    go_wp2
    go_ret
    exact ⟨rfl, rfl⟩
set_option maxHeartbeats 400000 in
theorem lowFirst_any (i n : Nat) (w : World) (h1 : i < n) (h2 : n ≤ 8) :
    Calls Tryd.prog 21 #[.int .i64 i, .int .i64 n] w fun e w' => e = .returned (.int .i64 ((8 * i : Nat) : Int)) ∧ w = w' := by
  go_enter Tryd.func21, Tryd.ntmps21
  go_wp2
  go_ret
  exact ⟨ret_int (by omega), rfl⟩
theorem readV_lt (s : ByteArray) (a i : Nat) : readV s a i < 256 := byt_lt _ _
theorem hiV_u64 (f : Nat → Nat) (hf : ∀ i, f i < 256) (n k : Nat) (hk : k ≤ n) (h8 : n ≤ 8) : hiV f n k < 18446744073709551616 :=
  Nat.lt_of_lt_of_le (hiV_lt f hf n k hk) (pow_le8 n h8)
theorem litV_u64 (f : Nat → Nat) (hf : ∀ i, f i < 256) (k : Nat) (h8 : k ≤ 8) : litV f k < 18446744073709551616 :=
  Nat.lt_of_lt_of_le (litV_lt f hf k) (pow_le8 k h8)
theorem bigV_u64 (f : Nat → Nat) (hf : ∀ i, f i < 256) (k : Nat) (h8 : k ≤ 8) : bigV f k < 18446744073709551616 :=
  Nat.lt_of_lt_of_le (bigV_lt f hf k) (pow_le8 k h8)
end Go.Proofs.YtlkjkichihfkcaaDoor
