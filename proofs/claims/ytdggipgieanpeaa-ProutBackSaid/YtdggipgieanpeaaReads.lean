/- What the code does when it reads a number (both ways) and when it refuses. -/
import Derived.Test.YtdggipgieanpeaaRows
import Derived.Test.YtdggipgieanpeaaMath
import Derived.WalkKit
import Derived.WalkSpells
import Derived.WalkLawsBesides
import Derived.Lib.Hide
import Derived.IntWalk
import Derived.Deep.QuietTactic
import Derived.BigQuiet
namespace Go.Proofs.Ytdggipgieanpeaa
open Go.RowKit
def byt (s : ByteArray) (i : Nat) : Nat := (s.data.toList.getD i 0).toNat
theorem byt_lt (s : ByteArray) (i : Nat) : byt s i < 256 := UInt8.toNat_lt _
theorem byt_eq (s : ByteArray) (i : Nat) (h : i < s.size) : byt s i = s[i].toNat := by
  have h' : i < s.data.toList.length := by simpa using h
  unfold byt
  rw [List.getD_eq_getElem?_getD, List.getElem?_eq_getElem h']
  rfl
theorem ret_int {k : IntKind} {a b : Int} (h : a = b) : Ending.returned (.int k a) = .returned (.int k b) := by rw [h]
theorem orStep (v b sh : Nat) (hv : v < 18446744073709551616) (hb : b < 256) (hsh : sh ≤ 56) :
    bits BinOp.or IntKind.u64 (v : Int) (IntKind.u64.wrap (IntKind.u64.wrap (b : Int) * 2 ^ sh)) = ((v ||| b * 2 ^ sh : Nat) : Int) := by
  have h1 : 2 ^ sh ≤ 2 ^ 56 := Nat.pow_le_pow_right (by omega) hsh
  have h2 : b * 2 ^ sh ≤ 255 * 2 ^ 56 := Nat.mul_le_mul (by omega) h1
  have h3 : b * 2 ^ sh < 18446744073709551616 := Nat.lt_of_le_of_lt h2 (by decide)
  rw [IntKind.wrap_u64, IntKind.wrap_u64, ← u64_or_nat v _ hv h3]
  have e : (b : Int) % 18446744073709551616 = b := by omega
  rw [e]
  have e2 : (b : Int) * 2 ^ sh = ((b * 2 ^ sh : Nat) : Int) := by rw [Int.natCast_mul, Int.natCast_pow]; rfl
  rw [e2]
  congr 1
  omega
def readV (s : ByteArray) (a : Nat) : Nat → Nat := fun i => byt s (a + i)

set_option maxHeartbeats 400000 in
theorem readClo (s : ByteArray) (a v i sh : Nat) (A B : Addr) (w : World) (hs : s.size ≤ maxLen) (ha : a + i < s.size) (hsh : sh ≤ 56)
    (hv : v < 18446744073709551616)
    (hA : w.cell? A = some (.string s)) (hB : w.cell? B = some (.int .i64 a)) :
    Calls Try.prog 42 #[.int .u64 v, .int .i64 i, .int .i64 sh, .pointer (some A), .pointer (some B)] w fun e w' => e = .returned (.int .u64 ((v ||| (readV s a i * 2 ^ sh) : Nat) : Int)) ∧ w = w' := by
  unfold maxLen at hs
  have hb := byt_eq s (a + i) ha
  have hbl := byt_lt s (a + i)
  have HB := Lib.hid hb; clear hb
  go_enter Try.func42, Try.ntmps42
  go_wp2
  go_ret
  exact ⟨ret_int (by rw [← HB.out]; exact orStep v _ sh hv hbl hsh), rfl⟩
set_option maxHeartbeats 400000 in
theorem isSize_yes (n : Int) (w : World) (h1 : 1 ≤ n) (h2 : n ≤ 8) :
    Calls Try.prog 38 #[.int .i64 n] w fun e w' => e = .returned (.bool true) ∧ w = w' := by
  go_enter Try.func38, Try.ntmps38
  go_wp2
  go_ret
  exact ⟨rfl, rfl⟩
set_option maxHeartbeats 400000 in
theorem isSize_no (n : Int) (w : World) (h : ¬ (1 ≤ n ∧ n ≤ 8)) :
    Calls Try.prog 38 #[.int .i64 n] w fun e w' => e = .returned (.bool false) ∧ w = w' := by
  by_cases h1 : 1 ≤ n
  · have h2 : ¬ n ≤ 8 := by omega
    clear h
    go_enter Try.func38, Try.ntmps38
    go_wp2
    go_ret
    exact ⟨rfl, rfl⟩
  · clear h
    go_enter Try.func38, Try.ntmps38
    go_wp2
    go_ret
    exact ⟨rfl, rfl⟩
set_option maxHeartbeats 400000 in
theorem highFirst_any (i n : Nat) (w : World) (h1 : i < n) (h2 : n ≤ 8) :
    Calls Try.prog 34 #[.int .i64 i, .int .i64 n] w fun e w' => e = .returned (.int .i64 ((8 * (n - 1 - i) : Nat) : Int)) ∧ w = w' := by
  go_enter Try.func34, Try.ntmps34
  go_wp2
  go_ret
  exact ⟨ret_int (by omega), rfl⟩
theorem readV_lt (s : ByteArray) (a i : Nat) : readV s a i < 256 := byt_lt _ _
theorem hiV_u64 (f : Nat → Nat) (hf : ∀ i, f i < 256) (n k : Nat) (hk : k ≤ n) (h8 : n ≤ 8) : hiV f n k < 18446744073709551616 :=
  Nat.lt_of_lt_of_le (hiV_lt f hf n k hk) (pow_le8 n h8)
theorem litV_u64 (f : Nat → Nat) (hf : ∀ i, f i < 256) (k : Nat) (h8 : k ≤ 8) : litV f k < 18446744073709551616 :=
  Nat.lt_of_lt_of_le (litV_lt f hf k) (pow_le8 k h8)
theorem bigV_u64 (f : Nat → Nat) (hf : ∀ i, f i < 256) (k : Nat) (h8 : k ≤ 8) : bigV f k < 18446744073709551616 :=
  Nat.lt_of_lt_of_le (bigV_lt f hf k) (pow_le8 k h8)
set_option maxHeartbeats 400000 in
theorem acrossHi (s : ByteArray) (a n : Nat) (A B : Addr) (w : World) (hs : s.size ≤ maxLen) (ha : a + n ≤ s.size) (hn : n ≤ 8)
    (hA : w.cell? A = some (.string s)) (hB : w.cell? B = some (.int .i64 a)) :
    Calls Try.prog 41 #[.int .u64 0, .int .i64 n, .func (.func 34) #[] #[], .func (.func 42) #[] #[.pointer (some A), .pointer (some B)]] w
      fun e w' => e = .returned (.int .u64 (bigV (readV s a) n : Nat)) ∧ w = w' := by
  go_enter Try.func41, Try.ntmps41
  go_wp2
  go_loop [9, 13] (fun v i => ∃ k : Nat, k ≤ n ∧ i = .int .i64 k ∧ v = .int .u64 (hiV (readV s a) n k : Nat)) (fun _ i => n - (intOf i).toNat)
  case atStart => exact ⟨0, Nat.zero_le _, rfl, by rw [hiV_zero]; rfl⟩
  case round =>
    obtain ⟨k, hk, rfl, rfl⟩ := hrel
    have hu := hiV_u64 (readV s a) (readV_lt s a) n k hk hn
    by_cases hlt : k < n
    · have hsh : 8 * (n - 1 - k) ≤ 56 := by omega
      have HO := Lib.hid (hiV_or (readV s a) (readV_lt s a) n k hlt)
      go_wp2_with (fail)
      refine (highFirst_any k n _ hlt hn).mono ?_; rintro e w' ⟨rfl, rfl⟩
      go_wp2_with (fail)
      refine (readClo s a (hiV (readV s a) n k) k (8 * (n - 1 - k)) A B _ hs (by omega) hsh hu hA hB).mono ?_; rintro e w' ⟨rfl, rfl⟩
      rw [HO.out]
      go_wp2
      go_round
      case rel => exact ⟨k + 1, by omega, by go_num, rfl⟩
      case measure => simp [intOf]; omega
    · obtain rfl : k = n := by omega
      have HF := Lib.hid (hiV_full (readV s a) k)
      go_wp2
      go_ret
      exact ⟨ret_int (by rw [HF.out]), rfl⟩
set_option maxHeartbeats 400000 in
theorem readHi (s : ByteArray) (a n : Nat) (w : World) (hs : s.size ≤ maxLen) (h1 : 1 ≤ n) (h2 : n ≤ 8) (ha : a + n ≤ s.size) :
    Calls Try.prog 36 #[.string s, .int .i64 a, .int .i64 n, .func (.func 34) #[] #[]] w fun e w' => e = .returned (.tuple #[.int .u64 (bigV (readV s a) n : Nat), .bool true]) ∧ Below w.heap.size w w' := by
  have hs' := hs
  unfold maxLen at hs
  have hmf : ∀ (fn : Fn) (first cap : Array Value) (w : World), (Instr.makeFunc fn first cap).run Try.prog w = .ok (.func fn first cap) w := fun _ _ _ _ => rfl
  go_enter Try.func36, Try.ntmps36
  go_wp2_with (fail)
  refine (isSize_yes _ _ (by omega) (by omega)).mono ?_; rintro e w' ⟨rfl, rfl⟩
  go_wp2_with (fail)
  refine (acrossHi s a n _ _ _ hs' ha h2 (by simp [go_sem]) (by simp [go_sem])).mono ?_; rintro e w' ⟨rfl, rfl⟩
  go_wp2
  go_ret2
  exact ⟨rfl, ((Below.refl _ _).alloc (Nat.le_refl _) _).alloc (by simp) _⟩
set_option maxHeartbeats 400000 in
theorem readNo (s : ByteArray) (a n : Int) (f : Value) (w : World) (hs : s.size ≤ maxLen) (h : ¬ (1 ≤ n ∧ n ≤ 8 ∧ 0 ≤ a ∧ a + n ≤ s.size)) :
    Calls Try.prog 36 #[.string s, .int .i64 a, .int .i64 n, f] w fun e w' => e = .returned (.tuple #[.int .u64 0, .bool false]) ∧ Below w.heap.size w w' := by
  unfold maxLen at hs
  by_cases hn : 1 ≤ n ∧ n ≤ 8
  · have h1 := hn.1
    have h2 := hn.2
    by_cases h0 : 0 ≤ a
    · have h3 : (s.size : Int) - n < a := by omega
      clear h hn
      go_enter Try.func36, Try.ntmps36
      go_wp2_with (fail)
      refine (isSize_yes _ _ (by omega) (by omega)).mono ?_; rintro e w' ⟨rfl, rfl⟩
      go_wp2
      go_ret2
      exact ⟨rfl, ((Below.refl _ _).alloc (Nat.le_refl _) _).alloc (by simp) _⟩
    · clear h hn
      go_enter Try.func36, Try.ntmps36
      go_wp2_with (fail)
      refine (isSize_yes _ _ (by omega) (by omega)).mono ?_; rintro e w' ⟨rfl, rfl⟩
      go_wp2
      go_ret2
      exact ⟨rfl, ((Below.refl _ _).alloc (Nat.le_refl _) _).alloc (by simp) _⟩
  · have H := Lib.hid hn
    clear h hn
    go_enter Try.func36, Try.ntmps36
    go_wp2_with (fail)
    refine (isSize_no _ _ H.out).mono ?_; rintro e w' ⟨rfl, rfl⟩
    go_wp2
    go_ret2
    exact ⟨rfl, ((Below.refl _ _).alloc (Nat.le_refl _) _).alloc (by simp) _⟩
end Go.Proofs.Ytdggipgieanpeaa
