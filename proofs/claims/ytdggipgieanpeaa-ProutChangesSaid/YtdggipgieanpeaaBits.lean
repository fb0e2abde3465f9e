/- Bits and Bit, of the code and of the document, at every input; the call of FieldsBits returns true. -/
import Derived.Test.YtdggipgieanpeaaWakes
namespace Go.Proofs.Ytdggipgieanpeaa
open Go.RowKit
theorem belDrew (B : Nat) (w : World) : ∀ n, Below B w (w.drewN n)
  | 0 => Below.refl _ _
  | _ + 1 => ⟨rfl, rfl, rfl, Nat.le_refl _, fun _ _ => rfl⟩
def bitsV (v lo n : Nat) : Nat := v / 2 ^ lo % 2 ^ n
theorem wrap_pow_sub (n : Nat) (h1 : 1 ≤ n) (h : n ≤ 64) : IntKind.u64.wrap (IntKind.u64.wrap ((2 : Int) ^ n) - 1) = ((2 ^ n - 1 : Nat) : Int) := by
  rw [IntKind.wrap_u64, IntKind.wrap_u64]
  have e : (2 : Int) ^ n = ((2 ^ n : Nat) : Int) := by rw [Int.natCast_pow]; rfl
  rw [e]
  have hp : 0 < 2 ^ n := Nat.pow_pos (by omega)
  by_cases h64 : n = 64
  · subst h64; decide
  · have : 2 ^ n ≤ 2 ^ 63 := Nat.pow_le_pow_right (by omega) (by omega)
    have h2 : 2 ^ n < 18446744073709551616 := Nat.lt_of_le_of_lt this (by decide)
    omega
theorem bits_and (v lo n : Nat) (hv : v < 18446744073709551616) (h1 : 1 ≤ n) (h : n ≤ 64) :
    bits BinOp.and IntKind.u64 ((v : Int) / 2 ^ lo) (IntKind.u64.wrap (IntKind.u64.wrap ((2 : Int) ^ n) - 1)) = ((bitsV v lo n : Nat) : Int) := by
  unfold bitsV
  have e : (v : Int) / 2 ^ lo = ((v / 2 ^ lo : Nat) : Int) := by rw [Int.natCast_ediv, Int.natCast_pow]; rfl
  have hp : 0 < 2 ^ n := Nat.pow_pos (by omega)
  have h2 : 2 ^ n ≤ 2 ^ 64 := Nat.pow_le_pow_right (by omega) h
  have h3 : 2 ^ n - 1 < 18446744073709551616 := Nat.lt_of_lt_of_le (by omega) h2
  rw [wrap_pow_sub n h1 h, e, u64_and_nat _ _ (Nat.lt_of_le_of_lt (Nat.div_le_self _ _) hv) h3, Nat.and_two_pow_sub_one_eq_mod]
set_option maxHeartbeats 400000 in
theorem bits_yes (v lo n : Nat) (w : World) (hv : v < 18446744073709551616) (hn : 1 ≤ n) (hlo : lo + n ≤ 64)  :
    Calls Try.prog 35 #[.int .u64 v, .int .i64 lo, .int .i64 n] w fun e w' => e = .returned (.int .u64 (bitsV v lo n : Nat)) ∧ Below w.heap.size w w' := by
  have h1 : ¬ (64 : Int) - lo < n := by omega
  have H := Lib.hid (bits_and v lo n hv hn (by omega))
  go_enter Try.func35, Try.ntmps35
  go_wp2
  go_quiet (fail)
  go_wp2
  go_ret
  exact ⟨ret_int H.out, belDrew _ _ _⟩
set_option maxHeartbeats 400000 in
theorem bits_no (v lo n : Int) (w : World) (h1 : -9223372036854775808 ≤ lo ∧ lo ≤ 9223372036854775807) (h2 : -9223372036854775808 ≤ n ∧ n ≤ 9223372036854775807) (h : ¬ (0 ≤ lo ∧ 1 ≤ n ∧ lo + n ≤ 64)) :
    Calls Try.prog 35 #[.int .u64 v, .int .i64 lo, .int .i64 n] w fun e w' => e = .returned (.int .u64 0) ∧ Below w.heap.size w w' := by
  obtain ⟨a1, a2⟩ := h1
  obtain ⟨b1, b2⟩ := h2
  by_cases h0 : 0 ≤ lo
  · by_cases hn : 1 ≤ n
    · have hx : (64 : Int) - lo < n := by omega
      clear h
      go_enter Try.func35, Try.ntmps35
      go_wp2
      go_ret
      exact ⟨rfl, Below.refl _ _⟩
    · clear h
      go_enter Try.func35, Try.ntmps35
      go_wp2
      go_ret
      exact ⟨rfl, Below.refl _ _⟩
  · clear h
    go_enter Try.func35, Try.ntmps35
    go_wp2
    go_ret
    exact ⟨rfl, Below.refl _ _⟩
theorem half_step (x k : Nat) : x / 2 ^ k / 2 = x / 2 ^ (k + 1) := by rw [Nat.div_div_eq_div_mul, Nat.pow_succ]
theorem mod_step (y k : Nat) : y % 2 ^ k + y / 2 ^ k % 2 * 2 ^ k = y % 2 ^ (k + 1) := by
  rw [Nat.mod_pow_succ, Nat.mul_comm (2 ^ k)]
theorem mod_fits (y k : Nat) (hk : k ≤ 64) : y % 2 ^ k < 18446744073709551616 :=
  Nat.lt_of_lt_of_le (Nat.mod_lt _ (Nat.pow_pos (by omega))) (show 2 ^ k ≤ 2 ^ 64 from Nat.pow_le_pow_right (by omega) hk)
def Pow2 (k P : Nat) : Prop := P < 18446744073709551616 ∧ (k < 64 → P = 2 ^ k)
theorem pow2_next (k P : Nat) (h : Pow2 k P) (hk : k < 64) : IntKind.u64.wrap ((P : Int) * 2) = ((P * 2 % 18446744073709551616 : Nat) : Int) ∧ Pow2 (k + 1) (P * 2 % 18446744073709551616) := by
  refine ⟨by rw [IntKind.wrap_u64]; omega, Nat.mod_lt _ (by omega), fun hk1 => ?_⟩
  have e := h.2 hk
  have : 2 ^ (k + 1) ≤ 2 ^ 63 := Nat.pow_le_pow_right (by omega) (by omega)
  have h2 : 2 ^ (k + 1) < 18446744073709551616 := Nat.lt_of_le_of_lt this (by decide)
  rw [Nat.pow_succ] at h2 ⊢
  omega
theorem sum_fits (W z P y k : Nat) (hP : Pow2 k P) (hk : k < 64) (hz : z = y / 2 ^ k) (hW : W = y % 2 ^ k) : W + z % 2 * P = y % 2 ^ (k + 1) ∧ W + z % 2 * P < 18446744073709551616 := by
  have e := hP.2 hk
  have h := mod_step y k
  rw [hz, hW, e, h]
  exact ⟨rfl, mod_fits y (k + 1) (by omega)⟩
theorem sum_wrap (W z P : Nat) (h : W + z % 2 * P < 18446744073709551616) : IntKind.u64.wrap ((W : Int) + IntKind.u64.wrap ((z : Int) % 2 * P)) = ((W + z % 2 * P : Nat) : Int) := by
  have e : (z : Int) % 2 * P = ((z % 2 * P : Nat) : Int) := by rw [Int.natCast_mul]; rfl
  rw [e, IntKind.wrap_u64, IntKind.wrap_u64]
  omega
-- both at once: the code's Bits and the document's own are one number
def bitsI (v lo n : Int) : Int := if 0 ≤ lo ∧ 1 ≤ n ∧ lo + n ≤ 64 then (bitsV v.toNat lo.toNat n.toNat : Nat) else 0
def In64 (x : Int) : Prop := -9223372036854775808 ≤ x ∧ x ≤ 9223372036854775807
theorem bits_any (v : Nat) (lo n : Int) (w : World) (hv : v < 18446744073709551616) (h1 : In64 lo) (h2 : In64 n) :
    Calls Try.prog 35 #[.int .u64 v, .int .i64 lo, .int .i64 n] w fun e w' => e = .returned (.int .u64 (bitsI v lo n)) ∧ Below w.heap.size w w' := by
  by_cases h : 0 ≤ lo ∧ 1 ≤ n ∧ lo + n ≤ 64
  · have he : bitsI v lo n = (bitsV v lo.toNat n.toNat : Nat) := by unfold bitsI; rw [if_pos h]; rfl
    rw [he]
    obtain ⟨h3, h4, h5⟩ := h
    obtain ⟨lo, rfl⟩ := Int.eq_ofNat_of_zero_le h3
    obtain ⟨n, rfl⟩ := Int.eq_ofNat_of_zero_le (show 0 ≤ n by omega)
    exact bits_yes v lo n w hv (by omega) (by omega)
  · have he : bitsI v lo n = 0 := by unfold bitsI; rw [if_neg h]
    rw [he]
    exact bits_no v lo n w h1 h2 h
set_option maxHeartbeats 400000 in
theorem bit_any (v : Nat) (lo : Int) (w : World) (hv : v < 18446744073709551616) (h1 : In64 lo) :
    Calls Try.prog 28 #[.int .u64 v, .int .i64 lo] w fun e w' => e = .returned (.bool (bitsI v lo 1 == 1)) ∧ Below w.heap.size w w' := by
  go_enter Try.func28, Try.ntmps28
  go_wp2_with (fail)
  refine (bits_any v lo 1 _ hv h1 (by unfold In64; omega)).mono ?_; rintro e w' ⟨rfl, hb⟩
  go_wp2
  go_ret
  exact ⟨rfl, hb⟩
end Go.Proofs.Ytdggipgieanpeaa
