/- Bits and Bit, of the code and of the document, at every input; the call of FieldsBits returns true. -/
import Derived.Test.YtkedklfhgfaddaaWakes
namespace Go.Proofs.Ytkedklfhgfaddaa
open Go.RowKit
theorem belDrew (B : Nat) (w : World) : ∀ n, Below B w (w.drewN n)
  | 0 => Below.refl _ _
  | _ + 1 => ⟨rfl, rfl, rfl, Nat.le_refl _, fun _ _ => rfl⟩
def bitsV (v lo n : Nat) : Nat := v / 2 ^ lo % 2 ^ n
theorem wrap_pow_sub (n : Nat) (h1 : 1 ≤ n) (h : n ≤ 64) : IntKind.u64.wrap (IntKind.u64.wrap ((2 : Int) ^ n) - 1) = ((2 ^ n - 1 : Nat) : Int) := by
  rw [IntKind.wrap_u64, IntKind.wrap_u64]
  have e : (2 : Int) ^ n = ((2 ^ n : Nat) : Int) := by rw [Int.natCast_pow]; rfl
  rw [e]
  have hp : 0 < 2 ^ n := Nat.pow_pos (by omega)
  by_cases h64 : n = 64
  · subst h64; decide
  · have : 2 ^ n ≤ 2 ^ 63 := Nat.pow_le_pow_right (by omega) (by omega)
    have h2 : 2 ^ n < 18446744073709551616 := Nat.lt_of_le_of_lt this (by decide)
    omega
theorem bits_and (v lo n : Nat) (hv : v < 18446744073709551616) (h1 : 1 ≤ n) (h : n ≤ 64) :
    bits BinOp.and IntKind.u64 ((v : Int) / 2 ^ lo) (IntKind.u64.wrap (IntKind.u64.wrap ((2 : Int) ^ n) - 1)) = ((bitsV v lo n : Nat) : Int) := by
  unfold bitsV
  have e : (v : Int) / 2 ^ lo = ((v / 2 ^ lo : Nat) : Int) := by rw [Int.natCast_ediv, Int.natCast_pow]; rfl
  have hp : 0 < 2 ^ n := Nat.pow_pos (by omega)
  have h2 : 2 ^ n ≤ 2 ^ 64 := Nat.pow_le_pow_right (by omega) h
  have h3 : 2 ^ n - 1 < 18446744073709551616 := Nat.lt_of_lt_of_le (by omega) h2
  rw [wrap_pow_sub n h1 h, e, u64_and_nat _ _ (Nat.lt_of_le_of_lt (Nat.div_le_self _ _) hv) h3, Nat.and_two_pow_sub_one_eq_mod]
set_option maxHeartbeats 400000 in
theorem bits_yes (v lo n : Nat) (w : World) (hv : v < 18446744073709551616) (hn : 1 ≤ n) (hlo : lo + n ≤ 64)  :
    Calls Try.prog 17 #[.int .u64 v, .int .i64 lo, .int .i64 n] w fun e w' => e = .returned (.int .u64 (bitsV v lo n : Nat)) ∧ Below w.heap.size w w' := by
  have h1 : ¬ (64 : Int) - lo < n := by omega
  have H := Lib.hid (bits_and v lo n hv hn (by omega))
  go_enter Try.func17, Try.ntmps17
  go_wp2
  go_quiet (fail)
  go_wp2
  go_ret
  exact ⟨ret_int H.out, belDrew _ _ _⟩
set_option maxHeartbeats 400000 in
theorem bits_no (v lo n : Int) (w : World) (h1 : -9223372036854775808 ≤ lo ∧ lo ≤ 9223372036854775807) (h2 : -9223372036854775808 ≤ n ∧ n ≤ 9223372036854775807) (h : ¬ (0 ≤ lo ∧ 1 ≤ n ∧ lo + n ≤ 64)) :
    Calls Try.prog 17 #[.int .u64 v, .int .i64 lo, .int .i64 n] w fun e w' => e = .returned (.int .u64 0) ∧ Below w.heap.size w w' := by
  obtain ⟨a1, a2⟩ := h1
  obtain ⟨b1, b2⟩ := h2
  by_cases h0 : 0 ≤ lo
  · by_cases hn : 1 ≤ n
    · have hx : (64 : Int) - lo < n := by omega
      clear h
      go_enter Try.func17, Try.ntmps17
      go_wp2
      go_ret
      exact ⟨rfl, Below.refl _ _⟩
    · clear h
      go_enter Try.func17, Try.ntmps17
      go_wp2
      go_ret
      exact ⟨rfl, Below.refl _ _⟩
  · clear h
    go_enter Try.func17, Try.ntmps17
    go_wp2
    go_ret
    exact ⟨rfl, Below.refl _ _⟩
theorem half_step (x k : Nat) : x / 2 ^ k / 2 = x / 2 ^ (k + 1) := by rw [Nat.div_div_eq_div_mul, Nat.pow_succ]
theorem mod_step (y k : Nat) : y % 2 ^ k + y / 2 ^ k % 2 * 2 ^ k = y % 2 ^ (k + 1) := by
  rw [Nat.mod_pow_succ, Nat.mul_comm (2 ^ k)]
theorem mod_fits (y k : Nat) (hk : k ≤ 64) : y % 2 ^ k < 18446744073709551616 :=
  Nat.lt_of_lt_of_le (Nat.mod_lt _ (Nat.pow_pos (by omega))) (show 2 ^ k ≤ 2 ^ 64 from Nat.pow_le_pow_right (by omega) hk)
def Pow2 (k P : Nat) : Prop := P < 18446744073709551616 ∧ (k < 64 → P = 2 ^ k)
theorem pow2_next (k P : Nat) (h : Pow2 k P) (hk : k < 64) : IntKind.u64.wrap ((P : Int) * 2) = ((P * 2 % 18446744073709551616 : Nat) : Int) ∧ Pow2 (k + 1) (P * 2 % 18446744073709551616) := by
  refine ⟨by rw [IntKind.wrap_u64]; omega, Nat.mod_lt _ (by omega), fun hk1 => ?_⟩
  have e := h.2 hk
  have : 2 ^ (k + 1) ≤ 2 ^ 63 := Nat.pow_le_pow_right (by omega) (by omega)
  have h2 : 2 ^ (k + 1) < 18446744073709551616 := Nat.lt_of_le_of_lt this (by decide)
  rw [Nat.pow_succ] at h2 ⊢
  omega
theorem sum_fits (W z P y k : Nat) (hP : Pow2 k P) (hk : k < 64) (hz : z = y / 2 ^ k) (hW : W = y % 2 ^ k) : W + z % 2 * P = y % 2 ^ (k + 1) ∧ W + z % 2 * P < 18446744073709551616 := by
  have e := hP.2 hk
  have h := mod_step y k
  rw [hz, hW, e, h]
  exact ⟨rfl, mod_fits y (k + 1) (by omega)⟩
theorem sum_wrap (W z P : Nat) (h : W + z % 2 * P < 18446744073709551616) : IntKind.u64.wrap ((W : Int) + IntKind.u64.wrap ((z : Int) % 2 * P)) = ((W + z % 2 * P : Nat) : Int) := by
  have e : (z : Int) % 2 * P = ((z % 2 * P : Nat) : Int) := by rw [Int.natCast_mul]; rfl
  rw [e, IntKind.wrap_u64, IntKind.wrap_u64]
  omega
set_option maxHeartbeats 1000000 in
theorem refBits_yes (x lo n : Nat) (w : World) (hx : x < 18446744073709551616) (hn : 1 ≤ n) (hlo : lo + n ≤ 64)  :
    Calls Try.prog 18 #[.int .u64 x, .int .i64 lo, .int .i64 n] w fun e w' => e = .returned (.int .u64 (bitsV x lo n : Nat)) ∧ w = w' := by
  have h1 : ¬ (64 : Int) - lo < n := by omega
  go_enter Try.func18, Try.ntmps18
  go_wp2
  go_loop [0, 7] (fun v i => ∃ k z : Nat, k ≤ lo ∧ i = .int .i64 k ∧ v = .int .u64 z ∧ z = x / 2 ^ k ∧ z < 18446744073709551616) (fun _ i => lo - (intOf i).toNat)
  case atStart => exact ⟨0, x, Nat.zero_le _, rfl, rfl, by simp, hx⟩
  case round =>
    obtain ⟨k, z, hk, rfl, rfl, hz, hfit⟩ := hrel
    have HZ := Lib.hid hz; clear hz
    by_cases hlt : k < lo
    · go_wp2
      go_round
      case rel => exact ⟨k + 1, z / 2, by omega, by go_num, by go_num, by rw [HZ.out, half_step], by omega⟩
      case measure => simp [intOf]; omega
    · obtain rfl : k = lo := by omega
      go_wp2
      go_loop [0, 8, 9, 10] (fun v s p i => ∃ j y W P : Nat, j ≤ n ∧ i = .int .i64 j ∧ v = .int .u64 y ∧ s = .int .u64 W ∧ p = .int .u64 P ∧ y = z / 2 ^ j ∧ W = z % 2 ^ j ∧ y < 18446744073709551616 ∧ Pow2 j P) (fun _ _ _ i => n - (intOf i).toNat)
      case atStart => exact ⟨0, z, 0, 1, Nat.zero_le _, rfl, rfl, rfl, rfl, by simp, by simp [Nat.mod_one], hfit, by decide, fun _ => rfl⟩
      case round =>
        obtain ⟨j, y, W, P, hj, rfl, rfl, rfl, rfl, hy, hW, hfy, hP⟩ := hrel
        have HY := Lib.hid hy; clear hy
        have HW := Lib.hid hW; clear hW
        have HP := Lib.hid hP; clear hP
        by_cases hjn : j < n
        · have hs := sum_fits W y P z j HP.out (by omega) HY.out HW.out
          have HS := Lib.hid hs; clear hs
          go_wp2
          go_round
          case rel =>
            have hn := pow2_next j P HP.out (by omega)
            exact ⟨j + 1, y / 2, W + y % 2 * P, P * 2 % 18446744073709551616, by omega, by go_num, by go_num, congrArg (Value.int .u64) (sum_wrap W y P HS.out.2), congrArg (Value.int .u64) hn.1, by rw [HY.out, half_step], HS.out.1, by omega, hn.2⟩
          case measure => simp [intOf]; omega
        · obtain rfl : j = n := by omega
          go_wp2
          go_ret
          exact ⟨ret_int (by rw [HW.out, HZ.out]; rfl), rfl⟩
set_option maxHeartbeats 400000 in
theorem refBits_no (v lo n : Int) (w : World) (h1 : -9223372036854775808 ≤ lo ∧ lo ≤ 9223372036854775807) (h2 : -9223372036854775808 ≤ n ∧ n ≤ 9223372036854775807) (h : ¬ (0 ≤ lo ∧ 1 ≤ n ∧ lo + n ≤ 64)) :
    Calls Try.prog 18 #[.int .u64 v, .int .i64 lo, .int .i64 n] w fun e w' => e = .returned (.int .u64 0) ∧ w = w' := by
  obtain ⟨a1, a2⟩ := h1
  obtain ⟨b1, b2⟩ := h2
  by_cases h0 : 0 ≤ lo
  · by_cases hn : 1 ≤ n
    · by_cases hl : lo ≤ 63
      · have hx : (64 : Int) - lo < n := by omega
        clear h
        go_enter Try.func18, Try.ntmps18
        go_wp2
        go_ret
        exact ⟨rfl, rfl⟩
      · clear h
        go_enter Try.func18, Try.ntmps18
        go_wp2
        go_ret
        exact ⟨rfl, rfl⟩
    · clear h
      go_enter Try.func18, Try.ntmps18
      go_wp2
      go_ret
      exact ⟨rfl, rfl⟩
  · clear h
    go_enter Try.func18, Try.ntmps18
    go_wp2
    go_ret
    exact ⟨rfl, rfl⟩
-- both at once: the code's Bits and the document's own are one number
def bitsI (v lo n : Int) : Int := if 0 ≤ lo ∧ 1 ≤ n ∧ lo + n ≤ 64 then (bitsV v.toNat lo.toNat n.toNat : Nat) else 0
def In64 (x : Int) : Prop := -9223372036854775808 ≤ x ∧ x ≤ 9223372036854775807
theorem bits_any (v : Nat) (lo n : Int) (w : World) (hv : v < 18446744073709551616) (h1 : In64 lo) (h2 : In64 n) :
    Calls Try.prog 17 #[.int .u64 v, .int .i64 lo, .int .i64 n] w fun e w' => e = .returned (.int .u64 (bitsI v lo n)) ∧ Below w.heap.size w w' := by
  by_cases h : 0 ≤ lo ∧ 1 ≤ n ∧ lo + n ≤ 64
  · have he : bitsI v lo n = (bitsV v lo.toNat n.toNat : Nat) := by unfold bitsI; rw [if_pos h]; rfl
    rw [he]
    obtain ⟨h3, h4, h5⟩ := h
    obtain ⟨lo, rfl⟩ := Int.eq_ofNat_of_zero_le h3
    obtain ⟨n, rfl⟩ := Int.eq_ofNat_of_zero_le (show 0 ≤ n by omega)
    exact bits_yes v lo n w hv (by omega) (by omega)
  · have he : bitsI v lo n = 0 := by unfold bitsI; rw [if_neg h]
    rw [he]
    exact bits_no v lo n w h1 h2 h
theorem refBits_any (v : Nat) (lo n : Int) (w : World) (hv : v < 18446744073709551616) (h1 : In64 lo) (h2 : In64 n) :
    Calls Try.prog 18 #[.int .u64 v, .int .i64 lo, .int .i64 n] w fun e w' => e = .returned (.int .u64 (bitsI v lo n)) ∧ w = w' := by
  by_cases h : 0 ≤ lo ∧ 1 ≤ n ∧ lo + n ≤ 64
  · have he : bitsI v lo n = (bitsV v lo.toNat n.toNat : Nat) := by unfold bitsI; rw [if_pos h]; rfl
    rw [he]
    obtain ⟨h3, h4, h5⟩ := h
    obtain ⟨lo, rfl⟩ := Int.eq_ofNat_of_zero_le h3
    obtain ⟨n, rfl⟩ := Int.eq_ofNat_of_zero_le (show 0 ≤ n by omega)
    exact refBits_yes v lo n w hv (by omega) (by omega)
  · have he : bitsI v lo n = 0 := by unfold bitsI; rw [if_neg h]
    rw [he]
    exact refBits_no v lo n w h1 h2 h
set_option maxHeartbeats 400000 in
theorem bit_any (v : Nat) (lo : Int) (w : World) (hv : v < 18446744073709551616) (h1 : In64 lo) :
    Calls Try.prog 19 #[.int .u64 v, .int .i64 lo] w fun e w' => e = .returned (.bool (bitsI v lo 1 == 1)) ∧ Below w.heap.size w w' := by
  go_enter Try.func19, Try.ntmps19
  go_wp2_with (fail)
  refine (bits_any v lo 1 _ hv h1 (by unfold In64; omega)).mono ?_; rintro e w' ⟨rfl, hb⟩
  go_wp2
  go_ret
  exact ⟨rfl, hb⟩
set_option maxHeartbeats 400000 in
theorem refBit_any (v : Nat) (lo : Int) (w : World) (hv : v < 18446744073709551616) (h1 : In64 lo) :
    Calls Try.prog 20 #[.int .u64 v, .int .i64 lo] w fun e w' => e = .returned (.bool (bitsI v lo 1 == 1)) ∧ w = w' := by
  go_enter Try.func20, Try.ntmps20
  go_wp2_with (fail)
  refine (refBits_any v lo 1 _ hv h1 (by unfold In64; omega)).mono ?_; rintro e w' ⟨rfl, rfl⟩
  go_wp2
  go_ret
  exact ⟨rfl, rfl⟩
set_option maxHeartbeats 400000 in
theorem fieldsBits_any (v : Nat) (lo n : Int) (w : World) (hv : v < 18446744073709551616) (h1 : In64 lo) (h2 : In64 n) :
    Calls Try.prog 5 #[.int .u64 v, .int .i64 lo, .int .i64 n] w fun e w' => e = .returned (.bool true) ∧ Below w.heap.size w w' := by
  go_enter Try.func5, Try.ntmps5
  go_wp2_with (fail)
  refine (bits_any v lo n _ hv h1 h2).mono ?_; rintro e w1 ⟨rfl, hb1⟩
  have H1 := Lib.hid hb1; clear hb1
  go_wp2_with (fail)
  refine (refBits_any v lo n _ hv h1 h2).mono ?_; rintro e w2 ⟨rfl, rfl⟩
  go_wp2_with (fail)
  refine (bit_any v lo _ hv h1).mono ?_; rintro e w3 ⟨rfl, hb3⟩
  have H3 := Lib.hid hb3; clear hb3
  go_wp2_with (fail)
  refine (refBit_any v lo _ hv h1).mono ?_; rintro e w4 ⟨rfl, rfl⟩
  go_wp2_with (fail)
  refine (wakes_any _).mono ?_; rintro e w5 ⟨rfl, hb5⟩
  have H5 := Lib.hid hb5; clear hb5
  go_wp2
  go_ret
  have h13 := H1.out.trans (H3.out.mono H1.out.size)
  exact ⟨rfl, h13.trans (H5.out.mono h13.size)⟩
end Go.Proofs.Ytkedklfhgfaddaa
