/- A number of two parts is put together from theirs; the calls of FieldsParts return true. -/
import Derived.Test.YtkedklfhgfaddabSets
namespace Go.Proofs.Ytkedklfhgfaddab
open Go.RowKit
theorem bigV_parts (f : Nat → Nat) (a : Nat) : ∀ b, bigV f (a + b) = bigV f a * 256 ^ b + bigV (fun i => f (a + i)) b
  | 0 => by simp [bigV]
  | b + 1 => by
    rw [← Nat.add_assoc]
    simp only [bigV]
    rw [bigV_parts f a b, Nat.pow_succ, Nat.add_mul, Nat.mul_assoc, Nat.add_assoc]
theorem litV_parts (f : Nat → Nat) (a : Nat) : ∀ b, litV f (a + b) = litV (fun i => f (a + i)) b * 256 ^ a + litV f a
  | 0 => by simp [litV]
  | b + 1 => by
    rw [← Nat.add_assoc]
    simp only [litV]
    rw [litV_parts f a b, Nat.pow_add, Nat.add_mul, Nat.mul_comm (256 ^ a), Nat.mul_assoc]
    omega
theorem readV_shift (s : ByteArray) (k a : Nat) : (fun i => readV s k (a + i)) = readV s (k + a) := by
  funext i; unfold readV; rw [Nat.add_assoc]
theorem or_parts (y z b : Nat) (hz : z < 256 ^ b) : y * 2 ^ (8 * b) ||| z = y * 256 ^ b + z := by
  rw [← pow8] at hz
  have := Nat.two_pow_add_eq_or_of_lt hz y
  rw [← pow8, Nat.mul_comm y, ← this]
theorem or_shl (y z b n : Nat) (hy : y < 256 ^ n) (hz : z < 256 ^ b) (h8 : n + b ≤ 8) :
    bits BinOp.or IntKind.u64 (IntKind.u64.wrap ((y : Int) * 2 ^ (8 * b))) (z : Int) = ((y * 256 ^ b + z : Nat) : Int) := by
  have e : (y : Int) * 2 ^ (8 * b) = ((y * 2 ^ (8 * b) : Nat) : Int) := by rw [Int.natCast_mul, Int.natCast_pow]; rfl
  have h1 : y * 256 ^ b + z < 256 ^ (n + b) := by
    rw [Nat.pow_add]
    have : (y + 1) * 256 ^ b ≤ 256 ^ n * 256 ^ b := Nat.mul_le_mul_right _ hy
    rw [Nat.add_mul] at this
    omega
  have h2 := Nat.lt_of_lt_of_le h1 (pow_le8 _ h8)
  have h3 : y * 2 ^ (8 * b) < 18446744073709551616 := by rw [pow8]; omega
  rw [e, IntKind.wrap_u64, ← or_parts y z b hz, show ((y * 2 ^ (8 * b) : Nat) : Int) % 18446744073709551616 = ((y * 2 ^ (8 * b) : Nat) : Int) by omega]
  exact u64_or_nat _ _ h3 (by omega)
def partV (s : ByteArray) (k n : Nat) : Nat := bigV (readV s k) n
def partL (s : ByteArray) (k n : Nat) : Nat := litV (readV s k) n
structure PartsOf (s : ByteArray) (k a b : Nat) : Prop where
  big : bits BinOp.or IntKind.u64 (IntKind.u64.wrap ((partV s k a : Int) * 2 ^ (8 * b))) (partV s (k + a) b : Nat) = (partV s k (a + b) : Nat)
  lit : bits BinOp.or IntKind.u64 (IntKind.u64.wrap ((partL s (k + a) b : Int) * 2 ^ (8 * a))) (partL s k a : Nat) = (partL s k (a + b) : Nat)
  top : bitsI (partV s k (a + b)) (8 * b) (8 * a) = partV s k a
  fits : partV s k (a + b) < 18446744073709551616
theorem partsOf (s : ByteArray) (k a b : Nat) (ha : 1 ≤ a ∧ a ≤ 4) (hb : 1 ≤ b ∧ b ≤ 4) : PartsOf s k a b := by
  have e1 : partV s k (a + b) = partV s k a * 256 ^ b + partV s (k + a) b := by
    unfold partV; rw [bigV_parts, readV_shift]
  have e2 : partL s k (a + b) = partL s (k + a) b * 256 ^ a + partL s k a := by
    unfold partL; rw [litV_parts, readV_shift]
  have h1 : partV s k a < 256 ^ a := bigV_lt _ (readV_lt s k) a
  have h2 : partV s (k + a) b < 256 ^ b := bigV_lt _ (readV_lt s _) b
  have h3 : partL s k a < 256 ^ a := litV_lt _ (readV_lt s k) a
  have h4 : partL s (k + a) b < 256 ^ b := litV_lt _ (readV_lt s _) b
  have hf : partV s k (a + b) < 18446744073709551616 := bigV_u64 _ (readV_lt s k) _ (by omega)
  refine ⟨by rw [e1]; exact or_shl _ _ b a h1 h2 (by omega), by rw [e2]; exact or_shl _ _ a b h4 h3 (by omega), ?_, hf⟩
  have hb0 : bitsI (partV s k (a + b)) (8 * b) (8 * a) = (bitsV (partV s k (a + b)) (8 * b) (8 * a) : Nat) := by
    unfold bitsI
    rw [if_pos ⟨by omega, by omega, by omega⟩]
    congr 2 <;> omega
  rw [hb0]
  unfold bitsV
  rw [pow8, pow8, e1, Nat.mul_comm (partV s k a), Nat.mul_add_div (Nat.pow_pos (by omega)), Nat.div_eq_of_lt h2, Nat.add_zero, Nat.mod_eq_of_lt h1]
theorem part_big (s : ByteArray) (k n : Nat) (K N : Int) (w : World) (hs : s.size ≤ maxLen) (h1 : 1 ≤ n) (h8 : n ≤ 8) (h : k + n ≤ s.size) (hK : K = k) (hN : N = n) :
    Calls Try.prog 5 #[.string s, .int .i64 K, .int .i64 N] w fun e w' => e = .returned (.tuple #[.int .u64 (partV s k n : Nat), .bool true]) ∧ Below w.heap.size w w' := by
  subst hK hN
  have hk : okB s k n = true := okB_yes ⟨by omega, by omega, by omega, by omega⟩
  exact (big_any s k n w hs).mono fun e w' ⟨he, hb⟩ => ⟨he.trans (ret_two (by rw [bigR_yes hk]; rfl) hk), hb⟩
theorem part_lit (s : ByteArray) (k n : Nat) (K N : Int) (w : World) (hs : s.size ≤ maxLen) (h1 : 1 ≤ n) (h8 : n ≤ 8) (h : k + n ≤ s.size) (hK : K = k) (hN : N = n) :
    Calls Try.prog 6 #[.string s, .int .i64 K, .int .i64 N] w fun e w' => e = .returned (.tuple #[.int .u64 (partL s k n : Nat), .bool true]) ∧ Below w.heap.size w w' := by
  subst hK hN
  have hk : okB s k n = true := okB_yes ⟨by omega, by omega, by omega, by omega⟩
  exact (little_any s k n w hs).mono fun e w' ⟨he, hb⟩ => ⟨he.trans (ret_two (by rw [litR_yes hk]; rfl) hk), hb⟩
theorem part_bits (s : ByteArray) (k a b : Nat) (w : World) (ha : 1 ≤ a ∧ a ≤ 4) (hb : 1 ≤ b ∧ b ≤ 4) :
    Calls Try.prog 7 #[.int .u64 (partV s k (a + b) : Nat), .int .i64 (8 * b), .int .i64 (8 * a)] w fun e w' => e = .returned (.int .u64 (partV s k a : Nat)) ∧ Below w.heap.size w w' := by
  have hp := partsOf s k a b ha hb
  exact (bits_any (partV s k (a + b)) (8 * b) (8 * a) w hp.fits (by unfold In64; omega) (by unfold In64; omega)).mono fun e w' ⟨he, hb⟩ => ⟨he.trans (by rw [hp.top]), hb⟩
theorem bthen {w v u : World} (h : Below w.heap.size w v) (k : Below v.heap.size v u) : Below w.heap.size w u := h.trans (k.mono h.size)
set_option maxHeartbeats 1000000 in
theorem parts_walk (s : ByteArray) (at' n0 n1 : Int) (w : World) (hs : s.size ≤ 100000) :
    Calls Try.prog 3 #[.string s, .int .i64 at', .agg #[.int .i64 n0, .int .i64 n1]] w fun e w' => e = .returned (.bool true) ∧ Below w.heap.size w w' := by
  obtain ⟨a, ha, ha1, ha4'⟩ := size_k n0 4 (by omega)
  obtain ⟨b, hb, hb1, hb4'⟩ := size_k n1 4 (by omega)
  have ha4 : a ≤ 4 := by omega
  have hb4 : b ≤ 4 := by omega
  clear ha4' hb4'
  have HA := Lib.hid ha; clear ha
  have HB := Lib.hid hb; clear hb
  by_cases hab : a + b ≤ s.size
  · obtain ⟨k, hk, hk1'⟩ := size_at at' ((s.size : Int) - a - b + 1) (by omega)
    have hk1 : k + (a + b) ≤ s.size := by omega
    clear hk1'
    have HK := Lib.hid hk; clear hk
    have hs' : s.size ≤ maxLen := by unfold maxLen; omega
    have habi : (a : Int) + b ≤ s.size := by omega
    have HP := Lib.hid (partsOf s k a b ⟨ha1, ha4⟩ ⟨hb1, hb4⟩)
    go_enter Try.func3, Try.ntmps3
    go_wp2
    go_quiet (fail)
    rw [HA.out, HB.out]
    go_wp2_with (fail)
    rw [HK.out]
    refine (part_big s k (a + b) _ _ _ hs' (by omega) (by omega) (by omega) (by omega) (by omega)).mono ?_; rintro e w1 ⟨rfl, hb1⟩
    have H1 := Lib.hid (bthen (((Below.refl w.heap.size w).alloc (Nat.le_refl _) _).trans (belDrew _ _ _)) hb1); clear hb1
    go_wp2_with (fail)
    refine (part_big s k a _ _ _ hs' (by omega) (by omega) (by omega) (by omega) (by omega)).mono ?_; rintro e w2 ⟨rfl, hb2⟩
    have H2 := Lib.hid (bthen H1.out hb2); clear hb2
    go_wp2_with (fail)
    refine (part_big s (k + a) b _ _ _ hs' (by omega) (by omega) (by omega) (by omega) (by omega)).mono ?_; rintro e w3 ⟨rfl, hb3⟩
    have H3 := Lib.hid (bthen H2.out hb3); clear hb3
    go_wp2_with (fail)
    refine (part_lit s k (a + b) _ _ _ hs' (by omega) (by omega) (by omega) (by omega) (by omega)).mono ?_; rintro e w4 ⟨rfl, hb4⟩
    have H4 := Lib.hid (bthen H3.out hb4); clear hb4
    go_wp2_with (fail)
    refine (part_lit s k a _ _ _ hs' (by omega) (by omega) (by omega) (by omega) (by omega)).mono ?_; rintro e w5 ⟨rfl, hb5⟩
    have H5 := Lib.hid (bthen H4.out hb5); clear hb5
    go_wp2_with (fail)
    refine (part_lit s (k + a) b _ _ _ hs' (by omega) (by omega) (by omega) (by omega) (by omega)).mono ?_; rintro e w6 ⟨rfl, hb6⟩
    have H6 := Lib.hid (bthen H5.out hb6); clear hb6
    have hbig := HP.out.big
    have hlit := HP.out.lit
    go_wp2_with (fail)
    refine (part_bits s k a b _ ⟨ha1, ha4⟩ ⟨hb1, hb4⟩).mono ?_; rintro e w7 ⟨rfl, hb7⟩
    have H7 := Lib.hid (bthen H6.out hb7); clear hb7
    go_wp2_with (fail)
    refine (wakes_any _).mono ?_; rintro e w8 ⟨rfl, hb8⟩
    have H8 := Lib.hid (bthen H7.out hb8); clear hb8
    go_wp2
    go_ret
    exact ⟨rfl, H8.out⟩
  · have habi : (s.size : Int) < (a : Int) + b := by omega
    clear hab
    go_enter Try.func3, Try.ntmps3
    go_wp2
    go_quiet (fail)
    rw [HA.out, HB.out]
    go_wp2_with (fail)
    refine (wakes_any _).mono ?_; rintro e w8 ⟨rfl, hb8⟩
    have H8 := Lib.hid (bthen (((Below.refl w.heap.size w).alloc (Nat.le_refl _) _).trans (belDrew _ _ _)) hb8); clear hb8
    go_wp2
    go_ret
    exact ⟨rfl, H8.out⟩
set_option maxHeartbeats 1000000 in
theorem fieldsParts_any (s : ByteArray) (at' n0 n1 : Int) (w : World) :
    Calls Try.prog 3 #[.string s, .int .i64 at', .agg #[.int .i64 n0, .int .i64 n1]] w fun e w' => e = .returned (.bool true) ∧ Below w.heap.size w w' := by
  by_cases h : s.size ≤ 100000
  · exact parts_walk s at' n0 n1 w h
  · have h3 : (100000 : Int) < s.size := by omega
    clear h
    go_enter Try.func3, Try.ntmps3
    go_wp2
    go_quiet (fail)
    go_wp2_with (fail)
    refine (wakes_any _).mono ?_; rintro e w8 ⟨rfl, hb8⟩
    have H8 := Lib.hid (bthen (((Below.refl w.heap.size w).alloc (Nat.le_refl _) _).trans (belDrew _ _ _)) hb8); clear hb8
    go_wp2
    go_ret
    exact ⟨rfl, H8.out⟩
end Go.Proofs.Ytkedklfhgfaddab
