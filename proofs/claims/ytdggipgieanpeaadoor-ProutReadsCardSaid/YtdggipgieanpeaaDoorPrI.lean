/- The statement's own reading of a number. -/
import Derived.Test.YtdggipgieanpeaaDoorPrE
namespace Go.Proofs.YtdggipgieanpeaaDoor
open Go.RowKit
theorem or_byte (v b : Nat) (hv : v < 72057594037927936) (hb : b < 256) : bits BinOp.or IntKind.u64 ((v : Int) * 256) (b : Int) = ((v * 256 + b : Nat) : Int) := by
  have e : (v : Int) * 256 = ((v * 256 : Nat) : Int) := by omega
  rw [e, u64_or_nat (v * 256) b (by omega) (by omega)]
  have h := Nat.shiftLeft_add_eq_or_of_lt (i := 8) (b := b) (by omega) v
  rw [Nat.shiftLeft_eq] at h
  rw [show v * 256 ||| b = v * 256 + b from h.symm]
set_option maxRecDepth 100000 in
set_option maxHeartbeats 4000000 in
theorem num_any (s : ByteArray) (a n : Nat) (w : World) (hs : s.size ≤ 100000) (h8 : n ≤ 8) (h : a + n ≤ s.size) : Calls Tryd.prog 8 #[.string s, .int .i64 (a : Int), .int .i64 (n : Int)] w fun e w' => e = .returned (.int .u64 (big s a n : Nat)) ∧ w' = w := by
  have HV := Lib.hid (show big s a n = bigV (readV s a) n from rfl)
  go_enter Tryd.func8, Tryd.ntmps8
  go_wp2_with (fail)
  go_loop [7, 8] (fun v i => ∃ k : Nat, k ≤ n ∧ i = .int .i64 k ∧ v = .int .u64 (bigV (readV s a) k : Nat)) (fun _ i => n - (intOf i).toNat)
  case atStart => exact ⟨0, by omega, rfl, rfl⟩
  case round =>
    obtain ⟨k, hk, rfl, rfl⟩ := hrel
    by_cases hlt : (k : Int) < (n : Int)
    · have hidx := fun w => index_byt s ((a : Int) + (k : Int)) (a + k) (by omega) (by omega) w
      have hsum : IntKind.i64.wrap ((a : Int) + (k : Int)) = (a : Int) + (k : Int) := IntWalk.i64_in _ (by omega)
      have hbt := byt_lt s (a + k)
      have hvl := bigV_lt (readV s a) (readV_lt s a) k
      have hpw : (256 : Nat) ^ k ≤ 256 ^ 7 := Nat.pow_le_pow_right (by decide) (by omega)
      have h7 : (256 : Nat) ^ 7 = 72057594037927936 := rfl
      generalize hv : bigV (readV s a) k = v at *
      generalize hb : byt s (a + k) = b at *
      have hor := or_byte v b (by omega) hbt
      have HST := Lib.hid (show bigV (readV s a) (k + 1) = v * 256 + b by rw [← hv, ← hb]; rfl)
      have hwr : IntKind.u64.wrap ((v : Int) * 256) = (v : Int) * 256 := IntWalk.u64_in _ (by omega)
      clear hv hb hvl hpw h7
      go_wp2_with (fail)
      go_round
      case rel => exact ⟨k + 1, by omega, by go_num, by rw [HST.out, Int.natCast_add, Int.natCast_mul]; rfl⟩
      case measure => simp [intOf]; omega
    · obtain rfl : k = n := by omega
      go_wp2_with (fail)
      go_ret
      exact ⟨by rw [HV.out]; rfl, rfl⟩
end Go.Proofs.YtdggipgieanpeaaDoor
