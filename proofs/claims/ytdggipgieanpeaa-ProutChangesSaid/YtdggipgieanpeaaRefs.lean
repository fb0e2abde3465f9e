/- Big and Little of the document, at every input. -/
import Derived.Test.YtdggipgieanpeaaAsk
namespace Go.Proofs.Ytdggipgieanpeaa
open Go.RowKit
theorem bigStep (f : Nat → Nat) (hf : ∀ i, f i < 256) (k : Nat) (hk : k < 8) : bigV f k * 256 + f k < 18446744073709551616 := by
  have := bigV_u64 f hf (k + 1) (by omega)
  simpa [bigV] using this
theorem wrapStep (v b : Nat) (h : v * 256 + b < 18446744073709551616) : IntKind.u64.wrap ((v : Int) * 256 + IntKind.u64.wrap (b : Int)) = ((v * 256 + b : Nat) : Int) := by
  rw [IntKind.wrap_u64, IntKind.wrap_u64]; omega
theorem bigStepV (f : Nat → Nat) (hf : ∀ i, f i < 256) (k : Nat) (hk : k < 8) :
    Value.int .u64 (IntKind.u64.wrap ((bigV f k : Int) * 256 + IntKind.u64.wrap (f k : Int))) = .int .u64 (bigV f (k + 1) : Nat) := by
  rw [wrapStep _ _ (bigStep f hf k hk)]; rfl
-- what the document's own way of reading, from the right, has: v rounds behind, k to come
theorem litDown (f : Nat → Nat) (n k v : Nat) (h : v * 256 ^ (k + 1) + litV f (k + 1) = litV f n) : (v * 256 + f k) * 256 ^ k + litV f k = litV f n := by
  rw [← h]; simp only [litV]; rw [Nat.pow_succ, Nat.add_mul, Nat.mul_assoc v, Nat.mul_comm 256]; omega
theorem litDown_lt (f : Nat → Nat) (n k v : Nat) (hf : ∀ i, f i < 256) (hn : n ≤ 8) (h : v * 256 ^ k + litV f k = litV f n) : v < 18446744073709551616 := by
  have h1 := litV_u64 f hf n hn
  have h2 : v * 1 ≤ v * 256 ^ k := Nat.mul_le_mul_left _ (Nat.pow_pos (by omega))
  omega
set_option maxHeartbeats 400000 in
theorem refBig_yes (s : ByteArray) (a n : Nat) (w : World) (hs : s.size ≤ maxLen) (h1 : 1 ≤ n) (h2 : n ≤ 8) (h3 : a + n ≤ s.size) :
    Calls Try.prog 17 #[.string s, .int .i64 a, .int .i64 n] w fun e w' => e = .returned (.tuple #[.int .u64 (bigV (readV s a) n : Nat), .bool true]) ∧ w = w' := by
  have hs' := hs
  unfold maxLen at hs
  go_enter Try.func17, Try.ntmps17
  go_wp2_with (fail)
  refine (there_yes s a n _ hs' (by omega) (by omega) (by omega)).mono ?_; rintro e w' ⟨rfl, rfl⟩
  go_wp2
  go_loop [8, 9] (fun v i => ∃ k : Nat, k ≤ n ∧ i = .int .i64 k ∧ v = .int .u64 (bigV (readV s a) k : Nat)) (fun _ i => n - (intOf i).toNat)
  case atStart => exact ⟨0, Nat.zero_le _, rfl, rfl⟩
  case round =>
    obtain ⟨k, hk, rfl, rfl⟩ := hrel
    have hu := bigV_u64 (readV s a) (readV_lt s a) k (by omega)
    by_cases hlt : k < n
    · have hst := bigStep (readV s a) (readV_lt s a) k (by omega)
      have hb := byt_eq s (a + k) (by omega)
      have HB := Lib.hid hb; clear hb
      go_wp2
      go_round
      case rel =>
        exact ⟨k + 1, by omega, by go_num, by rw [← HB.out]; exact bigStepV (readV s a) (readV_lt s a) k (by omega)⟩
      case measure => simp [intOf]; omega
    · obtain rfl : k = n := by omega
      go_wp2
      go_ret2
      exact ⟨rfl, rfl⟩
set_option maxHeartbeats 400000 in
theorem refBig_any (s : ByteArray) (a n : Int) (w : World) (hs : s.size ≤ maxLen) :
    Calls Try.prog 17 #[.string s, .int .i64 a, .int .i64 n] w fun e w' => e = .returned (.tuple #[.int .u64 (bigR s a n : Nat), .bool (okB s a n)]) ∧ w = w' := by
  by_cases h : 1 ≤ n ∧ n ≤ 8 ∧ 0 ≤ a ∧ a + n ≤ s.size
  · have h' := okB_yes h
    obtain ⟨h1, h2, h3, h4⟩ := h
    obtain ⟨a, rfl⟩ := Int.eq_ofNat_of_zero_le h3
    obtain ⟨n, rfl⟩ := Int.eq_ofNat_of_zero_le (show 0 ≤ n by omega)
    refine (refBig_yes s a n w hs (by omega) (by omega) (by omega)).mono ?_
    rintro e w' ⟨rfl, rfl⟩
    exact ⟨ret_two (by rw [bigR_yes h']) h'.symm, rfl⟩
  · have HK := Lib.hid (okB_no h)
    have HB := Lib.hid (bigR_no HK.out)
    by_cases hn : 1 ≤ n
    · by_cases hn8 : n ≤ 8
      · have H := Lib.hid (show ¬ (0 ≤ a ∧ 0 ≤ n ∧ a + n ≤ s.size) by omega)
        clear h
        go_enter Try.func17, Try.ntmps17
        go_wp2_with (fail)
        refine (there_no s a n _ hs H.out).mono ?_; rintro e w' ⟨rfl, rfl⟩
        go_wp2
        go_ret2
        exact ⟨ret_two (by rw [HB.out]; rfl) (by rw [HK.out]), rfl⟩
      · clear h
        go_enter Try.func17, Try.ntmps17
        go_wp2
        go_ret2
        exact ⟨ret_two (by rw [HB.out]; rfl) (by rw [HK.out]), rfl⟩
    · clear h
      go_enter Try.func17, Try.ntmps17
      go_wp2
      go_ret2
      exact ⟨ret_two (by rw [HB.out]; rfl) (by rw [HK.out]), rfl⟩
end Go.Proofs.Ytdggipgieanpeaa
