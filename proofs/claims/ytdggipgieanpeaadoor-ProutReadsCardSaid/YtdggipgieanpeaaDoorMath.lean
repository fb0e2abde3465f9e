/- Plain facts on numbers made of bytes: the two ways of reading them, and what an or of shifted bytes comes to. -/
namespace Go.Proofs.YtdggipgieanpeaaDoor
def bigV (f : Nat → Nat) : Nat → Nat
  | 0 => 0
  | k + 1 => bigV f k * 256 + f k
def litV (f : Nat → Nat) : Nat → Nat
  | 0 => 0
  | k + 1 => litV f k + f k * 256 ^ k
theorem pow8 (k : Nat) : 2 ^ (8 * k) = 256 ^ k := by rw [Nat.pow_mul]
theorem bigV_lt (f : Nat → Nat) (hf : ∀ i, f i < 256) : ∀ k, bigV f k < 256 ^ k
  | 0 => by simp [bigV]
  | k + 1 => by
    have h := bigV_lt f hf k
    have h2 := hf k
    simp only [bigV, Nat.pow_succ]
    have : (bigV f k + 1) * 256 ≤ 256 ^ k * 256 := Nat.mul_le_mul_right _ h
    omega
theorem litV_lt (f : Nat → Nat) (hf : ∀ i, f i < 256) : ∀ k, litV f k < 256 ^ k
  | 0 => by simp [litV]
  | k + 1 => by
    have h := litV_lt f hf k
    have h2 := hf k
    simp only [litV, Nat.pow_succ]
    have : f k * 256 ^ k ≤ 255 * 256 ^ k := Nat.mul_le_mul_right _ (by omega)
    omega
theorem pow_le8 (k : Nat) (h : k ≤ 8) : 256 ^ k ≤ 18446744073709551616 := by
  have : 256 ^ k ≤ 256 ^ 8 := Nat.pow_le_pow_right (by omega) h
  exact this
-- code's way, from the left: after k of n rounds
def hiV (f : Nat → Nat) (n k : Nat) : Nat := bigV f k * 256 ^ (n - k)
theorem hiV_zero (f : Nat → Nat) (n : Nat) : hiV f n 0 = 0 := by simp [hiV, bigV]
theorem hiV_full (f : Nat → Nat) (n : Nat) : hiV f n n = bigV f n := by simp [hiV]
theorem hiV_lt (f : Nat → Nat) (hf : ∀ i, f i < 256) (n k : Nat) (hk : k ≤ n) : hiV f n k < 256 ^ n := by
  have h := bigV_lt f hf k
  have e : 256 ^ n = 256 ^ k * 256 ^ (n - k) := by rw [← Nat.pow_add]; congr 1; omega
  rw [e]; exact Nat.mul_lt_mul_of_pos_right h (Nat.pow_pos (by omega))
theorem hiV_or (f : Nat → Nat) (hf : ∀ i, f i < 256) (n k : Nat) (hk : k < n) :
    hiV f n k ||| (f k * 2 ^ (8 * (n - 1 - k))) = hiV f n (k + 1) := by
  have h2 := hf k
  have e : n - k = (n - 1 - k) + 1 := by omega
  have e2 : n - (k + 1) = n - 1 - k := by omega
  unfold hiV
  rw [e, e2, pow8]
  have hlt : f k * 256 ^ (n - 1 - k) < 2 ^ (8 * (n - 1 - k + 1)) := by
    rw [pow8, Nat.pow_succ, Nat.mul_comm]; exact Nat.mul_lt_mul_of_pos_left h2 (Nat.pow_pos (by omega))
  have := Nat.two_pow_add_eq_or_of_lt hlt (bigV f k)
  rw [← pow8 (n - 1 - k + 1), Nat.mul_comm (bigV f k), ← this]
  rw [pow8]
  simp only [bigV]
  rw [Nat.pow_succ, Nat.add_mul]
  refine congrArg (· + _) ?_
  rw [Nat.mul_assoc (bigV f k), Nat.mul_comm (bigV f k), Nat.mul_comm 256]
theorem litV_or (f : Nat → Nat) (hf : ∀ i, f i < 256) (k : Nat) :
    litV f k ||| (f k * 2 ^ (8 * k)) = litV f (k + 1) := by
  have h := litV_lt f hf k
  rw [← pow8] at h
  have := Nat.two_pow_add_eq_or_of_lt h (f k)
  rw [Nat.or_comm, Nat.mul_comm, ← this]
  simp only [litV]
  rw [pow8, Nat.mul_comm]; omega
end Go.Proofs.YtdggipgieanpeaaDoor
