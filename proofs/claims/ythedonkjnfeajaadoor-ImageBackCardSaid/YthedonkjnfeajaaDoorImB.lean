/- What was put is got: the number of bytes that were made of a number. -/
import Derived.Test.YthedonkjnfeajaaDoorCrcTurned
namespace Go.Proofs.YthedonkjnfeajaaDoor
open Go.RowKit
theorem bigV_congr (f g : Nat → Nat) : ∀ k, (∀ i, i < k → f i = g i) → bigV f k = bigV g k
  | 0, _ => rfl
  | k + 1, h => by simp only [bigV]; rw [bigV_congr f g k (fun i hi => h i (by omega)), h k (by omega)]
theorem litV_congr (f g : Nat → Nat) : ∀ k, (∀ i, i < k → f i = g i) → litV f k = litV g k
  | 0, _ => rfl
  | k + 1, h => by simp only [litV]; rw [litV_congr f g k (fun i hi => h i (by omega)), h k (by omega)]
theorem litV_back (x : Nat) : ∀ k, litV (fun i => x / 256 ^ i % 256) k = x % 256 ^ k
  | 0 => by simp [litV, Nat.mod_one]
  | k + 1 => by
    simp only [litV]
    rw [litV_back x k, Nat.mod_pow_succ, Nat.mul_comm (256 ^ k)]
theorem bigV_back (x k : Nat) : ∀ j, j ≤ k → bigV (fun i => x / 256 ^ (k - (i + 1)) % 256) j = x / 256 ^ (k - j) % 256 ^ j
  | 0, _ => by simp [bigV, Nat.mod_one]
  | j + 1, h => by
    simp only [bigV]
    rw [bigV_back x k j (by omega)]
    have e : k - j = (k - (j + 1)) + 1 := by omega
    rw [e]
    generalize k - (j + 1) = m
    have e2 : x / 256 ^ (m + 1) = x / 256 ^ m / 256 := by rw [Nat.div_div_eq_div_mul, Nat.pow_succ]
    rw [e2]
    generalize x / 256 ^ m = y
    rw [Nat.pow_succ, Nat.mul_comm (256 ^ j), Nat.mod_mul]
    omega
theorem byt_app_right (s t : ByteArray) (i : Nat) : byt (s ++ t) (s.size + i) = byt t i := by
  have h : (s ++ t).data.toList = s.data.toList ++ t.data.toList := by simp
  unfold byt
  rw [h, List.getD_eq_getElem?_getD, List.getD_eq_getElem?_getD, List.getElem?_append_right (by simp)]
  simp
theorem byt_app_left (s t : ByteArray) (i : Nat) (hi : i < s.size) : byt (s ++ t) i = byt s i := by
  have h : (s ++ t).data.toList = s.data.toList ++ t.data.toList := by simp
  unfold byt
  rw [h, List.getD_eq_getElem?_getD, List.getD_eq_getElem?_getD, List.getElem?_append_left (by simpa using hi)]
theorem byt_out (g : Nat → Nat) (k i : Nat) (hi : i < k) : byt ⟨(outB g k).toArray⟩ i = g i % 256 := by
  unfold byt
  simp [outB, hi]
theorem size_out (g : Nat → Nat) (k : Nat) : (ByteArray.mk (outB g k).toArray).size = k := by
  show (outB g k).toArray.size = k
  simp [outB]
theorem size_app (s t : ByteArray) : (s ++ t).size = s.size + t.size := by simp
theorem back_big (x k : Nat) (s : ByteArray) (h1 : 1 ≤ k) (h8 : k ≤ 8) :
    okB (s ++ ⟨(outB (hiG x k) k).toArray⟩) s.size k = true ∧ bigR (s ++ ⟨(outB (hiG x k) k).toArray⟩) s.size k = x % 256 ^ k := by
  have hk : okB (s ++ ⟨(outB (hiG x k) k).toArray⟩) s.size k = true := okB_yes ⟨by omega, by omega, by omega, by rw [size_app, size_out]; omega⟩
  refine ⟨hk, ?_⟩
  rw [bigR_yes hk, bigV_congr _ (fun i => x / 256 ^ (k - (i + 1)) % 256) k (fun i hi => ?_), bigV_back x k k (Nat.le_refl _)]
  · simp
  · unfold readV
    rw [byt_app_right, byt_out _ _ _ hi, hiG_eq]
theorem back_lit (x k : Nat) (s : ByteArray) (h1 : 1 ≤ k) (h8 : k ≤ 8) :
    okB (⟨(outB (loG x) k).toArray⟩ ++ s) 0 k = true ∧ litR (⟨(outB (loG x) k).toArray⟩ ++ s) 0 k = x % 256 ^ k := by
  have hk : okB (⟨(outB (loG x) k).toArray⟩ ++ s) 0 k = true := okB_yes ⟨by omega, by omega, by omega, by rw [size_app, size_out]; omega⟩
  refine ⟨hk, ?_⟩
  have := litR_yes (a := 0) (n := k) hk
  rw [show ((0 : Nat) : Int) = 0 from rfl] at this
  rw [this, litV_congr _ (fun i => x / 256 ^ i % 256) k (fun i hi => ?_), litV_back]
  · unfold readV
    rw [byt_app_left _ _ _ (by rw [size_out]; omega), byt_out _ _ _ (by omega), loG_eq, Nat.zero_add]
theorem put_size {x k : Nat} (h1 : 1 ≤ k) (h8 : k ≤ 8) : (putHi x k).size = k ∧ (putLo x k).size = k := by
  rw [putHi_yes h1 h8, putLo_yes h1 h8]; exact ⟨size_out _ _, size_out _ _⟩
end Go.Proofs.YthedonkjnfeajaaDoor
