/- What was written is read: the number's last bytes; and the calls of FieldsBack return true. -/
import Derived.Test.YtdggipgieanpeaaBits
namespace Go.Proofs.Ytdggipgieanpeaa
open Go.RowKit
theorem bigV_congr (f g : Nat → Nat) : ∀ k, (∀ i, i < k → f i = g i) → bigV f k = bigV g k
  | 0, _ => rfl
  | k + 1, h => by simp only [bigV]; rw [bigV_congr f g k (fun i hi => h i (by omega)), h k (by omega)]
theorem litV_congr (f g : Nat → Nat) : ∀ k, (∀ i, i < k → f i = g i) → litV f k = litV g k
  | 0, _ => rfl
  | k + 1, h => by simp only [litV]; rw [litV_congr f g k (fun i hi => h i (by omega)), h k (by omega)]
theorem litV_back (x : Nat) : ∀ k, litV (fun i => x / 256 ^ i % 256) k = x % 256 ^ k
  | 0 => by simp [litV, Nat.mod_one]
  | k + 1 => by
    simp only [litV]
    rw [litV_back x k, Nat.mod_pow_succ, Nat.mul_comm (256 ^ k)]
theorem bigV_back (x k : Nat) : ∀ j, j ≤ k → bigV (fun i => x / 256 ^ (k - (i + 1)) % 256) j = x / 256 ^ (k - j) % 256 ^ j
  | 0, _ => by simp [bigV, Nat.mod_one]
  | j + 1, h => by
    simp only [bigV]
    rw [bigV_back x k j (by omega)]
    have e : k - j = (k - (j + 1)) + 1 := by omega
    rw [e]
    generalize k - (j + 1) = m
    have e2 : x / 256 ^ (m + 1) = x / 256 ^ m / 256 := by rw [Nat.div_div_eq_div_mul, Nat.pow_succ]
    rw [e2]
    generalize x / 256 ^ m = y
    rw [Nat.pow_succ, Nat.mul_comm (256 ^ j), Nat.mod_mul]
    omega
theorem byt_app_right (s t : ByteArray) (i : Nat) : byt (s ++ t) (s.size + i) = byt t i := by
  have h : (s ++ t).data.toList = s.data.toList ++ t.data.toList := by simp
  unfold byt
  rw [h, List.getD_eq_getElem?_getD, List.getD_eq_getElem?_getD, List.getElem?_append_right (by simp)]
  simp
theorem byt_app_left (s t : ByteArray) (i : Nat) (hi : i < s.size) : byt (s ++ t) i = byt s i := by
  have h : (s ++ t).data.toList = s.data.toList ++ t.data.toList := by simp
  unfold byt
  rw [h, List.getD_eq_getElem?_getD, List.getD_eq_getElem?_getD, List.getElem?_append_left (by simpa using hi)]
theorem byt_out (g : Nat → Nat) (k i : Nat) (hi : i < k) : byt ⟨(outB g k).toArray⟩ i = g i % 256 := by
  unfold byt
  simp [outB, hi]
theorem size_out (g : Nat → Nat) (k : Nat) : (ByteArray.mk (outB g k).toArray).size = k := by
  show (outB g k).toArray.size = k
  simp [outB]
theorem size_app (s t : ByteArray) : (s ++ t).size = s.size + t.size := by simp
theorem back_big (x k : Nat) (s : ByteArray) (h1 : 1 ≤ k) (h8 : k ≤ 8) :
    okB (s ++ ⟨(outB (hiG x k) k).toArray⟩) s.size k = true ∧ bigR (s ++ ⟨(outB (hiG x k) k).toArray⟩) s.size k = x % 256 ^ k := by
  have hk : okB (s ++ ⟨(outB (hiG x k) k).toArray⟩) s.size k = true := okB_yes ⟨by omega, by omega, by omega, by rw [size_app, size_out]; omega⟩
  refine ⟨hk, ?_⟩
  rw [bigR_yes hk, bigV_congr _ (fun i => x / 256 ^ (k - (i + 1)) % 256) k (fun i hi => ?_), bigV_back x k k (Nat.le_refl _)]
  · simp
  · unfold readV
    rw [byt_app_right, byt_out _ _ _ hi, hiG_eq]
theorem back_lit (x k : Nat) (s : ByteArray) (h1 : 1 ≤ k) (h8 : k ≤ 8) :
    okB (⟨(outB (loG x) k).toArray⟩ ++ s) 0 k = true ∧ litR (⟨(outB (loG x) k).toArray⟩ ++ s) 0 k = x % 256 ^ k := by
  have hk : okB (⟨(outB (loG x) k).toArray⟩ ++ s) 0 k = true := okB_yes ⟨by omega, by omega, by omega, by rw [size_app, size_out]; omega⟩
  refine ⟨hk, ?_⟩
  have := litR_yes (a := 0) (n := k) hk
  rw [show ((0 : Nat) : Int) = 0 from rfl] at this
  rw [this, litV_congr _ (fun i => x / 256 ^ i % 256) k (fun i hi => ?_), litV_back]
  · unfold readV
    rw [byt_app_left _ _ _ (by rw [size_out]; omega), byt_out _ _ _ (by omega), loG_eq, Nat.zero_add]
-- the one way is the other one turned round
theorem turned (x k i : Nat) : loG x (k - 1 - i) = hiG x k i := rfl
theorem size_k (n : Int) (m : Int) (hm : 1 ≤ m ∧ m ≤ 8) : ∃ k : Nat, wrap64 (1 + wrap64 ((IntKind.u64.wrap n).tmod m)) = k ∧ 1 ≤ k ∧ k ≤ m := by
  have h0 := IntKind.wrap_u64 n
  have h1 : 0 ≤ IntKind.u64.wrap n := by rw [h0]; omega
  rw [Int.tmod_eq_emod_of_nonneg h1]
  have h2 := Int.emod_nonneg (IntKind.u64.wrap n) (show m ≠ 0 by omega)
  have h3 := Int.emod_lt_of_pos (IntKind.u64.wrap n) (show 0 < m by omega)
  generalize IntKind.u64.wrap n % m = r at h2 h3
  rw [IntWalk.wrap64_in r (by omega), IntWalk.wrap64_in (1 + r) (by omega)]
  exact ⟨(1 + r).toNat, by omega, by omega, by omega⟩
theorem and_cut (x k : Nat) (hx : x < 18446744073709551616) (h1 : 1 ≤ k) (h8 : k ≤ 8) :
    bits BinOp.and IntKind.u64 (x : Int) (IntKind.u64.wrap (IntKind.u64.wrap ((2 : Int) ^ (8 * k)) - 1)) = ((x % 256 ^ k : Nat) : Int) := by
  have h := bits_and x 0 (8 * k) hx (by omega) (by omega)
  simp only [Int.pow_zero, Int.ediv_one, bitsV, Nat.pow_zero, Nat.div_one, pow8] at h
  exact h
theorem index_byt (s : ByteArray) (i : Int) (m : Nat) (he : i = m) (hm : m < s.size) (w : World) :
    (Instr.index 9 (.string s) (.int .i64 i)).run Try.prog w = .ok (.int .u8 (byt s m : Nat)) w := by
  subst he
  rw [run_index_string w 9 s .i64 _ Try.underlying9, dif_pos ⟨by omega, by omega⟩, byt_eq s m hm]
  simp
def cutV (x k : Nat) : Nat := x % 256 ^ k
theorem put_size {x k : Nat} (h1 : 1 ≤ k) (h8 : k ≤ 8) : (putHi x k).size = k ∧ (putLo x k).size = k := by
  rw [putHi_yes h1 h8, putLo_yes h1 h8]; exact ⟨size_out _ _, size_out _ _⟩
theorem put_turned {x k i : Nat} (h1 : 1 ≤ k) (h8 : k ≤ 8) (hi : i < k) : byt (putHi x k) i = byt (putLo x k) (k - 1 - i) := by
  rw [putHi_yes h1 h8, putLo_yes h1 h8, byt_out _ _ _ hi, byt_out _ _ _ (by omega), turned]
theorem back_two (x k : Nat) (s : ByteArray) (h1 : 1 ≤ k) (h8 : k ≤ 8) :
    (okB (s ++ putHi x k) s.size k = true ∧ bigR (s ++ putHi x k) s.size k = cutV x k) ∧ (okB (putLo x k ++ s) 0 k = true ∧ litR (putLo x k ++ s) 0 k = cutV x k) := by
  rw [putHi_yes h1 h8, putLo_yes h1 h8]
  exact ⟨back_big x k s h1 h8, back_lit x k s h1 h8⟩
end Go.Proofs.Ytdggipgieanpeaa
