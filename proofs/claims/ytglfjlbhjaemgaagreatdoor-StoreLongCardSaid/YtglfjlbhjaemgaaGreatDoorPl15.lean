/- Pad of the code, and that the small example with which each statement asks first comes out true. Bits and Bit, of the code and of the document, at every input; the call of FieldsBits returns true. What was written is read: the number's last bytes; and the calls of FieldsBack return true. -/
import Derived.Test.YtglfjlbhjaemgaaGreatDoorPl09
import Derived.Test.YtglfjlbhjaemgaaGreatDoorPl01
namespace Go.Proofs.YtglfjlbhjaemgaaGreatDoor
open Go.RowKit
def padB (s : ByteArray) (n : Nat) : ByteArray := s ++ ⟨Array.replicate (n - s.size % n) 0⟩
set_option maxHeartbeats 400000 in
theorem pad_more (s : ByteArray) (n : Nat) (w : World) (hs : s.size ≤ 100000) (h1 : 1 ≤ n) (h2 : n ≤ 4096) (h3 : s.size % n ≠ 0) :
    Calls Tryz.prog 205 #[.string s, .int .i64 n] w fun e w' => e = .returned (.string (padB s n)) ∧ Below w.heap.size w w' := by
  have hm : s.size % n < n := Nat.mod_lt _ (by omega)
  have hmi : (s.size : Int) % (n : Int) ≠ 0 := by omega
  have hmi2 : (s.size : Int) % (n : Int) < n := by omega
  have hmi0 : 0 ≤ (s.size : Int) % (n : Int) := by omega
  have hb : (((s.size : Int) % (n : Int)) == 0) = false := by simpa using hmi
  have hrl : Lib.repeatL [0] (n - s.size % n) = List.replicate (n - s.size % n) 0 := by
    have := Lib.repeatL_replicate 0 1 (n - s.size % n)
    simpa using this
  have HR := Lib.hid hrl; clear hrl
  go_enter Tryz.func205, Tryz.ntmps205
  go_wp2_with (fail)
  rw [show ((n : Int) - (s.size : Int) % n) = ((n - s.size % n : Nat) : Int) by omega]
  refine (Tryz.strings_Repeat _ (n - s.size % n) _ (by omega) (by show 1 * (n - s.size % n) ≤ _; omega)).mono ?_; rintro e w' ⟨rfl, hb⟩
  rw [show ((⟨#[0]⟩ : ByteArray).data.toList) = [0] from rfl, HR.out]
  go_wp2
  go_ret
  exact ⟨ret_str (by unfold padB; rfl), hb⟩
set_option maxHeartbeats 400000 in
theorem pad_same (s : ByteArray) (n : Int) (w : World) (hs : s.size ≤ 100000) (h : n < 1 ∨ 4096 < n ∨ (s.size : Int) % n = 0) :
    Calls Tryz.prog 205 #[.string s, .int .i64 n] w fun e w' => e = .returned (.string s) ∧ Below w.heap.size w w' := by
  by_cases h1 : 1 ≤ n
  · by_cases h2 : n ≤ 4096
    · have h3 : (s.size : Int) % n = 0 := by omega
      clear h
      go_enter Tryz.func205, Tryz.ntmps205
      go_wp2
      go_ret
      exact ⟨rfl, Below.refl _ _⟩
    · clear h
      go_enter Tryz.func205, Tryz.ntmps205
      go_wp2
      go_ret
      exact ⟨rfl, Below.refl _ _⟩
  · clear h
    go_enter Tryz.func205, Tryz.ntmps205
    go_wp2
    go_ret
    exact ⟨rfl, Below.refl _ _⟩
open Go.RowKit
theorem belDrew (B : Nat) (w : World) : ∀ n, Below B w (w.drewN n)
  | 0 => Below.refl _ _
  | _ + 1 => ⟨rfl, rfl, rfl, Nat.le_refl _, fun _ _ => rfl⟩
open Go.RowKit
theorem bigV_congr (f g : Nat → Nat) : ∀ k, (∀ i, i < k → f i = g i) → bigV f k = bigV g k
  | 0, _ => rfl
  | k + 1, h => by simp only [bigV]; rw [bigV_congr f g k (fun i hi => h i (by omega)), h k (by omega)]
theorem bigV_back (x k : Nat) : ∀ j, j ≤ k → bigV (fun i => x / 256 ^ (k - (i + 1)) % 256) j = x / 256 ^ (k - j) % 256 ^ j
  | 0, _ => by simp [bigV, Nat.mod_one]
  | j + 1, h => by
    simp only [bigV]
    rw [bigV_back x k j (by omega)]
    have e : k - j = (k - (j + 1)) + 1 := by omega
    rw [e]
    generalize k - (j + 1) = m
    have e2 : x / 256 ^ (m + 1) = x / 256 ^ m / 256 := by rw [Nat.div_div_eq_div_mul, Nat.pow_succ]
    rw [e2]
    generalize x / 256 ^ m = y
    rw [Nat.pow_succ, Nat.mul_comm (256 ^ j), Nat.mod_mul]
    omega
theorem byt_app_right (s t : ByteArray) (i : Nat) : byt (s ++ t) (s.size + i) = byt t i := by
  have h : (s ++ t).data.toList = s.data.toList ++ t.data.toList := by simp
  unfold byt
  rw [h, List.getD_eq_getElem?_getD, List.getD_eq_getElem?_getD, List.getElem?_append_right (by simp)]
  simp
theorem byt_app_left (s t : ByteArray) (i : Nat) (hi : i < s.size) : byt (s ++ t) i = byt s i := by
  have h : (s ++ t).data.toList = s.data.toList ++ t.data.toList := by simp
  unfold byt
  rw [h, List.getD_eq_getElem?_getD, List.getD_eq_getElem?_getD, List.getElem?_append_left (by simpa using hi)]
theorem byt_out (g : Nat → Nat) (k i : Nat) (hi : i < k) : byt ⟨(outB g k).toArray⟩ i = g i % 256 := by
  unfold byt
  simp [outB, hi]
theorem size_out (g : Nat → Nat) (k : Nat) : (ByteArray.mk (outB g k).toArray).size = k := by
  show (outB g k).toArray.size = k
  simp [outB]
theorem size_app (s t : ByteArray) : (s ++ t).size = s.size + t.size := by simp
theorem back_big (x k : Nat) (s : ByteArray) (h1 : 1 ≤ k) (h8 : k ≤ 8) :
    okB (s ++ ⟨(outB (hiG x k) k).toArray⟩) s.size k = true ∧ bigR (s ++ ⟨(outB (hiG x k) k).toArray⟩) s.size k = x % 256 ^ k := by
  have hk : okB (s ++ ⟨(outB (hiG x k) k).toArray⟩) s.size k = true := okB_yes ⟨by omega, by omega, by omega, by rw [size_app, size_out]; omega⟩
  refine ⟨hk, ?_⟩
  rw [bigR_yes hk, bigV_congr _ (fun i => x / 256 ^ (k - (i + 1)) % 256) k (fun i hi => ?_), bigV_back x k k (Nat.le_refl _)]
  · simp
  · unfold readV
    rw [byt_app_right, byt_out _ _ _ hi, hiG_eq]
-- the one way is the other one turned round
theorem turned (x k i : Nat) : loG x (k - 1 - i) = hiG x k i := rfl
theorem index_byt (s : ByteArray) (i : Int) (m : Nat) (he : i = m) (hm : m < s.size) (w : World) :
    (Instr.index 9 (.string s) (.int .i64 i)).run Tryz.prog w = .ok (.int .u8 (byt s m : Nat)) w := by
  subst he
  rw [run_index_string w 9 s .i64 _ Tryz.underlying9, dif_pos ⟨by omega, by omega⟩, byt_eq s m hm]
  simp
end Go.Proofs.YtglfjlbhjaemgaaGreatDoor
