/- Plain facts on numbers made of bytes: the two ways of reading them, and what an or of shifted bytes comes to. Plain facts on the checksum's register: one step, four steps by a table, what bytes make of it, that it goes together with exclusive or, and that no two pairs of bytes do the same to it. -/
namespace Go.Proofs.YtglfjlbhjaemgaaGreatDoor
def bigV (f : Nat → Nat) : Nat → Nat
  | 0 => 0
  | k + 1 => bigV f k * 256 + f k
theorem pow8 (k : Nat) : 2 ^ (8 * k) = 256 ^ k := by rw [Nat.pow_mul]
theorem bigV_lt (f : Nat → Nat) (hf : ∀ i, f i < 256) : ∀ k, bigV f k < 256 ^ k
  | 0 => by simp [bigV]
  | k + 1 => by
    have h := bigV_lt f hf k
    have h2 := hf k
    simp only [bigV, Nat.pow_succ]
    have : (bigV f k + 1) * 256 ≤ 256 ^ k * 256 := Nat.mul_le_mul_right _ h
    omega
theorem pow_le8 (k : Nat) (h : k ≤ 8) : 256 ^ k ≤ 18446744073709551616 := by
  have : 256 ^ k ≤ 256 ^ 8 := Nat.pow_le_pow_right (by omega) h
  exact this
-- code's way, from the left: after k of n rounds
def hiV (f : Nat → Nat) (n k : Nat) : Nat := bigV f k * 256 ^ (n - k)
theorem hiV_zero (f : Nat → Nat) (n : Nat) : hiV f n 0 = 0 := by simp [hiV, bigV]
theorem hiV_full (f : Nat → Nat) (n : Nat) : hiV f n n = bigV f n := by simp [hiV]
theorem hiV_lt (f : Nat → Nat) (hf : ∀ i, f i < 256) (n k : Nat) (hk : k ≤ n) : hiV f n k < 256 ^ n := by
  have h := bigV_lt f hf k
  have e : 256 ^ n = 256 ^ k * 256 ^ (n - k) := by rw [← Nat.pow_add]; congr 1; omega
  rw [e]; exact Nat.mul_lt_mul_of_pos_right h (Nat.pow_pos (by omega))
theorem hiV_or (f : Nat → Nat) (hf : ∀ i, f i < 256) (n k : Nat) (hk : k < n) :
    hiV f n k ||| (f k * 2 ^ (8 * (n - 1 - k))) = hiV f n (k + 1) := by
  have h2 := hf k
  have e : n - k = (n - 1 - k) + 1 := by omega
  have e2 : n - (k + 1) = n - 1 - k := by omega
  unfold hiV
  rw [e, e2, pow8]
  have hlt : f k * 256 ^ (n - 1 - k) < 2 ^ (8 * (n - 1 - k + 1)) := by
    rw [pow8, Nat.pow_succ, Nat.mul_comm]; exact Nat.mul_lt_mul_of_pos_left h2 (Nat.pow_pos (by omega))
  have := Nat.two_pow_add_eq_or_of_lt hlt (bigV f k)
  rw [← pow8 (n - 1 - k + 1), Nat.mul_comm (bigV f k), ← this]
  rw [pow8]
  simp only [bigV]
  rw [Nat.pow_succ, Nat.add_mul]
  refine congrArg (· + _) ?_
  rw [Nat.mul_assoc (bigV f k), Nat.mul_comm (bigV f k), Nat.mul_comm 256]
theorem x32 {a b : Nat} (ha : a < 4294967296) (hb : b < 4294967296) : a ^^^ b < 4294967296 := by
  have h := Nat.xor_lt_two_pow (n := 32) (x := a) (y := b)
  rw [show (2 : Nat) ^ 32 = 4294967296 by decide] at h
  exact h ha hb
theorem xr (a b c : Nat) : a ^^^ b ^^^ c = a ^^^ c ^^^ b := by rw [Nat.xor_assoc, Nat.xor_comm b, ← Nat.xor_assoc]
theorem xcut (a b c : Nat) : a ^^^ c ^^^ (b ^^^ c) = a ^^^ b := by
  rw [← Nat.xor_assoc, xr a c b, Nat.xor_assoc (a ^^^ b), Nat.xor_self, Nat.xor_zero]
def st (x : Nat) : Nat := if x % 2 = 1 then x / 2 ^^^ 2197175160 else x / 2
theorem st_xor (x y : Nat) : st (x ^^^ y) = st x ^^^ st y := by
  have hd : (x ^^^ y) / 2 = x / 2 ^^^ y / 2 := Nat.xor_div_two
  have hm := @Nat.xor_mod_two_eq_one x y
  unfold st
  rw [hd]
  by_cases h1 : x % 2 = 1 <;> by_cases h2 : y % 2 = 1
  · rw [if_neg (fun h => hm.1 h ⟨fun _ => h2, fun _ => h1⟩), if_pos h1, if_pos h2, xcut]
  · rw [if_pos (hm.2 (fun h => h2 (h.1 h1))), if_pos h1, if_neg h2, xr]
  · rw [if_pos (hm.2 (fun h => h1 (h.2 h2))), if_neg h1, if_pos h2, Nat.xor_assoc]
  · rw [if_neg (fun h => hm.1 h ⟨fun a => absurd a h1, fun a => absurd a h2⟩), if_neg h1, if_neg h2]
theorem st_double (x : Nat) : st (2 * x) = x := by unfold st; rw [if_neg (by omega)]; omega
theorem st_lt (x : Nat) (h : x < 4294967296) : st x < 4294967296 := by
  unfold st
  split
  · exact x32 (by omega) (by decide)
  · omega
def st4 (x : Nat) : Nat := st (st (st (st x)))
theorem st4_xor (x y : Nat) : st4 (x ^^^ y) = st4 x ^^^ st4 y := by simp only [st4, st_xor]
theorem st4_sixteen (x : Nat) : st4 (16 * x) = x := by
  unfold st4
  rw [show 16 * x = 2 * (2 * (2 * (2 * x))) by omega]
  simp only [st_double]
theorem st4_lt (x : Nat) (h : x < 4294967296) : st4 x < 4294967296 := st_lt _ (st_lt _ (st_lt _ (st_lt _ h)))
theorem st4_table (x : Nat) : st4 x = x / 16 ^^^ st4 (x % 16) := by
  have h := Nat.two_pow_add_eq_or_of_lt (i := 4) (b := x % 16) (by omega) (x / 16)
  have h2 : x = 16 * (x / 16) ^^^ x % 16 := by
    have h3 : 16 * (x / 16) ^^^ x % 16 = 16 * (x / 16) ||| x % 16 := by
      apply Nat.eq_of_testBit_eq
      intro i
      rw [Nat.testBit_xor, Nat.testBit_or, show (16 : Nat) = 2 ^ 4 from rfl, Nat.testBit_two_pow_mul, Nat.testBit_mod_two_pow]
      by_cases hi : i < 4
      · have : ¬ 4 ≤ i := by omega
        simp [hi, this]
      · simp [hi]
    rw [h3]
    have : (2 : Nat) ^ 4 = 16 := rfl
    rw [this] at h
    omega
  conv => lhs; rw [h2, st4_xor, st4_sixteen]
def st8 (x : Nat) : Nat := st4 (st4 x)
theorem st8_lt (x : Nat) (h : x < 4294967296) : st8 x < 4294967296 := st4_lt _ (st4_lt _ h)
-- what bytes make of the register
def feed (l : List UInt8) (w : Nat) : Nat := l.foldl (fun w b => st8 (w ^^^ b.toNat)) w
theorem byte_lt (b : UInt8) : b.toNat < 4294967296 := Nat.lt_of_lt_of_le (UInt8.toNat_lt b) (by decide)
theorem feed_append (a b : List UInt8) (w : Nat) : feed (a ++ b) w = feed b (feed a w) := List.foldl_append
theorem feed_cons (c : UInt8) (l : List UInt8) (w : Nat) : feed (c :: l) w = feed l (st8 (w ^^^ c.toNat)) := rfl
theorem feed_nil (w : Nat) : feed [] w = w := rfl
theorem feed_lt (l : List UInt8) (w : Nat) (h : w < 4294967296) : feed l w < 4294967296 := by
  induction l generalizing w with
  | nil => exact h
  | cons c l ih => exact ih _ (st8_lt _ (x32 h (byte_lt c)))
def ones : Nat := 4294967295
def inv (x : Nat) : Nat := ones ^^^ x
theorem inv_eq (x : Nat) : 4294967295 ^^^ x = inv x := by unfold inv ones; rfl
theorem inv_lt (x : Nat) (h : x < 4294967296) : inv x < 4294967296 := x32 (show ones < 4294967296 by decide) h
theorem x3 (k : Nat) : k ^^^ k ^^^ k = k := by rw [Nat.xor_self, Nat.zero_xor]
def moreV (w : Nat) (l : List UInt8) : Nat := inv (feed l (inv w))
theorem moreV_lt (w : Nat) (l : List UInt8) (h : w < 4294967296) : moreV w l < 4294967296 := inv_lt _ (feed_lt _ _ (inv_lt _ h))
theorem take_snoc (l : List UInt8) (k : Nat) (h : k < l.length) : l.take (k + 1) = l.take k ++ [l.getD k 0] := by
  rw [List.take_succ_eq_append_getElem h]; congr 2; rw [List.getD_eq_getElem?_getD, List.getElem?_eq_getElem h]; rfl
end Go.Proofs.YtglfjlbhjaemgaaGreatDoor
