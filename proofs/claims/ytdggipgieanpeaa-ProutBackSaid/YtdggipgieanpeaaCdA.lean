/- Blocks: what a text asks, and the text that asks for something, as plain functions. -/
import Derived.Test.YtdggipgieanpeaaSets
namespace Go.Proofs.Ytdggipgieanpeaa
open Go.RowKit
theorem bytes_of {a b : ByteArray} (hs : a.size = b.size) (h : ∀ i, i < a.size → byt a i = byt b i) : a = b := by
  apply bytes_ext
  refine List.ext_getElem (by simpa using hs) fun i h1 h2 => ?_
  have hi : i < a.size := by simpa using h1
  have := h i hi
  unfold byt at this
  rw [List.getD_eq_getElem?_getD, List.getD_eq_getElem?_getD, List.getElem?_eq_getElem h1, List.getElem?_eq_getElem h2] at this
  exact UInt8.toNat_inj.1 this
theorem byt_put (x n i : Nat) (h1 : 1 ≤ n) (h8 : n ≤ 8) (hi : i < n) : byt (putHi x n) i = x / 256 ^ (n - (i + 1)) % 256 := by
  rw [putHi_yes h1 h8, byt_out _ _ _ hi, hiG_eq]
theorem putHi_size (x n : Nat) (h1 : 1 ≤ n) (h8 : n ≤ 8) : (putHi x n).size = n := by rw [putHi_yes h1 h8, size_out]
/-- A number in a text. -/
def big (s : ByteArray) (a n : Nat) : Nat := bigV (readV s a) n
theorem big_lt (s : ByteArray) (a n : Nat) : big s a n < 256 ^ n := bigV_lt _ (readV_lt s a) n
theorem big_one (s : ByteArray) (a : Nat) : big s a 1 = byt s a := by unfold big bigV bigV readV; rw [Nat.add_zero]; omega
theorem big_same {s t : ByteArray} {a n : Nat} (h : ∀ i, a ≤ i → i < a + n → byt s i = byt t i) : big s a n = big t a n := by
  unfold big
  exact bigV_congr _ _ n fun i hi => h (a + i) (by omega) (by omega)
/-- A text with other bytes in the place of its own. -/
def setB (s : ByteArray) (k : Nat) (m : ByteArray) : ByteArray := s.extract 0 k ++ m ++ s.extract (k + m.size) s.size
theorem byt_of_list {s : ByteArray} {i : Nat} : byt s i = (s.data.toList.getD i 0).toNat := rfl
theorem setB_list (s m : ByteArray) (k : Nat) : (setB s k m).data.toList = s.data.toList.take k ++ m.data.toList ++ s.data.toList.drop (k + m.size) := by
  have ls : s.data.toList.length = s.size := by simp
  unfold setB
  simp only [ByteArray.data_append, Array.toList_append, ext_list]
  rw [List.drop_zero, ← ls, List.take_length]
theorem setB_size {s m : ByteArray} {k : Nat} (hm : k + m.size ≤ s.size) : (setB s k m).size = s.size := (setOf_put s m k hm).size
theorem byt_setB {s m : ByteArray} {k : Nat} (hm : k + m.size ≤ s.size) (i : Nat) : byt (setB s k m) i = if k ≤ i ∧ i < k + m.size then byt m (i - k) else byt s i := by
  have ls : s.data.toList.length = s.size := by simp
  have lm : m.data.toList.length = m.size := by simp
  have lk : (s.data.toList.take k).length = k := by simp; omega
  have lkm : (s.data.toList.take k ++ m.data.toList).length = k + m.size := by simp; omega
  unfold byt
  rw [setB_list]
  simp only [List.getD_eq_getElem?_getD]
  by_cases h1 : i < k
  · rw [if_neg (by omega), List.append_assoc, List.getElem?_append_left (by omega), List.getElem?_take_of_lt h1]
  · by_cases h2 : i < k + m.size
    · rw [if_pos (by omega), List.getElem?_append_left (by omega), List.getElem?_append_right (by omega), lk]
    · rw [if_neg (by omega), List.getElem?_append_right (by omega), lkm, List.getElem?_drop, show k + m.size + (i - (k + m.size)) = i by omega]
theorem big_setB {s : ByteArray} {k n x : Nat} (h1 : 1 ≤ n) (h8 : n ≤ 8) (hm : k + n ≤ s.size) : big (setB s k (putHi x n)) k n = x % 256 ^ n := by
  have hz := putHi_size x n h1 h8
  unfold big
  rw [bigV_congr _ (fun i => x / 256 ^ (n - (i + 1)) % 256) n (fun i hi => ?_), bigV_back x n n (Nat.le_refl _)]
  · simp
  · unfold readV
    rw [byt_setB (by omega), if_pos (by omega), show k + i - k = i by omega, byt_put x n i h1 h8 hi]
theorem byt_far {s : ByteArray} {k n x i : Nat} (h1 : 1 ≤ n) (h8 : n ≤ 8) (hm : k + n ≤ s.size) (hi : i < k ∨ k + n ≤ i) : byt (setB s k (putHi x n)) i = byt s i := by
  have hz := putHi_size x n h1 h8
  rw [byt_setB (by omega), if_neg (by omega)]
theorem big_far {s : ByteArray} {k n x a c : Nat} (h1 : 1 ≤ n) (h8 : n ≤ 8) (hm : k + n ≤ s.size) (hi : a + c ≤ k ∨ k + n ≤ a) : big (setB s k (putHi x n)) a c = big s a c :=
  big_same fun i _ _ => byt_far h1 h8 hm (by omega)
theorem byt_at {s : ByteArray} {k x : Nat} (hm : k + 1 ≤ s.size) : byt (setB s k (putHi x 1)) k = x % 256 := by
  rw [← big_one]
  exact (big_setB (n := 1) (by decide) (by decide) hm).trans (by simp)
/-- n bytes at k of a text are those of a number. -/
def put (s : ByteArray) (k x n : Nat) : ByteArray := setB s k (putHi x n)
theorem put_size' {s : ByteArray} {k n x : Nat} (h1 : 1 ≤ n) (h8 : n ≤ 8) (hm : k + n ≤ s.size) : (put s k x n).size = s.size := setB_size (by rw [putHi_size x n h1 h8]; exact hm)
/-- What a block asks. -/
structure Ak where
  op : Int
  lba : Int
  blk : Int
  fu : Bool
  page : Int
  want : Int
  ty : Int
def zA : Ak := ⟨0, 0, 0, false, 0, 0, 0⟩
/-- How many bytes a block has whose first byte is b. -/
def lenB (b : Nat) : Nat :=
  if b = 0 ∨ b = 18 then 6 else if b = 37 ∨ b = 40 ∨ b = 42 ∨ b = 53 ∨ b = 66 ∨ b = 94 ∨ b = 95 then 10 else if b = 160 then 12 else if b = 136 ∨ b = 137 ∨ b = 138 ∨ b = 147 then 16 else 0
def lenS (s : ByteArray) : Nat := if s.size = 0 then 0 else lenB (byt s 0)
def typN (n : Int) : Int := if n = 1 then 1 else if n = 3 then 2 else if 5 ≤ n ∧ n ≤ 8 then n - 2 else 0
def numN (t : Int) : Int := if t = 1 then 1 else if t = 2 then 3 else if 3 ≤ t ∧ t ≤ 6 then t + 2 else 0
/-- A number as the document reads it. -/
def numS (s : ByteArray) (a n : Nat) : Nat := if 1099511627776 < big s a n then 1099511627776 else big s a n
theorem numS_small {s : ByteArray} {a n : Nat} (h : n ≤ 4) : numS s a n = big s a n := by
  unfold numS
  have h1 := big_lt s a n
  have h2 : 256 ^ n ≤ 256 ^ 4 := Nat.pow_le_pow_right (by decide) h
  rw [if_neg (by omega)]
/-- What the rows of the table ask, of a text that is long enough. -/
def ask (s : ByteArray) : Option Ak :=
  let b := byt s 0
  if b = 0 ∨ b = 37 ∨ b = 53 then some { zA with op := b }
  else if b = 18 then some { zA with op := b, page := if byt s 1 % 2 = 1 then ((256 + byt s 2 : Nat) : Int) else 0, want := big s 3 2 }
  else if b = 40 ∨ b = 42 then some { zA with op := b, lba := big s 2 4, blk := big s 7 2, fu := b == 42 && byt s 1 / 8 % 2 == 1 }
  else if b = 136 ∨ b = 138 ∨ b = 147 then
    if b = 147 ∧ byt s 1 % 2 = 0 then none
    else if 2147483648 ≤ big s 2 8 ∨ 2147483648 ≤ big s 10 4 then none
    else some { zA with op := b, lba := big s 2 8, blk := big s 10 4, fu := b == 138 && byt s 1 / 8 % 2 == 1 }
  else if b = 137 then if 2147483648 ≤ big s 2 8 then none else some { zA with op := b, lba := big s 2 8, blk := byt s 13 }
  else if b = 66 then some { zA with op := b, want := big s 7 2 }
  else if b = 160 then some { zA with op := b, want := big s 6 4 }
  else if b = 94 then if 1 < byt s 1 % 32 then none else some { zA with op := (256 * b + byt s 1 % 32 : Nat), want := big s 7 2 }
  else if big s 5 4 ≠ 24 ∨ 15 < byt s 2 ∨ 6 < byt s 1 % 32 ∨ byt s 1 % 32 = 5 then none
  else if byt s 1 % 32 = 1 ∨ byt s 1 % 32 = 2 ∨ byt s 1 % 32 = 4 then
    if typN (byt s 2) = 0 then none else some { zA with op := (256 * b + byt s 1 % 32 : Nat), want := 24, ty := typN (byt s 2) }
  else some { zA with op := (256 * b + byt s 1 % 32 : Nat), want := 24 }
def isB (s : ByteArray) : Bool := decide (lenS s ≠ 0 ∧ s.size = lenS s ∧ byt s (s.size - 1) = 0)
/-- What a text asks, if it is a block. -/
def parseS (s : ByteArray) : Option Ak := if isB s = true then ask s else none
/-- The first byte of what is asked. -/
def firstA (y : Ak) : Int := if 256 ≤ y.op then y.op / 256 else y.op
def zeroS (b n : Nat) : ByteArray := ⟨(UInt8.ofNat b :: List.replicate n 0).toArray⟩
/-- The block that asks for y. -/
def makeS (y : Ak) : ByteArray :=
  let b := (firstA y).toNat
  let s := zeroS b (lenB b - 1)
  let f := if y.fu = true then 8 else 0
  if b = 18 then put (if 256 ≤ y.page then put (put s 1 1 1) 2 (y.page - 256).toNat 1 else s) 3 y.want.toNat 2
  else if b = 40 ∨ b = 42 then put (put (put s 1 f 1) 2 y.lba.toNat 4) 7 y.blk.toNat 2
  else if b = 136 ∨ b = 138 then put (put (put s 1 f 1) 2 y.lba.toNat 8) 10 y.blk.toNat 4
  else if b = 147 then put (put (put s 1 1 1) 2 y.lba.toNat 8) 10 y.blk.toNat 4
  else if b = 137 then put (put s 2 y.lba.toNat 8) 13 y.blk.toNat 1
  else if b = 66 then put s 7 y.want.toNat 2
  else if b = 160 then put s 6 y.want.toNat 4
  else if b = 94 then put (put s 1 (y.op % 32).toNat 1) 7 y.want.toNat 2
  else if b = 95 then put (put (put s 1 (y.op % 32).toNat 1) 2 (numN y.ty).toNat 1) 5 y.want.toNat 4
  else s
theorem zeroS_size (b n : Nat) : (zeroS b n).size = n + 1 := by
  show (UInt8.ofNat b :: List.replicate n 0).toArray.size = n + 1
  simp
theorem zeroS_zero (b n : Nat) (hb : b < 256) : byt (zeroS b n) 0 = b := by
  unfold byt zeroS
  simp
  omega
theorem zeroS_else (b n i : Nat) (hi : 0 < i) : byt (zeroS b n) i = 0 := by
  unfold byt zeroS
  obtain ⟨k, rfl⟩ : ∃ k, i = k + 1 := ⟨i - 1, by omega⟩
  simp only [List.getD_eq_getElem?_getD, List.getElem?_cons_succ, List.getElem?_replicate]
  split <;> rfl
theorem zeroS_big (b n a c : Nat) (ha : 0 < a) : big (zeroS b n) a c = 0 := by
  have h : ∀ c, bigV (readV (zeroS b n) a) c = 0 := by
    intro c
    induction c with
    | zero => rfl
    | succ c ih => unfold bigV; rw [ih]; unfold readV; rw [zeroS_else _ _ _ (by omega)]
  exact h c
end Go.Proofs.Ytdggipgieanpeaa
