/- Plain facts on the checksum's register: one step, four steps by a table, what bytes make of it, that it goes together with exclusive or, and that no two pairs of bytes do the same to it. -/
namespace Go.Proofs.YthedonkjnfeajaaDoor
theorem x32 {a b : Nat} (ha : a < 4294967296) (hb : b < 4294967296) : a ^^^ b < 4294967296 := by
  have h := Nat.xor_lt_two_pow (n := 32) (x := a) (y := b)
  rw [show (2 : Nat) ^ 32 = 4294967296 by decide] at h
  exact h ha hb
theorem x8 {a b : Nat} (ha : a < 256) (hb : b < 256) : a ^^^ b < 256 := by
  have h := Nat.xor_lt_two_pow (n := 8) (x := a) (y := b)
  rw [show (2 : Nat) ^ 8 = 256 by decide] at h
  exact h ha hb
theorem xr (a b c : Nat) : a ^^^ b ^^^ c = a ^^^ c ^^^ b := by rw [Nat.xor_assoc, Nat.xor_comm b, ← Nat.xor_assoc]
theorem xcut (a b c : Nat) : a ^^^ c ^^^ (b ^^^ c) = a ^^^ b := by
  rw [← Nat.xor_assoc, xr a c b, Nat.xor_assoc (a ^^^ b), Nat.xor_self, Nat.xor_zero]
def st (x : Nat) : Nat := if x % 2 = 1 then x / 2 ^^^ 2197175160 else x / 2
theorem st_xor (x y : Nat) : st (x ^^^ y) = st x ^^^ st y := by
  have hd : (x ^^^ y) / 2 = x / 2 ^^^ y / 2 := Nat.xor_div_two
  have hm := @Nat.xor_mod_two_eq_one x y
  unfold st
  rw [hd]
  by_cases h1 : x % 2 = 1 <;> by_cases h2 : y % 2 = 1
  · rw [if_neg (fun h => hm.1 h ⟨fun _ => h2, fun _ => h1⟩), if_pos h1, if_pos h2, xcut]
  · rw [if_pos (hm.2 (fun h => h2 (h.1 h1))), if_pos h1, if_neg h2, xr]
  · rw [if_pos (hm.2 (fun h => h1 (h.2 h2))), if_neg h1, if_pos h2, Nat.xor_assoc]
  · rw [if_neg (fun h => hm.1 h ⟨fun a => absurd a h1, fun a => absurd a h2⟩), if_neg h1, if_neg h2]
theorem st_double (x : Nat) : st (2 * x) = x := by unfold st; rw [if_neg (by omega)]; omega
theorem st_lt (x : Nat) (h : x < 4294967296) : st x < 4294967296 := by
  unfold st
  split
  · exact x32 (by omega) (by decide)
  · omega
theorem st_zero : st 0 = 0 := by decide
def st4 (x : Nat) : Nat := st (st (st (st x)))
theorem st4_xor (x y : Nat) : st4 (x ^^^ y) = st4 x ^^^ st4 y := by simp only [st4, st_xor]
theorem st4_sixteen (x : Nat) : st4 (16 * x) = x := by
  unfold st4
  rw [show 16 * x = 2 * (2 * (2 * (2 * x))) by omega]
  simp only [st_double]
theorem st4_lt (x : Nat) (h : x < 4294967296) : st4 x < 4294967296 := st_lt _ (st_lt _ (st_lt _ (st_lt _ h)))
theorem st4_table (x : Nat) : st4 x = x / 16 ^^^ st4 (x % 16) := by
  have h := Nat.two_pow_add_eq_or_of_lt (i := 4) (b := x % 16) (by omega) (x / 16)
  have h2 : x = 16 * (x / 16) ^^^ x % 16 := by
    have h3 : 16 * (x / 16) ^^^ x % 16 = 16 * (x / 16) ||| x % 16 := by
      apply Nat.eq_of_testBit_eq
      intro i
      rw [Nat.testBit_xor, Nat.testBit_or, show (16 : Nat) = 2 ^ 4 from rfl, Nat.testBit_two_pow_mul, Nat.testBit_mod_two_pow]
      by_cases hi : i < 4
      · have : ¬ 4 ≤ i := by omega
        simp [hi, this]
      · simp [hi]
    rw [h3]
    have : (2 : Nat) ^ 4 = 16 := rfl
    rw [this] at h
    omega
  conv => lhs; rw [h2, st4_xor, st4_sixteen]
def st8 (x : Nat) : Nat := st4 (st4 x)
theorem st8_xor (x y : Nat) : st8 (x ^^^ y) = st8 x ^^^ st8 y := by simp only [st8, st4_xor]
theorem st8_lt (x : Nat) (h : x < 4294967296) : st8 x < 4294967296 := st4_lt _ (st4_lt _ h)
theorem st8_byte (x : Nat) : st8 (256 * x) = x := by
  unfold st8; rw [show 256 * x = 16 * (16 * x) by omega, st4_sixteen, st4_sixteen]
-- what is left of a step's answer is what went in
theorem st_inj0 (x : Nat) (hx : x < 4294967296) (h : st x = 0) : x = 0 := by
  unfold st at h
  split at h
  · have h2 : x / 2 < 2147483648 := by omega
    have h3 : x / 2 = 2197175160 := by
      have := congrArg (· ^^^ 2197175160) h
      simpa [Nat.xor_assoc] using this
    omega
  · omega
theorem st8_inj0 (x : Nat) (hx : x < 4294967296) (h : st8 x = 0) : x = 0 := by
  have a := fun y hy => st_inj0 y hy
  unfold st8 st4 at h
  have l1 := st_lt x hx
  have l2 := st_lt _ l1
  have l3 := st_lt _ l2
  have l4 := st_lt _ l3
  have l5 := st_lt _ l4
  have l6 := st_lt _ l5
  have l7 := st_lt _ l6
  exact a _ hx (a _ l1 (a _ l2 (a _ l3 (a _ l4 (a _ l5 (a _ l6 (a _ l7 h)))))))
theorem xor_zero_eq {x y : Nat} (h : x ^^^ y = 0) : x = y := by
  have := congrArg (· ^^^ y) h
  simpa [Nat.xor_assoc] using this
theorem st8_inj (x y : Nat) (hx : x < 4294967296) (hy : y < 4294967296) (h : st8 x = st8 y) : x = y := by
  refine xor_zero_eq (st8_inj0 _ (x32 hx hy) ?_)
  rw [st8_xor, h, Nat.xor_self]
def tailB : Nat → Bool
  | 0 => true
  | n + 1 => (decide (n = 0) || decide (256 ≤ st8 n)) && tailB n
theorem tail256 : tailB 256 = true := by decide +kernel
theorem tail_of : ∀ n, tailB n = true → ∀ x, x < n → st8 x < 256 → x = 0
  | 0, _, x, hx, _ => by omega
  | n + 1, h, x, hx, h2 => by
    simp only [tailB, Bool.and_eq_true, Bool.or_eq_true, decide_eq_true_eq] at h
    rcases Nat.lt_succ_iff_lt_or_eq.1 hx with hl | rfl
    · exact tail_of n h.2 x hl h2
    · omega
theorem byte_tail (x : Nat) (hx : x < 256) (h : st8 x < 256) : x = 0 := tail_of 256 tail256 x hx h
-- what bytes make of the register
def feed (l : List UInt8) (w : Nat) : Nat := l.foldl (fun w b => st8 (w ^^^ b.toNat)) w
theorem byte_lt (b : UInt8) : b.toNat < 4294967296 := Nat.lt_of_lt_of_le (UInt8.toNat_lt b) (by decide)
theorem feed_append (a b : List UInt8) (w : Nat) : feed (a ++ b) w = feed b (feed a w) := List.foldl_append
theorem feed_cons (c : UInt8) (l : List UInt8) (w : Nat) : feed (c :: l) w = feed l (st8 (w ^^^ c.toNat)) := rfl
theorem feed_nil (w : Nat) : feed [] w = w := rfl
theorem feed_lt (l : List UInt8) (w : Nat) (h : w < 4294967296) : feed l w < 4294967296 := by
  induction l generalizing w with
  | nil => exact h
  | cons c l ih => exact ih _ (st8_lt _ (x32 h (byte_lt c)))
theorem feed_inj (l : List UInt8) (x y : Nat) (hx : x < 4294967296) (hy : y < 4294967296) (h : feed l x = feed l y) : x = y := by
  induction l generalizing x y with
  | nil => exact h
  | cons c l ih =>
    have h1 := x32 hx (byte_lt c)
    have h2 := x32 hy (byte_lt c)
    have := st8_inj _ _ h1 h2 (ih _ _ (st8_lt _ h1) (st8_lt _ h2) h)
    have := congrArg (· ^^^ c.toNat) this
    simpa [Nat.xor_assoc] using this
def ones : Nat := 4294967295
def inv (x : Nat) : Nat := ones ^^^ x
theorem inv_def (x : Nat) : inv x = ones ^^^ x := by unfold inv; rfl
theorem inv_eq (x : Nat) : 4294967295 ^^^ x = inv x := by unfold inv ones; rfl
theorem inv_lt (x : Nat) (h : x < 4294967296) : inv x < 4294967296 := x32 (show ones < 4294967296 by decide) h
theorem xx (k x : Nat) : k ^^^ (k ^^^ x) = x := by rw [← Nat.xor_assoc, Nat.xor_self, Nat.zero_xor]
theorem xxx (k a b c : Nat) : (k ^^^ a) ^^^ (k ^^^ b) ^^^ (k ^^^ c) = k ^^^ (a ^^^ b ^^^ c) := by
  rw [Nat.xor_assoc k a, ← Nat.xor_assoc a, Nat.xor_comm a k, Nat.xor_assoc k a, xx, Nat.xor_comm k c, ← Nat.xor_assoc, Nat.xor_comm]
theorem x3 (k : Nat) : k ^^^ k ^^^ k = k := by rw [Nat.xor_self, Nat.zero_xor]
theorem inv_inv (x : Nat) : inv (inv x) = x := by rw [inv_def, inv_def, xx]
theorem inv_inj {x y : Nat} (h : inv x = inv y) : x = y := by rw [← inv_inv x, h, inv_inv]
def moreV (w : Nat) (l : List UInt8) : Nat := inv (feed l (inv w))
theorem moreV_lt (w : Nat) (l : List UInt8) (h : w < 4294967296) : moreV w l < 4294967296 := inv_lt _ (feed_lt _ _ (inv_lt _ h))
theorem moreV_append (w : Nat) (a b : List UInt8) : moreV w (a ++ b) = moreV (moreV w a) b := by
  unfold moreV; rw [inv_inv, feed_append]
theorem moreV_nil (w : Nat) : moreV w [] = w := inv_inv w
theorem turn_one (a d : List UInt8) (b c : UInt8) (w : Nat) (hw : w < 4294967296) : moreV w (a ++ b :: d) = moreV w (a ++ c :: d) ↔ b = c := by
  refine ⟨fun h => ?_, fun h => by rw [h]⟩
  have h1 := feed_lt a _ (inv_lt _ hw)
  have h2 := inv_inj h
  rw [feed_append, feed_append, feed_cons, feed_cons] at h2
  generalize feed a (inv w) = z at h1 h2
  have hb := x32 h1 (byte_lt b)
  have hc := x32 h1 (byte_lt c)
  have h3 := st8_inj _ _ hb hc (feed_inj d _ _ (st8_lt _ hb) (st8_lt _ hc) h2)
  have h4 := congrArg (z ^^^ ·) h3
  simp only [← Nat.xor_assoc, Nat.xor_self, Nat.zero_xor] at h4
  exact UInt8.toNat_inj.1 h4
theorem xor_byte_lt (b c : UInt8) : b.toNat ^^^ c.toNat < 256 := x8 (UInt8.toNat_lt b) (UInt8.toNat_lt c)
theorem swap4 (u p q r s : Nat) (h : u ^^^ p ^^^ r = u ^^^ q ^^^ s) : p ^^^ q = r ^^^ s := by
  have h2 := congrArg (u ^^^ ·) h
  simp only [← Nat.xor_assoc, Nat.xor_self, Nat.zero_xor] at h2
  have h3 := congrArg (· ^^^ (q ^^^ r)) h2
  have h3 : p ^^^ r ^^^ (q ^^^ r) = q ^^^ s ^^^ (q ^^^ r) := h3
  rw [show p ^^^ r ^^^ (q ^^^ r) = p ^^^ q from xcut p q r, show q ^^^ s ^^^ (q ^^^ r) = s ^^^ r by rw [Nat.xor_comm q s, Nat.xor_comm q r, xcut]] at h3
  rw [h3, Nat.xor_comm]
theorem turn_two (a d : List UInt8) (b b' c c' : UInt8) (w : Nat) (hw : w < 4294967296) : moreV w (a ++ b :: b' :: d) = moreV w (a ++ c :: c' :: d) ↔ b = c ∧ b' = c' := by
  refine ⟨fun h => ?_, fun h => by rw [h.1, h.2]⟩
  have h1 := feed_lt a _ (inv_lt _ hw)
  have h2 := inv_inj h
  rw [feed_append, feed_append, feed_cons, feed_cons, feed_cons, feed_cons] at h2
  generalize feed a (inv w) = z at h1 h2
  have hb := st8_lt _ (x32 h1 (byte_lt b))
  have hc := st8_lt _ (x32 h1 (byte_lt c))
  have hb2 := x32 hb (byte_lt b')
  have hc2 := x32 hc (byte_lt c')
  have h3 := st8_inj _ _ hb2 hc2 (feed_inj d _ _ (st8_lt _ hb2) (st8_lt _ hc2) h2)
  rw [st8_xor, st8_xor] at h3
  have h4 : st8 (b.toNat ^^^ c.toNat) = b'.toNat ^^^ c'.toNat := by
    rw [st8_xor]
    generalize st8 z = u at h3
    generalize st8 b.toNat = p at h3 ⊢
    generalize st8 c.toNat = q at h3 ⊢
    generalize b'.toNat = r at h3 ⊢
    generalize c'.toNat = s at h3 ⊢
    exact swap4 u p q r s h3
  have h5 := byte_tail _ (xor_byte_lt b c) (by rw [h4]; exact xor_byte_lt b' c')
  have e1 := xor_zero_eq h5
  rw [h5] at h4
  have e2 := xor_zero_eq (h4.symm.trans (by decide))
  exact ⟨UInt8.toNat_inj.1 e1, UInt8.toNat_inj.1 e2⟩
theorem xor3 (a b c x y z : Nat) : (a ^^^ x) ^^^ (b ^^^ y) ^^^ (c ^^^ z) = (a ^^^ b ^^^ c) ^^^ (x ^^^ y ^^^ z) := by
  apply Nat.eq_of_testBit_eq
  intro i
  simp only [Nat.testBit_xor]
  cases a.testBit i <;> cases b.testBit i <;> cases c.testBit i <;> cases x.testBit i <;> cases y.testBit i <;> cases z.testBit i <;> rfl
def xorL (a b c : List UInt8) (n : Nat) : List UInt8 := (List.range n).map fun i => a.getD i 0 ^^^ b.getD i 0 ^^^ c.getD i 0
theorem xorL_succ (a b c : List UInt8) (n : Nat) : xorL a b c (n + 1) = xorL a b c n ++ [a.getD n 0 ^^^ b.getD n 0 ^^^ c.getD n 0] := by simp [xorL, List.range_succ]
theorem take_snoc (l : List UInt8) (k : Nat) (h : k < l.length) : l.take (k + 1) = l.take k ++ [l.getD k 0] := by
  rw [List.take_succ_eq_append_getElem h]; congr 2; rw [List.getD_eq_getElem?_getD, List.getElem?_eq_getElem h]; rfl
theorem feed_xor (a b c : List UInt8) (x y z : Nat) : ∀ n, n ≤ a.length → n ≤ b.length → n ≤ c.length →
    feed (xorL a b c n) (x ^^^ y ^^^ z) = feed (a.take n) x ^^^ feed (b.take n) y ^^^ feed (c.take n) z
  | 0, _, _, _ => by simp [xorL, feed]
  | n + 1, ha, hb, hc => by
    have ih := feed_xor a b c x y z n (by omega) (by omega) (by omega)
    rw [xorL_succ, take_snoc a n (by omega), take_snoc b n (by omega), take_snoc c n (by omega)]
    simp only [feed_append, feed_cons, feed_nil]
    rw [ih]
    simp only [UInt8.toNat_xor, st8_xor]
    rw [← xor3]
theorem sum_xor (a b c : List UInt8) (n : Nat) (ha : n ≤ a.length) (hb : n ≤ b.length) (hc : n ≤ c.length) :
    moreV 0 (xorL a b c n) = moreV 0 (a.take n) ^^^ moreV 0 (b.take n) ^^^ moreV 0 (c.take n) := by
  have h := feed_xor a b c (inv 0) (inv 0) (inv 0) n ha hb hc
  rw [x3] at h
  unfold moreV
  rw [h]
  exact (xxx _ _ _ _).symm
end Go.Proofs.YthedonkjnfeajaaDoor
