/- What is told of keys and of the holder, byte by byte. -/
import Derived.Test.YtdggipgieanpeaaDoorPrI
namespace Go.Proofs.YtdggipgieanpeaaDoor
open Go.RowKit
def nuI (t : Int) : Nat := [0, 1, 3, 5, 6, 7, 8].getD t.toNat 0
def keyO (ho : ByteArray) (l : List Rk) : Nat := if ho.size = 0 then 0 else ((l.find? fun x => decide (x.h.toList = ho.toList)).map (·.k)).getD 0
/-- The holder, as it is told. -/
def holdS (g : Nat) (ty : Int) (key : Nat) : ByteArray :=
  if 1 ≤ ty ∧ ty ≤ 6 then putHi g (4 : Nat) ++ putHi 16 (4 : Nat) ++ (putHi key (8 : Nat) ++ ⟨#[0, 0, 0, 0, 0, UInt8.ofNat (nuI ty), 0, 0]⟩) else putHi g (4 : Nat) ++ putHi 0 (4 : Nat)
theorem big_left {a b : ByteArray} {k n : Nat} (h : k + n ≤ a.size) : big (a ++ b) k n = big a k n :=
  big_same fun i _ hi => byt_app_left _ _ _ (by omega)
theorem big_right {a b : ByteArray} {m n : Nat} (hm : a.size = m) (k : Nat) : big (a ++ b) (m + k) n = big b k n := by
  subst hm
  unfold big
  refine bigV_congr _ _ n fun i hi => ?_
  unfold readV
  rw [Nat.add_assoc]
  exact byt_app_right a b (k + i)
theorem big_p4 {x : Nat} (h : x < 4294967296) : big (putHi x ((4 : Nat) : Int)) 0 4 = x := by
  rw [big_putHi18 x 4 (by decide) (by decide)]
  exact Nat.mod_eq_of_lt (by simpa using h)
theorem big_p8 {x : Nat} (h : x < 18446744073709551616) : big (putHi x ((8 : Nat) : Int)) 0 8 = x := by
  rw [big_putHi18 x 8 (by decide) (by decide)]
  exact Nat.mod_eq_of_lt (by simpa using h)
theorem two4 (g n : Nat) : (putHi g ((4 : Nat) : Int) ++ putHi n ((4 : Nat) : Int)).size = 8 := by rw [ByteArray.size_append, put4, put4]
theorem head_nums {g n : Nat} (hg : g < 4294967296) (hn : n < 4294967296) (t : ByteArray) : big (putHi g ((4 : Nat) : Int) ++ putHi n ((4 : Nat) : Int) ++ t) 0 4 = g ∧ big (putHi g ((4 : Nat) : Int) ++ putHi n ((4 : Nat) : Int) ++ t) 4 4 = n := by
  constructor
  · rw [big_left (by rw [two4]; decide), big_left (by rw [put4]; decide), big_p4 hg]
  · rw [big_left (by rw [two4]; decide)]
    exact (big_right (put4 g) 0).trans (big_p4 hn)
theorem keys_nums {g : Nat} (hg : g < 4294967296) {l : List Rk} (hl : l.length ≤ 16) (hk : ∀ x ∈ l, x.Wf) : (keysS g l).size = 8 + 8 * l.length ∧ big (keysS g l) 0 4 = g ∧ big (keysS g l) 4 4 = 8 * l.length ∧ ∀ (k : Nat) (x : Rk), l[k]? = some x → big (keysS g l) (8 + 8 * k) 8 = x.k := by
  have e : l.take 16 = l := List.take_of_length_le hl
  have hz := keysS_size g l
  rw [e] at hz
  obtain ⟨h1, h2⟩ := head_nums (n := 8 * l.length) hg (by omega) (keyL l)
  have hs : keysS g l = putHi g ((4 : Nat) : Int) ++ putHi (8 * l.length) ((4 : Nat) : Int) ++ keyL l := by unfold keysS; rw [e]
  refine ⟨hz, by rw [hs]; exact h1, by rw [hs]; exact h2, fun k x hx => ?_⟩
  rw [hs, big_right (two4 _ _)]
  have hkl := (List.getElem?_eq_some_iff.1 hx).1
  have key : ∀ m, k < m → m ≤ l.length → big (keyL (l.take m)) (8 * k) 8 = x.k := by
    intro m
    induction m with
    | zero => intro h; omega
    | succ m ih =>
      intro h1 h2
      have hy := List.getElem?_eq_getElem (show m < l.length by omega)
      rw [keyL_step hy]
      by_cases h : k < m
      · rw [big_left (by rw [keyL_size l m (by omega)]; omega)]
        exact ih h (by omega)
      · obtain rfl : k = m := by omega
        obtain rfl : l[k] = x := Option.some.inj (hy.symm.trans hx)
        have := big_right (b := putHi (l[k].k) ((8 : Nat) : Int)) (n := 8) (keyL_size l k (by omega)) 0
        rw [Nat.add_zero] at this
        rw [this]
        exact big_p8 (hk _ (List.getElem_mem hkl)).k
  have := key l.length hkl (Nat.le_refl _)
  rwa [List.take_length] at this
theorem hold_yes {g : Nat} (hg : g < 4294967296) {ty : Int} (h : 1 ≤ ty ∧ ty ≤ 6) (key : Nat) : (holdS g ty key).size = 24 ∧ big (holdS g ty key) 0 4 = g ∧ big (holdS g ty key) 4 4 = 16 ∧ byt (holdS g ty key) 21 = nuI ty := by
  unfold holdS
  rw [if_pos h]
  obtain ⟨h1, h2⟩ := head_nums (n := 16) hg (by decide) (putHi key ((8 : Nat) : Int) ++ ⟨#[0, 0, 0, 0, 0, UInt8.ofNat (nuI ty), 0, 0]⟩)
  refine ⟨by rw [ByteArray.size_append, two4, ByteArray.size_append, put8]; rfl, h1, h2, ?_⟩
  have e := byt_app_right (putHi g ((4 : Nat) : Int) ++ putHi 16 ((4 : Nat) : Int)) (putHi key ((8 : Nat) : Int) ++ ⟨#[0, 0, 0, 0, 0, UInt8.ofNat (nuI ty), 0, 0]⟩) 13
  rw [two4] at e
  refine e.trans ?_
  have e2 := byt_app_right (putHi key ((8 : Nat) : Int)) ⟨#[0, 0, 0, 0, 0, UInt8.ofNat (nuI ty), 0, 0]⟩ 5
  rw [put8] at e2
  refine e2.trans ?_
  have ht : ty = 1 ∨ ty = 2 ∨ ty = 3 ∨ ty = 4 ∨ ty = 5 ∨ ty = 6 := by omega
  rcases ht with rfl | rfl | rfl | rfl | rfl | rfl <;> rfl
theorem hold_no {g : Nat} (hg : g < 4294967296) {ty : Int} (h : ¬ (1 ≤ ty ∧ ty ≤ 6)) (key : Nat) : (holdS g ty key).size = 8 ∧ big (holdS g ty key) 0 4 = g ∧ big (holdS g ty key) 4 4 = 0 := by
  unfold holdS
  rw [if_neg h]
  refine ⟨two4 _ _, ?_, ?_⟩
  · rw [big_left (by rw [put4]; decide), big_p4 hg]
  · exact (big_right (put4 g) 0).trans (big_p4 (by decide))
/-- What the code's Holder, and cdb's Number, must come to. -/
structure Code18r (T : World → Prop) : Prop where
  holder : ∀ (g : Nat) (ty : Int) (ho : ByteArray) (A : Option Addr) (c : Nat) (l : List Rk) w, T w → g < 4294967296 → In64 ty → ho.size ≤ 1000 → Rks w A l → l.length ≤ 200 → Calls Tryd.prog 7 #[.int .u32 (g : Int), .agg #[.int .i64 ty, .string ho], .slice A l.length c] w fun e w' => e = .returned (.string (holdS g ty (keyO ho l))) ∧ Below w.heap.size w w'
  number : ∀ (ty : Int) w, T w → 1 ≤ ty → ty ≤ 6 → Calls Tryd.prog 9 #[.int .i64 ty] w fun e w' => e = .returned (.int .i64 (nuI ty : Nat)) ∧ Below w.heap.size w w'
end Go.Proofs.YtdggipgieanpeaaDoor
