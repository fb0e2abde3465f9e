/- What a sense's bytes are, and what outcomes are told by: as plain functions. -/
import Derived.Test.YthcaeihpdlgcaaaDoorCdA
namespace Go.Proofs.YthcaeihpdlgcaaaDoor
open Go.RowKit
/-- A sense: key, asc, ascq, at. -/
structure Sn where
  k : Int
  a : Int
  q : Int
  t : Int
deriving DecidableEq
def zN : Sn := ⟨0, 0, 0, 0⟩
def mayX (x : Sn) : Bool := decide (0 ≤ x.k ∧ x.k ≤ 15 ∧ 0 ≤ x.a ∧ x.a ≤ 255 ∧ 0 ≤ x.q ∧ x.q ≤ 255 ∧ -1 ≤ x.t ∧ x.t < 4294967296)
def i8 (n : Int) : UInt8 := UInt8.ofNat n.toNat
def hdS (x : Sn) : ByteArray := ⟨#[if 0 ≤ x.t then 240 else 112, 0, i8 x.k]⟩
def tlS (x : Sn) : ByteArray := ⟨#[10, 0, 0, 0, 0, i8 x.a, i8 x.q, 0, 0, 0, 0]⟩
def atN (x : Sn) : Nat := if 0 ≤ x.t then x.t.toNat else 0
def bytS (x : Sn) : ByteArray := hdS x ++ putHi (atN x) (4 : Nat) ++ tlS x
def bytX (x : Sn) : Option ByteArray := if mayX x = true then some (bytS x) else none
/-- What the bytes of a text ask, whether it is a sense's or not. -/
def getS (s : ByteArray) : Sn := ⟨byt s 2, byt s 12, byt s 13, if byt s 0 = 240 then (big s 3 4 : Int) else -1⟩
def parX (s : ByteArray) : Option Sn := if s.size = 18 ∧ mayX (getS s) = true ∧ bytS (getS s) = s then some (getS s) else none
theorem i8_nat {n : Int} (h0 : 0 ≤ n) (h1 : n ≤ 255) : ((i8 n).toNat : Int) = n := by
  unfold i8
  rw [UInt8.toNat_ofNat']
  omega
theorem bytS_size (x : Sn) : (bytS x).size = 18 := by
  unfold bytS
  rw [ByteArray.size_append, ByteArray.size_append, putHi_size _ 4 (by decide) (by decide)]
  rfl
theorem bytS_list (x : Sn) : (bytS x).data.toList = [if 0 ≤ x.t then 240 else 112, 0, i8 x.k] ++ (putHi (atN x) (4 : Nat)).data.toList ++ [10, 0, 0, 0, 0, i8 x.a, i8 x.q, 0, 0, 0, 0] := by
  unfold bytS
  simp only [ByteArray.data_append, Array.toList_append]
  rfl
theorem putHi_list4 (x : Nat) : (putHi x (4 : Nat)).data.toList.length = 4 := by
  have := putHi_size x 4 (by decide) (by decide)
  simpa using this
theorem byt_S (x : Sn) : byt (bytS x) 0 = (if 0 ≤ x.t then 240 else 112) ∧ byt (bytS x) 2 = (i8 x.k).toNat ∧ byt (bytS x) 12 = (i8 x.a).toNat ∧ byt (bytS x) 13 = (i8 x.q).toNat ∧ ∀ i, i < 4 → byt (bytS x) (3 + i) = byt (putHi (atN x) (4 : Nat)) i := by
  have h4 := putHi_list4 (atN x)
  unfold byt
  rw [bytS_list]
  generalize (putHi (atN x) (4 : Nat)).data.toList = l at *
  match l, h4 with
  | [l0, l1, l2, l3], _ =>
    refine ⟨?_, rfl, rfl, rfl, ?_⟩
    · show (if 0 ≤ x.t then (240 : UInt8) else 112).toNat = _
      split <;> rfl
    · intro i hi
      have : i = 0 ∨ i = 1 ∨ i = 2 ∨ i = 3 := by omega
      rcases this with rfl | rfl | rfl | rfl <;> rfl
theorem big_S (x : Sn) : big (bytS x) 3 4 = atN x % 256 ^ 4 := by
  obtain ⟨_, _, _, _, h⟩ := byt_S x
  unfold big
  rw [bigV_congr _ (fun i => atN x / 256 ^ (4 - (i + 1)) % 256) 4 (fun i hi => ?_), bigV_back (atN x) 4 4 (Nat.le_refl _)]
  · simp
  · unfold readV
    rw [h i hi, byt_put (atN x) 4 i (by decide) (by decide) hi]
theorem get_S {x : Sn} (h : mayX x = true) : getS (bytS x) = x := by
  obtain ⟨h1, h2, h3, h4, h5, h6, h7, h8⟩ := of_decide_eq_true h
  obtain ⟨b0, b2, b12, b13, _⟩ := byt_S x
  have hb := big_S x
  obtain ⟨k, a, q, t⟩ := x
  unfold getS
  rw [b0, b2, b12, b13, hb]
  dsimp only at h1 h2 h3 h4 h5 h6 h7 h8 ⊢
  rw [i8_nat h1 (by omega), i8_nat h3 h4, i8_nat h5 h6]
  congr 1
  unfold atN
  dsimp only
  by_cases ht : 0 ≤ t
  · rw [if_pos ht, if_pos ht, if_pos rfl]; omega
  · rw [if_neg ht, if_neg ht, if_neg (by decide)]; omega
theorem par_S {x : Sn} (h : mayX x = true) : parX (bytS x) = some x := by
  unfold parX
  rw [get_S h, if_pos ⟨bytS_size x, h, rfl⟩]
theorem par_some {s : ByteArray} {x : Sn} (h : parX s = some x) : mayX x = true ∧ bytS x = s ∧ s.size = 18 := by
  unfold parX at h
  split at h
  · rename_i hc
    have e := Option.some.inj h
    rw [e] at hc
    exact ⟨hc.2.1, hc.2.2, hc.1⟩
  · cases h
/-- What an outcome is told by. -/
def ofX (c t w : Int) : Int × Sn :=
  if c = 1 then (0, ⟨0, 0, 0, -1⟩) else if c = 2 then (24, ⟨0, 0, 0, -1⟩)
  else if c = 3 ∧ 0 ≤ t ∧ t < 4294967296 then (2, ⟨14, 29, 0, t⟩)
  else if c = 4 then (2, ⟨5, 33, 0, -1⟩) else if c = 5 then (2, ⟨5, 36, 0, -1⟩) else if c = 6 then (2, ⟨5, 37, 0, -1⟩)
  else if c = 7 ∧ w = 1 then (2, ⟨6, 41, 0, -1⟩) else if c = 7 ∧ w = 2 then (2, ⟨6, 42, 5, -1⟩) else if c = 7 ∧ w = 3 then (2, ⟨6, 42, 4, -1⟩) else if c = 7 ∧ w = 4 then (2, ⟨6, 42, 3, -1⟩)
  else (2, ⟨3, 12, 0, -1⟩)
structure Oc where
  c : Int
  t : Int
  w : Int
deriving DecidableEq
def cands (t : Int) : List Oc := [⟨1, 0, 0⟩, ⟨2, 0, 0⟩, ⟨4, 0, 0⟩, ⟨5, 0, 0⟩, ⟨6, 0, 0⟩, ⟨8, 0, 0⟩, ⟨7, 0, 1⟩, ⟨7, 0, 2⟩, ⟨7, 0, 3⟩, ⟨7, 0, 4⟩, ⟨3, t, 0⟩]
/-- The outcome of a status and a sense. -/
def codX (n : Int) (x : Sn) : Option Oc := (cands x.t).find? fun o => decide (ofX o.c o.t o.w = (n, x))
theorem cod_of {n : Int} {x : Sn} {o : Oc} (h : codX n x = some o) : ofX o.c o.t o.w = (n, x) := by
  have := List.find?_some h
  exact of_decide_eq_true this
def ofP (o : Oc) : Int × Sn := ofX o.c o.t o.w
/-- Whatever is told has a code: the outcome's own, or Broken's. -/
theorem cod_is (c t w : Int) : ∃ o, codX (ofX c t w).1 (ofX c t w).2 = some o ∧ (o.c = c ∨ o.c = 8) ∧ (o.c = 3 → o.t = t) ∧ (o.c = 7 → o.w = w) := by
  unfold ofX
  split
  · rename_i h; exact ⟨⟨1, 0, 0⟩, rfl, .inl h.symm, fun h => absurd h (by decide), fun h => absurd h (by decide)⟩
  split
  · rename_i h; exact ⟨⟨2, 0, 0⟩, rfl, .inl h.symm, fun h => absurd h (by decide), fun h => absurd h (by decide)⟩
  split
  · rename_i h
    refine ⟨⟨3, t, 0⟩, ?_, .inl h.1.symm, fun _ => rfl, fun h => absurd (show (3 : Int) = 7 from h) (by decide)⟩
    have hn : ∀ o ∈ (cands t).take 10, decide (ofX o.c o.t o.w = (2, (⟨14, 29, 0, t⟩ : Sn))) = false := by
      intro o ho
      have : o = ⟨1, 0, 0⟩ ∨ o = ⟨2, 0, 0⟩ ∨ o = ⟨4, 0, 0⟩ ∨ o = ⟨5, 0, 0⟩ ∨ o = ⟨6, 0, 0⟩ ∨ o = ⟨8, 0, 0⟩ ∨ o = ⟨7, 0, 1⟩ ∨ o = ⟨7, 0, 2⟩ ∨ o = ⟨7, 0, 3⟩ ∨ o = ⟨7, 0, 4⟩ := by simpa [cands] using ho
      rcases this with rfl | rfl | rfl | rfl | rfl | rfl | rfl | rfl | rfl | rfl <;> exact decide_eq_false (fun h => by simp [ofX] at h)
    have hy : decide (ofX 3 t 0 = (2, (⟨14, 29, 0, t⟩ : Sn))) = true := decide_eq_true (by unfold ofX; rw [if_neg (by decide), if_neg (by decide), if_pos ⟨rfl, h.2⟩])
    unfold codX
    have hc : cands t = (cands t).take 10 ++ [⟨3, t, 0⟩] := rfl
    show List.find? (fun o => decide (ofX o.c o.t o.w = (2, (⟨14, 29, 0, t⟩ : Sn)))) (cands t) = _
    rw [hc, List.find?_append, List.find?_eq_none.2 (fun o ho => by rw [hn o ho]; decide)]
    simp only [Option.none_or, List.find?_cons, hy]
  split
  · rename_i h; exact ⟨⟨4, 0, 0⟩, rfl, .inl h.symm, fun h => absurd h (by decide), fun h => absurd h (by decide)⟩
  split
  · rename_i h; exact ⟨⟨5, 0, 0⟩, rfl, .inl h.symm, fun h => absurd h (by decide), fun h => absurd h (by decide)⟩
  split
  · rename_i h; exact ⟨⟨6, 0, 0⟩, rfl, .inl h.symm, fun h => absurd h (by decide), fun h => absurd h (by decide)⟩
  split
  · rename_i h; exact ⟨⟨7, 0, 1⟩, rfl, .inl h.1.symm, fun h => absurd h (by decide), fun _ => h.2.symm⟩
  split
  · rename_i h; exact ⟨⟨7, 0, 2⟩, rfl, .inl h.1.symm, fun h => absurd h (by decide), fun _ => h.2.symm⟩
  split
  · rename_i h; exact ⟨⟨7, 0, 3⟩, rfl, .inl h.1.symm, fun h => absurd h (by decide), fun _ => h.2.symm⟩
  split
  · rename_i h; exact ⟨⟨7, 0, 4⟩, rfl, .inl h.1.symm, fun h => absurd h (by decide), fun _ => h.2.symm⟩
  · exact ⟨⟨8, 0, 0⟩, rfl, .inr rfl, fun h => absurd h (by decide), fun h => absurd h (by decide)⟩
end Go.Proofs.YthcaeihpdlgcaaaDoor
