/- What was made of ranges is read as they were; what the code's Unmap and Ranges must come to. -/
import Derived.Test.YtgncllhhajjnlaaInJ
namespace Go.Proofs.Ytgncllhhajjnlaa
open Go.RowKit
theorem big_putHi (x n : Nat) (h1 : 1 ≤ n) (h8 : n ≤ 8) : big (putHi x (n : Nat)) 0 n = x % 256 ^ n := by
  unfold big
  rw [bigV_congr _ (fun i => x / 256 ^ (n - (i + 1)) % 256) n (fun i hi => ?_), bigV_back x n n (Nat.le_refl _)]
  · simp
  · unfold readV
    rw [Nat.zero_add, byt_put x n i h1 h8 hi]
theorem byt_rowsR {l : List Rn} {k : Nat} {x : Rn} (hx : l[k]? = some x) (j : Nat) (hj : j < 16) : ∀ m, k < m → m ≤ l.length → byt (rowsR (l.take m)) (16 * k + j) = byt (rowR x) j
  | 0, h, _ => by omega
  | m + 1, h, hm => by
    have hy := List.getElem?_eq_getElem (show m < l.length by omega)
    have hsz := rowsR_size l m (by omega)
    rw [rowsR_step hy]
    by_cases hk : k < m
    · rw [byt_app_left _ _ _ (by rw [hsz]; omega)]
      exact byt_rowsR hx j hj m hk (by omega)
    · obtain rfl : k = m := by omega
      have := byt_app_right (rowsR (l.take k)) (rowR l[k]) j
      rw [hsz] at this
      rw [this]
      obtain rfl : l[k] = x := Option.some.inj (hy.symm.trans hx)
      rfl
theorem byt_rowR (x : Rn) : (∀ j, j < 8 → byt (rowR x) j = byt (putHi x.l.toNat ((8 : Nat) : Int)) j) ∧ ∀ j, j < 4 → byt (rowR x) (8 + j) = byt (putHi x.b.toNat ((4 : Nat) : Int)) j := by
  have z1 : (putHi x.l.toNat ((8 : Nat) : Int)).size = 8 := putHi_size _ 8 (by decide) (by decide)
  have z2 : (putHi x.b.toNat ((4 : Nat) : Int)).size = 4 := putHi_size _ 4 (by decide) (by decide)
  unfold rowR
  constructor
  · intro j hj
    rw [byt_app_left _ _ _ (by rw [ByteArray.size_append, z1, z2]; omega), byt_app_left _ _ _ (by rw [z1]; omega)]
  · intro j hj
    rw [byt_app_left _ _ _ (by rw [ByteArray.size_append, z1, z2]; omega)]
    have := byt_app_right (putHi x.l.toNat ((8 : Nat) : Int)) (putHi x.b.toNat ((4 : Nat) : Int)) j
    rw [z1] at this
    exact this
theorem byt_list17 {l : List Rn} {k : Nat} {x : Rn} (hx : l[k]? = some x) (j : Nat) (hj : j < 16) : byt (headR l.length ++ rowsR l) (8 + 16 * k + j) = byt (rowR x) j := by
  have hk := (List.getElem?_eq_some_iff.1 hx).1
  have h1 := byt_app_right (headR l.length) (rowsR l) (16 * k + j)
  rw [headR_size] at h1
  rw [show 8 + 16 * k + j = 8 + (16 * k + j) by omega, h1]
  have := byt_rowsR hx j hj l.length hk (Nat.le_refl _)
  rwa [List.take_length] at this
theorem rdR_list {l : List Rn} {k : Nat} {x : Rn} (hx : l[k]? = some x) (hg : goodR x = true) : rdR (headR l.length ++ rowsR l) k = x := by
  obtain ⟨g0, g1, g2, g3⟩ := of_decide_eq_true hg
  obtain ⟨r1, r2⟩ := byt_rowR x
  have a8 : big (headR l.length ++ rowsR l) (8 + 16 * k) 8 = big (putHi x.l.toNat ((8 : Nat) : Int)) 0 8 := by
    unfold big
    refine bigV_congr _ _ 8 fun i hi => ?_
    unfold readV
    rw [byt_list17 hx i (by omega), Nat.zero_add, r1 i hi]
  have a4 : big (headR l.length ++ rowsR l) (8 + 16 * k + 8) 4 = big (putHi x.b.toNat ((4 : Nat) : Int)) 0 4 := by
    unfold big
    refine bigV_congr _ _ 4 fun i hi => ?_
    unfold readV
    rw [show 8 + 16 * k + 8 + i = 8 + 16 * k + (8 + i) by omega, byt_list17 hx (8 + i) (by omega), Nat.zero_add, r2 i hi]
  have p8 := big_putHi x.l.toNat 8 (by decide) (by decide)
  have p4 := big_putHi x.b.toNat 4 (by decide) (by decide)
  have e8 : (256 : Nat) ^ 8 = 18446744073709551616 := rfl
  have e4 : (256 : Nat) ^ 4 = 4294967296 := rfl
  unfold rdR
  rw [a8, a4, p8, p4, e8, e4]
  obtain ⟨xl, xb⟩ := x
  dsimp only at *
  congr 1 <;> omega
theorem list_size17 (l : List Rn) : (headR l.length ++ rowsR l).size = 8 + 16 * l.length := by
  rw [ByteArray.size_append, headR_size]
  have := rowsR_size l l.length (Nat.le_refl _)
  rw [List.take_length] at this
  rw [this]
theorem un_size {l : List Rn} {t : ByteArray} (h : unX l = some t) : t.size = 8 + 16 * l.length ∧ l.length ≤ 16 := by
  unfold unX at h
  split at h
  · rename_i hc
    rw [← Option.some.inj h]
    exact ⟨list_size17 l, hc.1⟩
  · cases h
theorem un_back {l : List Rn} {t : ByteArray} (h : unX l = some t) : raX t = some l := by
  obtain ⟨hs, hn⟩ := un_size h
  have hl : listR t l.length = l := by
    have h' := h
    unfold unX at h'
    split at h'
    · rename_i hc
      have ht := Option.some.inj h'
      refine List.ext_getElem? fun k => ?_
      by_cases hk : k < l.length
      · have hx := List.getElem?_eq_getElem hk
        rw [hx]
        unfold listR
        rw [List.getElem?_map, List.getElem?_range hk, ← ht]
        exact congrArg some (rdR_list hx ((List.all_eq_true.1 hc.2) _ (List.getElem_mem hk)))
      · rw [List.getElem?_eq_none (by rw [listR_length]; omega), List.getElem?_eq_none (by omega)]
    · cases h'
  rw [ra_yes hs hn (by rw [hl]; exact h), hl]
theorem ra_back {s : ByteArray} {l : List Rn} (h : raX s = some l) : unX l = some s := by
  unfold raX at h
  split at h
  · rename_i hc
    rw [← Option.some.inj h]
    exact hc.2.2.2
  · cases h
theorem ra_len {s : ByteArray} {l : List Rn} (h : raX s = some l) : l.length ≤ 16 := (un_size (ra_back h)).2
/-- What the code's Unmap and Ranges must come to. -/
structure Code17b (T : World → Prop) : Prop where
  unmap : ∀ (A : Option Addr) (c : Nat) (l : List Rn) w, T w → Rngs w A l → l.length ≤ 100000 → Calls Try.prog 16 #[.slice A l.length c] w fun e w' => e = .returned (pageV (unX l)) ∧ Below w.heap.size w w'
  ranges : ∀ (s : ByteArray) w, T w → s.size ≤ 100000 → Calls Try.prog 18 #[.string s] w (RgOut (raX s) w)
end Go.Proofs.Ytgncllhhajjnlaa
