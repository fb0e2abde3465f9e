/- The document's own reading of a text, place by place; what an image tells ahead. -/
import Derived.Test.YthedonkjnfeajaaDoorImZ
namespace Go.Proofs.YthedonkjnfeajaaDoor
open Go.RowKit
theorem num_one {s : ByteArray} {k : Nat} (h : k < s.size) : numL 1 ((lst s).drop k) = (s[k]'h).toNat := by
  have hl : k < (lst s).length := by rw [lst_len]; exact h
  have e : (lst s).drop k = (s[k]'h) :: (lst s).drop (k + 1) := List.drop_eq_getElem_cons hl
  unfold numL
  rw [e, if_pos (by simp)]
  show valL [s[k]'h] = _
  unfold valL
  simp
theorem num_big {s : ByteArray} {a n : Nat} (h1 : 1 ≤ n) (h8 : n ≤ 8) (h : a + n ≤ s.size) : bigR s a n = numL n ((lst s).drop a) := by
  have hk : okB s a n = true := okB_yes ⟨by omega, by omega, by omega, by omega⟩
  unfold numL
  rw [bigR_valL hk, if_pos (by rw [List.length_drop, lst_len]; omega)]
/-- Where a registration begins. -/
def posL (L : List UInt8) : Nat → Nat
  | 0 => 12
  | k + 1 => posL L k + (9 + numL 1 ((rdS (L.drop 12) k).2.drop 8))
theorem posL_at (L : List UInt8) : ∀ k, (rdS (L.drop 12) k).2 = L.drop (posL L k)
  | 0 => rfl
  | k + 1 => by
    simp only [rdS, posL, restOf]
    rw [posL_at L k, List.drop_drop, List.drop_drop, List.drop_drop]
theorem host_at {s : ByteArray} {p n : Nat} : s.extract (p + 9) (p + 9 + n) = baL ((((lst s).drop p).drop 9).take n) := by
  apply lst_inj
  rw [ext_lst, lst_baL, List.drop_drop, List.take_drop]
theorem imB_form {s : ByteArray} (h : imB s = true) : ∃ t, GoodP t ∧ TlU t ∧ lst s = bodyL t ++ lst (digV (baL (bodyL t))) ∧ readT (lst s) = t := by
  obtain ⟨t, hg, hu, he⟩ := imB_iff.1 h
  exact ⟨t, hg, hu, he, imB_read hg hu he⟩
theorem imB_long {s : ByteArray} (h : imB s = true) : 16 ≤ s.size := by
  obtain ⟨t, _, _, he, _⟩ := imB_form h
  rw [← lst_len, he, List.length_append, dig_len]
  unfold bodyL
  rw [List.length_append, head_len]
  omega
/-- What an image tells: how many there are, who holds, that each registration is there whole. -/
theorem imB_tells {s : ByteArray} (h : imB s = true) :
    numL 1 ((lst s).drop 11) ≤ 16 ∧ numL 1 ((lst s).drop 9) ≤ numL 1 ((lst s).drop 11) ∧ ∀ k, k < numL 1 ((lst s).drop 11) → 9 + numL 1 (((lst s).drop (posL (lst s) k)).drop 8) ≤ ((lst s).drop (posL (lst s) k)).length := by
  obtain ⟨t, hg, hu, he, _⟩ := imB_form h
  have e : lst s = headL t ++ (regsL t.rs ++ lst (digV (baL (bodyL t)))) := by rw [he]; unfold bodyL; rw [List.append_assoc]
  obtain ⟨_, _, h9, _, h11, h12⟩ := head_back hg hu (regsL t.rs ++ lst (digV (baL (bodyL t))))
  rw [← e] at h9 h11 h12
  refine ⟨by rw [h11]; exact hg.len, by rw [h9, h11]; exact atN_le t, fun k hk => ?_⟩
  rw [h11] at hk
  rw [← posL_at, h12, rdS_back hu.ky hg.nm_size _ k (by omega)]
  have hx : t.rs[k] ∈ t.rs := List.getElem_mem _
  show 9 + numL 1 ((regsL (t.rs.drop k) ++ _).drop 8) ≤ _
  have e2 : regsL (t.rs.drop k) ++ lst (digV (baL (bodyL t))) = nL (t.rs[k]).k.toNat 8 ++ (nL (t.rs[k]).h.size 1 ++ (lst (t.rs[k]).h ++ (regsL (t.rs.drop (k + 1)) ++ lst (digV (baL (bodyL t)))))) := by
    rw [List.drop_eq_getElem_cons hk]
    simp only [regsL, List.flatMap_cons, List.append_assoc]
    unfold regL
    simp only [List.append_assoc]
  rw [e2, drop_nL, numL_nL]
  have := hg.nm_size _ hx
  simp only [List.length_append, nL_length, lst_len]
  omega
/-- The table that the document reads. -/
def refT (L : List UInt8) (n : Nat) : Tl := ⟨(rdS (L.drop 12) n).1, (numL 1 (L.drop 8) : Nat), hoOf (rdS (L.drop 12) n).1 (numL 1 (L.drop 9)), (numL 4 (L.drop 4) : Nat), decide (numL 1 (L.drop 10) = 1)⟩
theorem refT_u (L : List UInt8) (n : Nat) : TlU (refT L n) := by
  have := numL_lt 4 (L.drop 4)
  exact ⟨Int.natCast_nonneg _, by show ((numL 4 (L.drop 4) : Nat) : Int) < _; omega, rdS_u _ _⟩
theorem refT_read (L : List UInt8) : refT L (numL 1 (L.drop 11)) = readT L := rfl
/-- The document's own tests come to the same. -/
theorem refT_yes {s : ByteArray} {n : Nat} (hg : goodB (refT (lst s) n) = true) (he : baL (imgL (refT (lst s) n)) = s) : imB s = true ∧ readT (lst s) = refT (lst s) n := by
  have hP := goodB_iff.1 hg
  have hl : lst s = imgL (refT (lst s) n) := by
    have q := congrArg lst he
    rw [lst_baL] at q
    exact q.symm
  exact ⟨imB_iff.2 ⟨_, hP, refT_u _ _, hl⟩, imB_read hP (refT_u _ _) hl⟩
theorem refT_no {s : ByteArray} {n : Nat} (hn : n = min (numL 1 ((lst s).drop 11)) 17) (h : goodB (refT (lst s) n) = true → baL (imgL (refT (lst s) n)) ≠ s) : imB s = false := by
  cases hi : imB s with
  | false => rfl
  | true =>
    exfalso
    have ht := (imB_tells hi).1
    obtain ⟨t, hg, hu, he, hr⟩ := imB_form hi
    have e : refT (lst s) n = t := by
      rw [show n = numL 1 ((lst s).drop 11) by omega, refT_read, hr]
    rw [e] at h
    refine h (goodB_iff.2 hg) (lst_inj ?_)
    rw [lst_baL, he]
    rfl
theorem decT_yes {s : ByteArray} (h : imB s = true) : decT s = readT (lst s) ∧ decC s = 0 := by
  unfold decT decC
  rw [if_pos h, if_pos h]
  exact ⟨rfl, rfl⟩
theorem decT_no {s : ByteArray} (h : imB s = false) : decT s = tZ ∧ decC s = 61 := by
  unfold decT decC
  rw [h]
  exact ⟨rfl, rfl⟩
end Go.Proofs.YthedonkjnfeajaaDoor
