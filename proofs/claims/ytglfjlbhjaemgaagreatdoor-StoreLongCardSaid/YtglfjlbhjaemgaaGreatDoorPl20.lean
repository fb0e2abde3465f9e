/- What was put is a frame, whatever stands behind it. -/
import Derived.Test.YtglfjlbhjaemgaaGreatDoorPl18
import Derived.Test.YtglfjlbhjaemgaaGreatDoorPl19
namespace Go.Proofs.YtglfjlbhjaemgaaGreatDoor
open Go.RowKit
theorem app_list (a b : ByteArray) : (a ++ b).data.toList = a.data.toList ++ b.data.toList := by simp
theorem list_size (a : ByteArray) : a.data.toList.length = a.size := by simp
theorem extR (a b : ByteArray) (i j : Nat) (h : a.size ≤ i) : (a ++ b).extract i j = b.extract (i - a.size) (j - a.size) := by
  apply bytes_ext
  rw [ext_list, ext_list, app_list, List.take_append, List.drop_append, list_size]
  have : (List.take j a.data.toList).drop i = [] := by
    apply List.drop_eq_nil_of_le
    rw [List.length_take, list_size]
    omega
  rw [this, List.nil_append, List.length_take, list_size]
  by_cases hj : j ≤ a.size
  · rw [show j - a.size = 0 by omega]; simp
  · rw [Nat.min_eq_right (by omega)]
theorem extHead (a b : ByteArray) (i j : Nat) (hi : i = 0) (hj : j = a.size) : (a ++ b).extract i j = a := by
  subst hi; subst hj
  apply bytes_ext
  rw [ext_list, app_list, List.take_append, list_size, List.take_of_length_le (by rw [list_size]; omega)]
  simp
theorem extAll (a : ByteArray) (j : Nat) (hj : a.size ≤ j) : a.extract 0 j = a := by
  apply bytes_ext
  rw [ext_list, List.take_of_length_le (by rw [list_size]; omega)]
  rfl
theorem pad_tail (s : ByteArray) : ∃ k, padS s = s ++ ⟨Array.replicate k 0⟩ ∧ s.size + k = 512 * ((s.size + 511) / 512) := by
  unfold padS
  by_cases h : s.size % 512 = 0
  · rw [if_pos h]
    refine ⟨0, ?_, by omega⟩
    apply bytes_ext
    rw [app_list]
    simp
  · rw [if_neg h]
    exact ⟨_, rfl, by omega⟩
theorem zeros_size (k : Nat) : (⟨Array.replicate k 0⟩ : ByteArray).size = k := Array.size_replicate
theorem zeros_all (k i j : Nat) : allZ ((⟨Array.replicate k 0⟩ : ByteArray).extract i j) = true := by
  unfold allZ
  rw [ext_list]
  refine List.all_eq_true.2 fun x hx => ?_
  have hx := List.mem_of_mem_take (List.mem_of_mem_drop hx)
  simp at hx
  simp [hx.2]
theorem putS_size (n : Nat) (t : ByteArray) : (putS n t).size = 512 * secF t.size := by
  obtain ⟨k, he, hk⟩ := pad_tail (sealS (headS n t.size) ++ sealS t)
  have z : (sealS (headS n t.size) ++ sealS t).size = 24 + t.size := by rw [ByteArray.size_append, sealS_size, sealS_size, headS_size]; omega
  unfold putS
  rw [he, ByteArray.size_append, zeros_size, hk, z]
  unfold secF
  omega
/-- What is read of a frame that was put, whatever stands behind it. -/
structure PutOf (n : Nat) (t f : ByteArray) : Prop where
  head : f.extract 0 16 = headS n t.size
  mark : f.extract 0 4 = markS
  sum : f.extract 16 20 = digV (headS n t.size)
  num : numF f = n
  len : lenF f = t.size
  text : f.extract 20 (20 + t.size) = t
  sum2 : f.extract (20 + t.size) (24 + t.size) = digV t
  pad : allZ (f.extract (24 + t.size) (512 * secF t.size)) = true
  size : 512 * secF t.size ≤ f.size
theorem big_put (x k : Nat) (h1 : 1 ≤ k) (h8 : k ≤ 8) (hx : x < 256 ^ k) : bigV (readV (putHi x k) 0) k = x := by
  have := back_big x k ⟨#[]⟩ h1 h8
  have e : (⟨#[]⟩ : ByteArray) ++ ⟨(outB (hiG x k) k).toArray⟩ = putHi x k := by rw [putHi_yes h1 h8]; apply bytes_ext; rw [app_list]; rfl
  rw [e] at this
  have h := this.2
  have h0 := this.1
  rw [show (⟨#[]⟩ : ByteArray).size = 0 from rfl] at h h0
  rw [bigR_yes h0, Nat.mod_eq_of_lt hx] at h
  exact h
theorem num_of (f p : ByteArray) (a n x : Nat) (h1 : 1 ≤ n) (h8 : n ≤ 8) (hf : f.extract a (a + n) = p) (hs : a + n ≤ f.size) (hp : p = putHi x n) (hx : x < 256 ^ n) : bigV (readV f a) n = x := by
  have := big_ext f a (a + n) 0 n h1 h8 (by omega) hs
  rw [Nat.add_zero, hf, hp] at this
  have hk : okB (putHi x n) ((0 : Nat) : Int) n = true := okB_yes ⟨by omega, by omega, by omega, by rw [putHi_size x n h1 h8]; omega⟩
  rw [← this, bigR_yes hk]
  exact big_put x n h1 h8 hx
theorem put_of (n : Nat) (t r : ByteArray) (hn : n < 18446744073709551616) (ht : t.size ≤ 65536) : PutOf n t (putS n t ++ r) := by
  obtain ⟨k, he, hk⟩ := pad_tail (sealS (headS n t.size) ++ sealS t)
  have z : (sealS (headS n t.size) ++ sealS t).size = 24 + t.size := by rw [ByteArray.size_append, sealS_size, sealS_size, headS_size]; omega
  have zf := putS_size n t
  have p1 := putHi8 n
  have p2 := putHi4 t.size
  have pm : markS.size = 4 := rfl
  have d1 := digV_size (headS n t.size)
  have d2 := digV_size t
  have zz := zeros_size k
  have zh := headS_size n t.size
  have hz : 24 + t.size + k = 512 * secF t.size := by unfold secF; omega
  -- the same bytes, cut where each part begins
  have e1 : putS n t ++ r = headS n t.size ++ (digV (headS n t.size) ++ (t ++ (digV t ++ (⟨Array.replicate k 0⟩ ++ r)))) := by
    unfold putS
    rw [he]
    unfold sealS
    simp only [ByteArray.append_assoc]
  have e2 : putS n t ++ r = markS ++ (putHi n 8 ++ (putHi t.size 4 ++ (digV (headS n t.size) ++ (t ++ (digV t ++ (⟨Array.replicate k 0⟩ ++ r)))))) := by
    rw [e1]
    conv => lhs; lhs; unfold headS
    simp only [ByteArray.append_assoc]
  have hsz : (putS n t ++ r).size = 512 * secF t.size + r.size := by rw [ByteArray.size_append, zf]
  generalize putS n t ++ r = f at e1 e2 hsz
  refine ⟨?_, ?_, ?_, ?_, ?_, ?_, ?_, ?_, by omega⟩
  · rw [e1]; exact extHead _ _ _ _ rfl (by omega)
  · rw [e2]; exact extHead _ _ _ _ rfl (by omega)
  · rw [e1, extR _ _ _ _ (by omega)]; exact extHead _ _ _ _ (by omega) (by omega)
  · refine num_of f (putHi n 8) 4 8 n (by omega) (by omega) ?_ (by omega) rfl (by omega)
    rw [e2, extR _ _ _ _ (by omega)]; exact extHead _ _ _ _ (by omega) (by omega)
  · refine num_of f (putHi t.size 4) 12 4 t.size (by omega) (by omega) ?_ (by omega) rfl (by omega)
    rw [e2, extR _ _ _ _ (by omega), extR _ _ _ _ (by omega)]; exact extHead _ _ _ _ (by omega) (by omega)
  · rw [e1, extR _ _ _ _ (by omega), extR _ _ _ _ (by omega)]; exact extHead _ _ _ _ (by omega) (by omega)
  · rw [e1, extR _ _ _ _ (by omega), extR _ _ _ _ (by omega), extR _ _ _ _ (by omega)]; exact extHead _ _ _ _ (by omega) (by omega)
  · rw [e1, extR _ _ _ _ (by omega), extR _ _ _ _ (by omega), extR _ _ _ _ (by omega), extR _ _ _ _ (by omega)]
    rw [extHead _ _ _ _ (by omega) (by omega)]
    have := zeros_all k 0 k
    rwa [extAll _ _ (by omega)] at this
theorem PutOf.begun {n : Nat} {t f : ByteArray} (h : PutOf n t f) : Begun f := ⟨by have := h.size; have := sec_room t.size; omega, h.mark⟩
theorem PutOf.sized {n : Nat} {t f : ByteArray} (h : PutOf n t f) : sizeF f = 512 * secF t.size := by unfold sizeF; rw [h.len]
theorem PutOf.texted {n : Nat} {t f : ByteArray} (h : PutOf n t f) : textF f = t := by unfold textF; rw [h.len]; exact h.text
theorem PutOf.right {n : Nat} {t f : ByteArray} (h : PutOf n t f) (ht : t.size ≤ 65536) : getE f = 0 := by
  have hp : padF f = f.extract (24 + t.size) (512 * secF t.size) := by unfold padF; rw [h.sized, h.len]
  have h1 : f.extract 16 20 = digV (f.extract 0 16) := by rw [h.sum, h.head]
  have h2 : lenF f ≤ 65536 := by rw [h.len]; exact ht
  have h3 : sizeF f ≤ f.size := by rw [h.sized]; exact h.size
  have h4 : f.extract (20 + lenF f) (24 + lenF f) = digV (textF f) := by rw [h.texted, h.len]; exact h.sum2
  have h5 : allZ (padF f) = true := by rw [hp]; exact h.pad
  simp [getE, h.begun, h1, h2, h3, h4, h5]
/-- Get of what was put. -/
theorem PutOf.got {n : Nat} {t f : ByteArray} (h : PutOf n t f) (ht : t.size ≤ 65536) : gotV f = .tuple #[.int .u64 n, .string t, .int .i64 (512 * secF t.size : Nat), .int .i64 0] := by
  rw [gotV_ok (h.right ht), h.num, h.texted, h.sized]
end Go.Proofs.YtglfjlbhjaemgaaGreatDoor
