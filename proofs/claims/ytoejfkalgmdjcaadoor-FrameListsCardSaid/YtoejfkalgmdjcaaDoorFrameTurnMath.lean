/- A frame of which one byte is turned is none. -/
import Derived.Test.YtoejfkalgmdjcaaDoorFrameWakes
namespace Go.Proofs.YtoejfkalgmdjcaaDoor
open Go.RowKit
theorem putOne_set (s : ByteArray) (k : Nat) (p : UInt8) (h : k < s.size) : lst (putOne s k p) = (lst s).set k p := by
  rw [putOne_lst, List.set_eq_take_append_cons_drop, if_pos (by rw [lst_len]; exact h)]
theorem putOne_out (s : ByteArray) (k a b : Nat) (p : UInt8) (h : k < s.size) (ho : k < a ∨ b ≤ k) : (putOne s k p).extract a b = s.extract a b := by
  apply lst_inj
  rw [ext_lst, ext_lst, putOne_set s k p h]
  apply List.ext_getElem?
  intro i
  rw [List.getElem?_drop, List.getElem?_drop, List.getElem?_take, List.getElem?_take]
  by_cases hi : a + i < b
  · rw [if_pos hi, if_pos hi, List.getElem?_set_ne (by omega)]
  · rw [if_neg hi, if_neg hi]
theorem putOne_in (s : ByteArray) (k a b : Nat) (p : UInt8) (h1 : a ≤ k) (h2 : k < b) (hb : b ≤ s.size) : (putOne s k p).extract a b = putOne (s.extract a b) (k - a) p := by
  have hz := ext_size s a b hb
  apply lst_inj
  rw [ext_lst, putOne_set s k p (by omega), putOne_set _ (k - a) p (by omega), ext_lst]
  apply List.ext_getElem?
  intro i
  rw [List.getElem?_drop, List.getElem?_take]
  by_cases hi : a + i < b
  · rw [if_pos hi]
    by_cases hk : k = a + i
    · subst hk
      rw [List.getElem?_set_self (by rw [lst_len]; omega), show a + i - a = i by omega, List.getElem?_set_self (by rw [← ext_lst, lst_len]; omega)]
    · rw [List.getElem?_set_ne hk, List.getElem?_set_ne (by omega), List.getElem?_drop, List.getElem?_take, if_pos hi]
  · rw [if_neg hi, List.getElem?_eq_none (by rw [List.length_set, ← ext_lst, lst_len]; omega)]
theorem putOne_same (s : ByteArray) (k : Nat) (p : UInt8) (h : k < s.size) : putOne s k p = s ↔ (lst s)[k]? = some p := by
  constructor
  · intro e
    have := congrArg (fun x => (lst x)[k]?) e
    simp only [putOne_set s k p h] at this
    rw [← this, List.getElem?_set_self (by rw [lst_len]; exact h)]
  · intro e
    apply lst_inj
    rw [putOne_set s k p h]
    obtain ⟨hl, he⟩ := List.getElem?_eq_some_iff.1 e
    rw [← he]
    exact List.set_getElem_self hl
theorem putOne_up (s : ByteArray) (k a b : Nat) (p : UInt8) (h1 : a ≤ k) (h2 : k < b) (hb : b ≤ s.size) (he : putOne (s.extract a b) (k - a) p = s.extract a b) : putOne s k p = s := by
  have hz := ext_size s a b hb
  rw [putOne_same _ _ _ (by omega), ext_lst, List.getElem?_drop, List.getElem?_take, if_pos (by omega), show a + (k - a) = k by omega] at he
  exact (putOne_same s k p (by omega)).2 he
theorem digV_inj {a b : ByteArray} (h : digV a = digV b) : sumV a = sumV b := by
  have key : ∀ s : ByteArray, litR (digV s) 0 4 = sumV s := by
    intro s
    have := (back_lit (sumV s) 4 ⟨#[]⟩ (by decide) (by decide)).2
    rw [app_nil, ← putLo_yes (by decide) (by decide), Nat.mod_eq_of_lt (Nat.lt_of_lt_of_le (sumV_lt s) (by decide))] at this
    exact this
  rw [← key a, ← key b, h]
theorem dig_one (s : ByteArray) (k : Nat) (p : UInt8) (h : k < s.size) (he : digV (putOne s k p) = digV s) : putOne s k p = s := (one_tells s k p h).1 (digV_inj he)
theorem numF_ext {f g : ByteArray} (h : g.extract 12 16 = f.extract 12 16) (hf : 16 ≤ f.size) (hg : 16 ≤ g.size) : lenF g = lenF f := by
  have h1 := big_ext f 12 16 0 4 (by omega) (by omega) (by omega) hf
  have h2 := big_ext g 12 16 0 4 (by omega) (by omega) (by omega) hg
  unfold lenF
  rw [Nat.add_zero] at h1 h2
  rw [← h1, ← h2, h]
theorem turned_none (n : Nat) (t f : ByteArray) (k : Nat) (c : UInt8) (h : PutOf n t f) (hk : k < 24 + t.size) (hne : ¬ putOne f k c = f) : 0 < getE (putOne f k c) := by
  apply Classical.byContradiction
  intro h0
  have he : getE (putOne f k c) = 0 := by omega
  have hsz := h.size
  have hr := sec_room t.size
  have hkf : k < f.size := by omega
  have hgz : (putOne f k c).size = f.size := putOne_size f k c (by omega)
  have e2 : Begun (putOne f k c) ∧ (putOne f k c).extract 16 20 = digV ((putOne f k c).extract 0 16) ∧ (putOne f k c).extract (20 + lenF (putOne f k c)) (24 + lenF (putOne f k c)) = digV (textF (putOne f k c)) := by
    unfold getE at he
    by_cases a1 : Begun (putOne f k c)
    · by_cases a2 : (putOne f k c).extract 16 20 = digV ((putOne f k c).extract 0 16)
      · by_cases a3 : lenF (putOne f k c) ≤ 65536
        · by_cases a4 : sizeF (putOne f k c) ≤ (putOne f k c).size
          · by_cases a5 : (putOne f k c).extract (20 + lenF (putOne f k c)) (24 + lenF (putOne f k c)) = digV (textF (putOne f k c))
            · exact ⟨a1, a2, a5⟩
            · simp [a1, a2, a3, a4, a5] at he
          · simp [a1, a2, a3, a4] at he
        · simp [a1, a2, a3] at he
      · simp [a1, a2] at he
    · simp [a1] at he
  obtain ⟨_, hd1, hd2⟩ := e2
  by_cases h16 : k < 16
  · rw [putOne_out f k 16 20 c hkf (by omega), putOne_in f k 0 16 c (by omega) h16 (by omega), h.sum, ← h.head] at hd1
    exact hne (putOne_up f k 0 16 c (by omega) h16 (by omega) (dig_one _ _ _ (by rw [ext_size f 0 16 (by omega)]; omega) hd1.symm))
  · by_cases h20 : k < 20
    · rw [putOne_in f k 16 20 c (by omega) h20 (by omega), putOne_out f k 0 16 c hkf (by omega), h.head, ← h.sum] at hd1
      exact hne (putOne_up f k 16 20 c (by omega) h20 (by omega) hd1)
    · have hl : lenF (putOne f k c) = t.size := by rw [numF_ext (putOne_out f k 12 16 c hkf (by omega)) (by omega) (by omega), h.len]
      unfold textF at hd2
      rw [hl] at hd2
      by_cases ht : k < 20 + t.size
      · rw [putOne_out f k (20 + t.size) (24 + t.size) c hkf (by omega), putOne_in f k 20 (20 + t.size) c (by omega) ht (by omega), h.sum2] at hd2
        have h3 : digV (putOne (f.extract 20 (20 + t.size)) (k - 20) c) = digV (f.extract 20 (20 + t.size)) := by rw [h.text] at hd2 ⊢; exact hd2.symm
        exact hne (putOne_up f k 20 (20 + t.size) c (by omega) ht (by omega) (dig_one _ _ _ (by rw [ext_size f _ _ (by omega)]; omega) h3))
      · rw [putOne_in f k (20 + t.size) (24 + t.size) c (by omega) hk (by omega), putOne_out f k 20 (20 + t.size) c hkf (by omega), h.text, ← h.sum2] at hd2
        exact hne (putOne_up f k (20 + t.size) (24 + t.size) c (by omega) hk (by omega) hd2)
end Go.Proofs.YtoejfkalgmdjcaaDoor
