/- What is a qualified name whose first twelve bytes are known. -/
import Derived.Test.YtiijjbepoonknaaNamesDated
namespace Go.Proofs.Ytiijjbepoonknaa
open Go.RowKit
theorem byt_left {p h : ByteArray} {j : Nat} (hj : j < p.size) : byt (p ++ h) j = byt p j := by
  unfold byt
  congr 1
  rw [ByteArray.data_append, Array.toList_append, List.getD_eq_getElem?_getD, List.getD_eq_getElem?_getD, List.getElem?_append_left]
  exact hj
theorem byt_right {p h : ByteArray} {j : Nat} : byt (p ++ h) (p.size + j) = byt h j := by
  unfold byt
  congr 1
  rw [ByteArray.data_append, Array.toList_append, List.getD_eq_getElem?_getD, List.getD_eq_getElem?_getD, List.getElem?_append_right (by show p.data.toList.length ≤ _; simp)]
  have : p.size + j - p.data.toList.length = j := by
    have : p.data.toList.length = p.size := rfl
    omega
  rw [this]
theorem ext_right {p h : ByteArray} : (p ++ h).extract p.size (p ++ h).size = h := by
  apply ByteArray.ext
  rw [ByteArray.data_extract, ByteArray.data_append, ByteArray.size_append]
  apply Array.ext'
  rw [Array.toList_extract, Array.toList_append, List.extract_eq_take_drop]
  have hp : p.data.toList.length = p.size := rfl
  have hh : h.data.toList.length = h.size := rfl
  rw [← hp, List.drop_left, List.take_of_length_le (by rw [hh]; omega)]
theorem ext_left {p h : ByteArray} {n : Nat} (hn : n ≤ p.size) : (p ++ h).extract 0 n = p.extract 0 n := by
  apply ByteArray.ext
  rw [ByteArray.data_extract, ByteArray.data_append, ByteArray.data_extract]
  apply Array.ext'
  rw [Array.toList_extract, Array.toList_append, Array.toList_extract, List.extract_eq_take_drop, List.extract_eq_take_drop]
  have hp : p.data.toList.length = p.size := rfl
  rw [List.drop_zero, List.drop_zero, List.take_append_of_le_length (by omega)]
theorem qual_pre {p h d : ByteArray} (hp : p.size = 12) (h0 : clsF (byt p 0) = 1) (hc : ∀ j, j < 12 → clsF (byt p j) ≠ 0) :
    qualB (p ++ h) d = true ↔ nameB h = true ∧ h.size ≤ 52 ∧ strEq (p.extract 0 4) d = true ∧ monS p := by
  have hz : (p ++ h).size = 12 + h.size := by rw [ByteArray.size_append, hp]
  have he : (p ++ h).extract 12 (p ++ h).size = h := by rw [← hp]; exact ext_right
  have hl : ∀ j, j < 12 → byt (p ++ h) j = byt p j := fun j hj => byt_left (by omega)
  have hm : monS (p ++ h) ↔ monS p := by
    unfold monS digFrom
    rw [hl 8 (by omega), hl 9 (by omega), hl 10 (by omega), hl 11 (by omega)]
    constructor
    · rintro ⟨a, b⟩
      exact ⟨fun j hj => by rw [← hl (4 + j) (by omega)]; exact a j hj, b⟩
    · rintro ⟨a, b⟩
      exact ⟨fun j hj => by rw [hl (4 + j) (by omega)]; exact a j hj, b⟩
  unfold qualB
  rw [Bool.and_eq_true, Bool.and_eq_true, Bool.and_eq_true, Bool.and_eq_true, he, ext_left (by omega), decide_eq_true_iff]
  constructor
  · rintro ⟨⟨⟨⟨a, b⟩, c⟩, e⟩, f⟩
    have a' := of_decide_eq_true a
    exact ⟨f, by omega, c, hm.1 ((mon_is (by omega)).1 e)⟩
  · rintro ⟨f, g, c, e⟩
    have f' := of_decide_eq_true f
    refine ⟨⟨⟨⟨decide_eq_true ⟨by omega, by omega, by rw [hl 0 (by omega)]; exact h0, fun j hj => ?_⟩, by omega⟩, c⟩, (mon_is (by omega)).2 (hm.2 e)⟩, f⟩
    by_cases hj2 : j < 12
    · rw [hl j hj2]; exact hc j hj2
    · obtain ⟨i, rfl⟩ : ∃ i, j = 12 + i := ⟨j - 12, by omega⟩
      rw [← hp, byt_right]
      exact f'.2.2.2 i (by omega)
theorem ext12 {p h : ByteArray} (hp : p.size = 12) : (p ++ h).extract 12 (p ++ h).size = h := by rw [← hp]; exact ext_right
end Go.Proofs.Ytiijjbepoonknaa
