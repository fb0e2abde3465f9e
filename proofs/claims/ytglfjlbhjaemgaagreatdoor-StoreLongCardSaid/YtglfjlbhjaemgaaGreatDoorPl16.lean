/- Set and Pad of the code, told by what stands in their answers; the calls of FieldsSets return true. -/
import Derived.Test.YtglfjlbhjaemgaaGreatDoorPl15
import Derived.StillTailTactics
namespace Go.Proofs.YtglfjlbhjaemgaaGreatDoor
open Go.RowKit
theorem bytes_ext {a b : ByteArray} (h : a.data.toList = b.data.toList) : a = b := by
  obtain ⟨⟨a⟩⟩ := a
  obtain ⟨⟨b⟩⟩ := b
  simp only at h
  rw [h]
theorem ext_list (a : ByteArray) (i j : Nat) : (a.extract i j).data.toList = (a.data.toList.take j).drop i := by
  rw [ByteArray.data_extract, Array.toList_extract, List.extract_eq_take_drop, List.drop_take]
theorem isEmpty_no (m : ByteArray) (h : 0 < m.size) : m.toList.isEmpty = false := by
  rw [ByteArray.toList_eq]
  have : m.data.toList.length = m.size := by simp
  cases hl : m.data.toList with
  | nil => rw [hl] at this; simp at this; omega
  | cons a r => rfl
end Go.Proofs.YtglfjlbhjaemgaaGreatDoor
