/- Set and Pad of the code, told by what stands in their answers; the calls of FieldsSets return true. -/
import Derived.Test.YtdggipgieanpeaaDoorBack
import Derived.StillTailTactics
namespace Go.Proofs.YtdggipgieanpeaaDoor
open Go.RowKit
structure SetOf (s m : ByteArray) (k : Nat) (t : ByteArray) : Prop where
  size : t.size = s.size
  front : t.extract 0 k = s.extract 0 k
  mid : t.extract k (k + m.size) = m
  back : t.extract (k + m.size) s.size = s.extract (k + m.size) s.size
structure PadOf (s p : ByteArray) : Prop where
  lo : s.size ≤ p.size
  hi : p.size < s.size + 4
  four : p.size % 4 = 0
  front : p.extract 0 s.size = s
  zero : ∀ i, s.size ≤ i → i < p.size → byt p i = 0
def SetDone (s m : ByteArray) (k : Nat) (w : World) (e : Ending) (w' : World) : Prop :=
  ∃ t, e = .returned (.tuple #[.string t, .bool true]) ∧ SetOf s m k t ∧ Below w.heap.size w w'
def PadDone (s : ByteArray) (w : World) (e : Ending) (w' : World) : Prop :=
  ∃ p, e = .returned (.string p) ∧ PadOf s p ∧ Below w.heap.size w w'
theorem bytes_ext {a b : ByteArray} (h : a.data.toList = b.data.toList) : a = b := by
  obtain ⟨⟨a⟩⟩ := a
  obtain ⟨⟨b⟩⟩ := b
  simp only at h
  rw [h]
theorem ext_list (a : ByteArray) (i j : Nat) : (a.extract i j).data.toList = (a.data.toList.take j).drop i := by
  rw [ByteArray.data_extract, Array.toList_extract, List.extract_eq_take_drop, List.drop_take]
theorem setOf_put (s m : ByteArray) (k : Nat) (hm : k + m.size ≤ s.size) : SetOf s m k (s.extract 0 k ++ m ++ s.extract (k + m.size) s.size) := by
  have ls : s.data.toList.length = s.size := by simp
  have lm : m.data.toList.length = m.size := by simp
  have hl : (s.extract 0 k ++ m ++ s.extract (k + m.size) s.size).data.toList = s.data.toList.take k ++ m.data.toList ++ s.data.toList.drop (k + m.size) := by
    simp only [ByteArray.data_append, Array.toList_append, ext_list]
    rw [List.drop_zero, ← ls, List.take_length]
  have hz : (s.extract 0 k ++ m ++ s.extract (k + m.size) s.size).size = s.size := by
    have := congrArg List.length hl
    simp only [List.length_append, List.length_take, List.length_drop, ls, lm] at this
    rw [Array.length_toList] at this
    show (s.extract 0 k ++ m ++ s.extract (k + m.size) s.size).data.size = s.size
    omega
  refine ⟨hz, bytes_ext ?_, bytes_ext ?_, bytes_ext ?_⟩
  · rw [ext_list, hl, ext_list, List.append_assoc, List.take_append_of_le_length (by simp; omega), List.take_take, Nat.min_self]
  · rw [ext_list, hl, List.take_append_of_le_length (by simp; omega)]
    have lk : (s.data.toList.take k).length = k := by simp; omega
    rw [List.take_of_length_le (by simp; omega), List.drop_append_of_le_length (by omega), List.drop_of_length_le (by omega), List.nil_append]
  · rw [ext_list, hl, ext_list]
    have lk : (s.data.toList.take k ++ m.data.toList).length = k + m.size := by simp; omega
    rw [List.take_of_length_le (by simp; omega), List.drop_append_of_le_length (by omega), List.drop_of_length_le (by omega), List.nil_append, List.take_of_length_le (by omega)]
theorem setOf_self (s m : ByteArray) (k : Nat) (h0 : m.size = 0) : SetOf s m k s := by
  refine ⟨rfl, rfl, bytes_ext ?_, rfl⟩
  have lm : m.data.toList = [] := List.eq_nil_of_length_eq_zero (by simpa using h0)
  rw [ext_list, lm, h0, Nat.add_zero, List.drop_eq_nil_iff]
  simp; omega
theorem isEmpty_no (m : ByteArray) (h : 0 < m.size) : m.toList.isEmpty = false := by
  rw [ByteArray.toList_eq]
  have : m.data.toList.length = m.size := by simp
  cases hl : m.data.toList with
  | nil => rw [hl] at this; simp at this; omega
  | cons a r => rfl
theorem isEmpty_yes (m : ByteArray) (h : m.size = 0) : m.toList.isEmpty = true := by
  rw [ByteArray.toList_eq, List.eq_nil_of_length_eq_zero (l := m.data.toList) (by simpa using h)]; rfl
theorem padOf_more (s : ByteArray) (h : s.size % 4 ≠ 0) : PadOf s (padB s 4) := by
  have ls : s.data.toList.length = s.size := by simp
  have hl : (padB s 4).data.toList = s.data.toList ++ List.replicate (4 - s.size % 4) 0 := by
    unfold padB
    simp only [ByteArray.data_append, Array.toList_append, Array.toList_replicate]
  have hz : (padB s 4).size = s.size + (4 - s.size % 4) := by
    have := congrArg List.length hl
    simp only [List.length_append, List.length_replicate, ls] at this
    rw [Array.length_toList] at this
    exact this
  refine ⟨by omega, by omega, by omega, bytes_ext ?_, fun i h1 h2 => ?_⟩
  · rw [ext_list, hl, List.take_append_of_le_length (by omega), ← ls, List.take_length, List.drop_zero]
  · unfold byt
    rw [hl, List.getD_eq_getElem?_getD, List.getElem?_append_right (by omega), List.getElem?_replicate]
    split <;> rfl
theorem padOf_self (s : ByteArray) (h : s.size % 4 = 0) : PadOf s s := by
  refine ⟨by omega, by omega, h, bytes_ext ?_, fun i h1 h2 => by omega⟩
  have ls : s.data.toList.length = s.size := by simp
  rw [ext_list, ← ls, List.take_length, List.drop_zero]
theorem size_at (n d : Int) (hd : 1 ≤ d ∧ d ≤ 100001) : ∃ k : Nat, wrap64 ((IntKind.u64.wrap n).tmod d) = k ∧ k < d := by
  have h0 := IntKind.wrap_u64 n
  have h1 : 0 ≤ IntKind.u64.wrap n := by rw [h0]; omega
  rw [Int.tmod_eq_emod_of_nonneg h1]
  have h2 := Int.emod_nonneg (IntKind.u64.wrap n) (show d ≠ 0 by omega)
  have h3 := Int.emod_lt_of_pos (IntKind.u64.wrap n) (show 0 < d by omega)
  generalize IntKind.u64.wrap n % d = r at h2 h3
  rw [IntWalk.wrap64_in r (by omega)]
  exact ⟨r.toNat, by omega, by omega⟩
end Go.Proofs.YtdggipgieanpeaaDoor
