/- DevWhole: a write of several sectors is several writes. -/
import Derived.Test.YtgdaihembmcamaaGreatDoorDevKeepsMath
namespace Go.Proofs.YtgdaihembmcamaaGreatDoor
open Go.RowKit
theorem catS_snoc (l : List ByteArray) (s : ByteArray) : catS l ++ s = catS (l ++ [s]) := by
  refine bytes_eq ?_
  rw [ByteArray.data_append, Array.toList_append]
  unfold catS
  simp [flatB_snoc]
theorem catS_nil : catS [] = ⟨#[]⟩ := rfl
theorem catS_size {l : List ByteArray} (h : ∀ s ∈ l, s.size = 512) : (catS l).size = l.length * 512 := by
  show (flatB l).toArray.size = _
  rw [List.size_toArray, flatB_length h]
theorem flat_sec {l : List ByteArray} {j : Nat} {s : ByteArray} (h : ∀ t ∈ l, t.size = 512) (hj : l[j]? = some s) : ((flatB l).take ((j + 1) * 512)).drop (j * 512) = s.data.toList := by
  induction l generalizing j with
  | nil => cases hj
  | cons a l ih =>
    have ha : a.data.toList.length = 512 := by
      have := h a (List.mem_cons_self ..)
      simpa using this
    have hf : flatB (a :: l) = a.data.toList ++ flatB l := by simp [flatB]
    rw [hf]
    cases j with
    | zero =>
      simp at hj
      subst hj
      rw [List.take_left' (by omega), Nat.zero_mul, List.drop_zero]
    | succ j =>
      have := ih (fun t ht => h t (List.mem_cons_of_mem _ ht)) (j := j) (by simpa using hj)
      rw [← this, List.take_append, List.take_of_length_le (by omega), List.drop_append, List.drop_of_length_le (by omega), List.nil_append, ha, show (j + 1 + 1) * 512 - 512 = (j + 1) * 512 by omega, show (j + 1) * 512 - 512 = j * 512 by omega]
theorem sec_cat {l : List ByteArray} {j : Nat} {s : ByteArray} (h : ∀ t ∈ l, t.size = 512) (hj : l[j]? = some s) : sec (catS l) j = s := by
  refine bytes_eq ?_
  unfold sec
  rw [ext_toList]
  exact flat_sec h hj
/-- Writes of the sectors of s from place i on. -/
def secL (s : ByteArray) (i k m : Nat) : List (Nat × ByteArray) := (List.range m).map fun j => (i + k + j, sec s (k + j))
theorem secL_succ (s : ByteArray) (i k m : Nat) : secL s i k (m + 1) = (i + k, sec s k) :: secL s i (k + 1) m := by
  unfold secL
  rw [List.range_succ_eq_map, List.map_cons, List.map_map]
  congr 1
  refine List.map_congr_left fun j _ => ?_
  show (i + k + (j + 1), sec s (k + (j + 1))) = (i + (k + 1) + j, sec s (k + 1 + j))
  rw [show i + k + (j + 1) = i + (k + 1) + j by omega, show k + (j + 1) = k + 1 + j by omega]
theorem wr_plain (i : Nat) (s : ByteArray) : ∀ (m k : Nat) (x : St), x.armed = false → x.wr i s k m = ({ x with ops := x.ops + m, held := x.held ++ secL s i k m }, true) := by
  intro m
  induction m with
  | zero =>
    intro k x _
    show (x, true) = _
    simp [secL]
  | succ m ih =>
    intro k x hx
    rw [wr_go (due_no hx), ih (k + 1) (x.oped.hold (i + k) (sec s k)) hx, secL_succ]
    have e : x.oped.left = x.left := by show (if x.armed then _ else _) = _; rw [hx]; rfl
    show (({ ops := x.ops + 1 + m, safe := x.safe, held := (x.held ++ [(i + k, sec s k)]) ++ secL s i (k + 1) m, armed := x.armed, left := x.oped.left, down := x.down } : St), true) = _
    rw [e, List.append_assoc, show x.ops + 1 + m = x.ops + (m + 1) by omega]
    rfl
/-- The blocks of bytes. -/
def blkL (fs : List UInt8) : List ByteArray := fs.map (bytesS 512)
theorem blkL_secs (fs : List UInt8) : ∀ s ∈ blkL fs, s.size = 512 := fun s hs => by
  obtain ⟨b, _, rfl⟩ := List.mem_map.1 hs
  exact bytesS_size _ _
theorem blkL_take (fs : List UInt8) (i : Nat) : ∀ s ∈ (blkL fs).take i, s.size = 512 := fun s hs => blkL_secs fs s (List.mem_of_mem_take hs)
theorem blkL_at {fs : List UInt8} {j : Nat} {v : UInt8} (h : fs[j]? = some v) : (blkL fs)[j]? = some (bytesS 512 v) := by unfold blkL; rw [List.getElem?_map, h]; rfl
theorem blkL_next {fs : List UInt8} {j : Nat} {v : UInt8} (h : fs[j]? = some v) : (blkL fs).take (j + 1) = (blkL fs).take j ++ [bytesS 512 v] := by rw [List.take_add_one, blkL_at h]; rfl
/-- The device behind i writes, one sector each, from place k on. -/
def whSt (fs : List UInt8) (k i : Nat) : St := { St.new 32 with ops := i, held := (List.range i).map fun j => (k + j, bytesS 512 (fs.getD j 0)) }
theorem whSt_next {fs : List UInt8} {k i : Nat} {v : UInt8} (h : fs[i]? = some v) : (whSt fs k i).oped.hold (k + i) (bytesS 512 v) = whSt fs k (i + 1) := by
  have e : (List.range (i + 1)).map (fun j => (k + j, bytesS 512 (fs.getD j 0))) = (List.range i).map (fun j => (k + j, bytesS 512 (fs.getD j 0))) ++ [(k + i, bytesS 512 v)] := by
    rw [List.range_succ, List.map_append, List.map_singleton, List.getD_eq_getElem?_getD, h, Option.getD_some]
  unfold whSt
  rw [e]
  rfl
theorem whSt_whole (fs : List UInt8) (k : Nat) : (St.new 32).wr k (catS (blkL fs)) 0 fs.length = (whSt fs k fs.length, true) := by
  rw [wr_plain _ _ _ _ _ rfl]
  have e : secL (catS (blkL fs)) k 0 fs.length = (List.range fs.length).map fun j => (k + j, bytesS 512 (fs.getD j 0)) := by
    unfold secL
    refine List.map_congr_left fun j hj => ?_
    have hl := List.mem_range.1 hj
    rw [Nat.add_zero, Nat.zero_add, sec_cat (blkL_secs fs) (blkL_at (List.getElem?_eq_getElem hl)), List.getD_eq_getElem?_getD, List.getElem?_eq_getElem hl, Option.getD_some]
  rw [e]
  unfold whSt
  simp [St.new]
theorem part_whole (l : List ByteArray) : part l 0 l.length = l := by simp [part]
theorem part_pre (l : List ByteArray) (i : Nat) : part l 0 i = l.take i := by simp [part]
end Go.Proofs.YtgdaihembmcamaaGreatDoor
