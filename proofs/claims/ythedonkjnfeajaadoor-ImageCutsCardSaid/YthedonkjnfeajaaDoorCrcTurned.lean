/- The call of CrcTurned returns true. -/
import Derived.Test.YthedonkjnfeajaaDoorCrc
import Derived.RegionTactic
import Derived.BigRegion
namespace Go.Proofs.YthedonkjnfeajaaDoor
open Go.RowKit
theorem place_at (n : Int) (d : Int) (hd : 1 ≤ d ∧ d ≤ 20000) : ∃ k : Nat, wrap64 ((IntKind.u64.wrap n).tmod d) = k ∧ k < d := by
  have h0 := IntKind.wrap_u64 n
  have h1 : 0 ≤ IntKind.u64.wrap n := by rw [h0]; omega
  rw [Int.tmod_eq_emod_of_nonneg h1]
  have h2 := Int.emod_nonneg (IntKind.u64.wrap n) (show d ≠ 0 by omega)
  have h3 := Int.emod_lt_of_pos (IntKind.u64.wrap n) (show 0 < d by omega)
  generalize IntKind.u64.wrap n % d = r at h2 h3
  rw [IntWalk.wrap64_in r (by omega)]
  exact ⟨r.toNat, by omega, by omega⟩
theorem ext_lst (s : ByteArray) (a b : Nat) : lst (s.extract a b) = ((lst s).take b).drop a := by
  unfold lst; rw [ByteArray.data_extract, Array.toList_extract, List.extract_eq_take_drop, List.drop_take]
theorem lst_append (a b : ByteArray) : lst (a ++ b) = lst a ++ lst b := by unfold lst; rw [ByteArray.data_append, Array.toList_append]
theorem lst_inj {a b : ByteArray} (h : lst a = lst b) : a = b := by
  obtain ⟨⟨a⟩⟩ := a
  obtain ⟨⟨b⟩⟩ := b
  simpa [lst] using h
def putTwo (s : ByteArray) (k : Nat) (p q : UInt8) : ByteArray := s.extract 0 k ++ ⟨#[p, q]⟩ ++ s.extract (k + 2) s.size
def putOne (s : ByteArray) (k : Nat) (p : UInt8) : ByteArray := s.extract 0 k ++ ⟨#[p]⟩ ++ s.extract (k + 1) s.size
theorem putTwo_lst (s : ByteArray) (k : Nat) (p q : UInt8) : lst (putTwo s k p q) = (lst s).take k ++ p :: q :: (lst s).drop (k + 2) := by
  unfold putTwo
  rw [lst_append, lst_append, ext_lst, ext_lst, ← lst_len, List.take_length, List.drop_zero, List.append_assoc]; rfl
theorem putOne_lst (s : ByteArray) (k : Nat) (p : UInt8) : lst (putOne s k p) = (lst s).take k ++ p :: (lst s).drop (k + 1) := by
  unfold putOne
  rw [lst_append, lst_append, ext_lst, ext_lst, ← lst_len, List.take_length, List.drop_zero, List.append_assoc]; rfl
theorem split_two (l : List UInt8) (k : Nat) (h : k + 2 ≤ l.length) : l = l.take k ++ l[k] :: l[k + 1] :: l.drop (k + 2) := by
  have h1 : l.drop k = l[k] :: l.drop (k + 1) := List.drop_eq_getElem_cons (by omega)
  have h2 : l.drop (k + 1) = l[k + 1] :: l.drop (k + 2) := List.drop_eq_getElem_cons (by omega)
  rw [← h2, ← h1, List.take_append_drop]
theorem split_one (l : List UInt8) (k : Nat) (h : k + 1 ≤ l.length) : l = l.take k ++ l[k] :: l.drop (k + 1) := by
  have h1 : l.drop k = l[k] :: l.drop (k + 1) := List.drop_eq_getElem_cons (by omega)
  rw [← h1, List.take_append_drop]
theorem two_tells (s : ByteArray) (k : Nat) (p q : UInt8) (h : k + 2 ≤ s.size) : sumV (putTwo s k p q) = sumV s ↔ putTwo s k p q = s := by
  refine ⟨fun e => ?_, fun e => by rw [e]⟩
  have hl : k + 2 ≤ (lst s).length := by rw [lst_len]; exact h
  unfold sumV at e
  rw [putTwo_lst] at e
  conv at e => rhs; rw [split_two (lst s) k hl]
  obtain ⟨rfl, rfl⟩ := (turn_two _ _ _ _ _ _ 0 (by decide)).1 e
  apply lst_inj
  rw [putTwo_lst, ← split_two (lst s) k hl]
theorem one_tells (s : ByteArray) (k : Nat) (p : UInt8) (h : k + 1 ≤ s.size) : sumV (putOne s k p) = sumV s ↔ putOne s k p = s := by
  refine ⟨fun e => ?_, fun e => by rw [e]⟩
  have hl : k + 1 ≤ (lst s).length := by rw [lst_len]; exact h
  unfold sumV at e
  rw [putOne_lst] at e
  conv at e => rhs; rw [split_one (lst s) k hl]
  obtain rfl := (turn_one _ _ _ _ 0 (by decide)).1 e
  apply lst_inj
  rw [putOne_lst, ← split_one (lst s) k hl]
theorem putTwo_size (s : ByteArray) (k : Nat) (p q : UInt8) (h : k + 2 ≤ s.size) : (putTwo s k p q).size = s.size := by
  rw [← lst_len, putTwo_lst, List.length_append, List.length_cons, List.length_cons, List.length_take, List.length_drop, lst_len]; omega
theorem putOne_size (s : ByteArray) (k : Nat) (p : UInt8) (h : k + 1 ≤ s.size) : (putOne s k p).size = s.size := by
  rw [← lst_len, putOne_lst, List.length_append, List.length_cons, List.length_take, List.length_drop, lst_len]; omega
theorem same_tells {a b : ByteArray} (h : sumV a = sumV b ↔ a = b) : (((sumV a : Nat) : Int) == ((sumV b : Nat) : Int)) = (b.toList == a.toList) := by
  rw [Bool.eq_iff_iff, beq_iff_eq, beq_iff_eq]
  constructor
  · intro e; rw [h.1 (by omega)]
  · intro e
    have : a = b := by
      apply lst_inj
      rw [ByteArray.toList_eq, ByteArray.toList_eq] at e
      exact e.symm
    rw [this]
theorem conv_one (w : World) (p : UInt8) : Sem.run Tryd.prog (convert 44 9 (Value.slice (some { block := w.heap.size, off := 0 }) 1 1))
    (w.alloc (Obj.cells #[.int .u8 (p.toNat : Int)] 5)).drew =
    Result.ok (Value.string ⟨#[p]⟩) (w.alloc (Obj.cells #[.int .u8 (p.toNat : Int)] 5)).drew :=
  run_convert_bytes_back (P := Tryd.prog) _ 44 9 5 ⟨w.heap.size, 0, none⟩ 1 [p] Tryd.underlying44 Tryd.underlying5 Tryd.underlying9 (fun j hj => by
    match j, hj with
    | 0, _ => simp [go_sem, Addr.add])
end Go.Proofs.YthedonkjnfeajaaDoor
