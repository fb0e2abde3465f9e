/- The call of CrcTurned returns true. -/
import Derived.Test.YtlkjkichihfkcaaDoorCrc
import Derived.RegionTactic
import Derived.BigRegion
namespace Go.Proofs.YtlkjkichihfkcaaDoor
open Go.RowKit
theorem place_at (n : Int) (d : Int) (hd : 1 ≤ d ∧ d ≤ 20000) : ∃ k : Nat, wrap64 ((IntKind.u64.wrap n).tmod d) = k ∧ k < d := by
  have h0 := IntKind.wrap_u64 n
  have h1 : 0 ≤ IntKind.u64.wrap n := by rw [h0]; omega
  rw [Int.tmod_eq_emod_of_nonneg h1]
  have h2 := Int.emod_nonneg (IntKind.u64.wrap n) (show d ≠ 0 by omega)
  have h3 := Int.emod_lt_of_pos (IntKind.u64.wrap n) (show 0 < d by omega)
  generalize IntKind.u64.wrap n % d = r at h2 h3
  rw [IntWalk.wrap64_in r (by omega)]
  exact ⟨r.toNat, by omega, by omega⟩
theorem ext_lst (s : ByteArray) (a b : Nat) : lst (s.extract a b) = ((lst s).take b).drop a := by
  unfold lst; rw [ByteArray.data_extract, Array.toList_extract, List.extract_eq_take_drop, List.drop_take]
theorem lst_append (a b : ByteArray) : lst (a ++ b) = lst a ++ lst b := by unfold lst; rw [ByteArray.data_append, Array.toList_append]
theorem lst_inj {a b : ByteArray} (h : lst a = lst b) : a = b := by
  obtain ⟨⟨a⟩⟩ := a
  obtain ⟨⟨b⟩⟩ := b
  simpa [lst] using h
def putTwo (s : ByteArray) (k : Nat) (p q : UInt8) : ByteArray := s.extract 0 k ++ ⟨#[p, q]⟩ ++ s.extract (k + 2) s.size
def putOne (s : ByteArray) (k : Nat) (p : UInt8) : ByteArray := s.extract 0 k ++ ⟨#[p]⟩ ++ s.extract (k + 1) s.size
theorem putTwo_lst (s : ByteArray) (k : Nat) (p q : UInt8) : lst (putTwo s k p q) = (lst s).take k ++ p :: q :: (lst s).drop (k + 2) := by
  unfold putTwo
  rw [lst_append, lst_append, ext_lst, ext_lst, ← lst_len, List.take_length, List.drop_zero, List.append_assoc]; rfl
theorem putOne_lst (s : ByteArray) (k : Nat) (p : UInt8) : lst (putOne s k p) = (lst s).take k ++ p :: (lst s).drop (k + 1) := by
  unfold putOne
  rw [lst_append, lst_append, ext_lst, ext_lst, ← lst_len, List.take_length, List.drop_zero, List.append_assoc]; rfl
theorem split_two (l : List UInt8) (k : Nat) (h : k + 2 ≤ l.length) : l = l.take k ++ l[k] :: l[k + 1] :: l.drop (k + 2) := by
  have h1 : l.drop k = l[k] :: l.drop (k + 1) := List.drop_eq_getElem_cons (by omega)
  have h2 : l.drop (k + 1) = l[k + 1] :: l.drop (k + 2) := List.drop_eq_getElem_cons (by omega)
  rw [← h2, ← h1, List.take_append_drop]
theorem split_one (l : List UInt8) (k : Nat) (h : k + 1 ≤ l.length) : l = l.take k ++ l[k] :: l.drop (k + 1) := by
  have h1 : l.drop k = l[k] :: l.drop (k + 1) := List.drop_eq_getElem_cons (by omega)
  rw [← h1, List.take_append_drop]
theorem two_tells (s : ByteArray) (k : Nat) (p q : UInt8) (h : k + 2 ≤ s.size) : sumV (putTwo s k p q) = sumV s ↔ putTwo s k p q = s := by
  refine ⟨fun e => ?_, fun e => by rw [e]⟩
  have hl : k + 2 ≤ (lst s).length := by rw [lst_len]; exact h
  unfold sumV at e
  rw [putTwo_lst] at e
  conv at e => rhs; rw [split_two (lst s) k hl]
  obtain ⟨rfl, rfl⟩ := (turn_two _ _ _ _ _ _ 0 (by decide)).1 e
  apply lst_inj
  rw [putTwo_lst, ← split_two (lst s) k hl]
theorem one_tells (s : ByteArray) (k : Nat) (p : UInt8) (h : k + 1 ≤ s.size) : sumV (putOne s k p) = sumV s ↔ putOne s k p = s := by
  refine ⟨fun e => ?_, fun e => by rw [e]⟩
  have hl : k + 1 ≤ (lst s).length := by rw [lst_len]; exact h
  unfold sumV at e
  rw [putOne_lst] at e
  conv at e => rhs; rw [split_one (lst s) k hl]
  obtain rfl := (turn_one _ _ _ _ 0 (by decide)).1 e
  apply lst_inj
  rw [putOne_lst, ← split_one (lst s) k hl]
theorem putTwo_size (s : ByteArray) (k : Nat) (p q : UInt8) (h : k + 2 ≤ s.size) : (putTwo s k p q).size = s.size := by
  rw [← lst_len, putTwo_lst, List.length_append, List.length_cons, List.length_cons, List.length_take, List.length_drop, lst_len]; omega
theorem putOne_size (s : ByteArray) (k : Nat) (p : UInt8) (h : k + 1 ≤ s.size) : (putOne s k p).size = s.size := by
  rw [← lst_len, putOne_lst, List.length_append, List.length_cons, List.length_take, List.length_drop, lst_len]; omega
theorem same_tells {a b : ByteArray} (h : sumV a = sumV b ↔ a = b) : (((sumV a : Nat) : Int) == ((sumV b : Nat) : Int)) = (b.toList == a.toList) := by
  rw [Bool.eq_iff_iff, beq_iff_eq, beq_iff_eq]
  constructor
  · intro e; rw [h.1 (by omega)]
  · intro e
    have : a = b := by
      apply lst_inj
      rw [ByteArray.toList_eq, ByteArray.toList_eq] at e
      exact e.symm
    rw [this]
theorem conv_two (w : World) (p q : UInt8) : Sem.run Tryd.prog (convert 32 9 (Value.slice (some { block := w.heap.size + 1, off := 0 }) 2 2))
    ((w.alloc (Obj.cells #[.int .u8 (p.toNat : Int), .int .u8 (q.toNat : Int)] 30)).alloc (Obj.cells #[.int .u8 (p.toNat : Int), .int .u8 (q.toNat : Int)] 5)).drew =
    Result.ok (Value.string ⟨#[p, q]⟩) ((w.alloc (Obj.cells #[.int .u8 (p.toNat : Int), .int .u8 (q.toNat : Int)] 30)).alloc (Obj.cells #[.int .u8 (p.toNat : Int), .int .u8 (q.toNat : Int)] 5)).drew :=
  run_convert_bytes_back (P := Tryd.prog) _ 32 9 5 ⟨w.heap.size + 1, 0, none⟩ 2 [p, q] Tryd.underlying32 Tryd.underlying5 Tryd.underlying9 (fun j hj => by
    match j, hj with
    | 0, _ => simp [go_sem, Addr.add]
    | 1, _ => simp [go_sem, Addr.add])
theorem conv_one (w : World) (p : UInt8) : Sem.run Tryd.prog (convert 32 9 (Value.slice (some { block := w.heap.size, off := 0 }) 1 1))
    (w.alloc (Obj.cells #[.int .u8 (p.toNat : Int)] 5)).drew =
    Result.ok (Value.string ⟨#[p]⟩) (w.alloc (Obj.cells #[.int .u8 (p.toNat : Int)] 5)).drew :=
  run_convert_bytes_back (P := Tryd.prog) _ 32 9 5 ⟨w.heap.size, 0, none⟩ 1 [p] Tryd.underlying32 Tryd.underlying5 Tryd.underlying9 (fun j hj => by
    match j, hj with
    | 0, _ => simp [go_sem, Addr.add])
set_option maxHeartbeats 1000000 in
theorem turned_in (s : ByteArray) (n : Int) (p q : UInt8) (w : World) (h2 : 2 ≤ s.size) (hs : s.size ≤ 20000) (ht : Tab w) :
    Calls Tryd.prog 6 #[.string s, .int .i64 n, .agg #[.int .u8 (p.toNat : Int), .int .u8 (q.toNat : Int)]] w fun e w' => e = .returned (.bool true) ∧ Below w.heap.size w w' := by
  obtain ⟨k, hk, hk1⟩ := place_at n ((s.size : Int) - 1) (by omega)
  have HK := Lib.hid hk; clear hk
  have hk2 : (0 : Int) ≤ k := by omega
  have hk3 : (k : Int) ≤ s.size := by omega
  have hk4 : (k : Int) + 2 ≤ s.size := by omega
  have hk5 : (k : Int) + 1 ≤ s.size := by omega
  have T2 := Lib.hid (same_tells (two_tells s k p q (by omega)))
  have T1 := Lib.hid (same_tells (one_tells s k p (by omega)))
  have Z2 := putTwo_size s k p q (by omega)
  have Z1 := putOne_size s k p (by omega)
  have L2 : (putTwo s k p q).size ≤ maxLen := by unfold maxLen; omega
  have L1 : (putOne s k p).size ≤ maxLen := by unfold maxLen; omega
  have L0 : s.size ≤ maxLen := by unfold maxLen; omega
  clear Z1 Z2
  have hcv := conv_two w p q
  go_enter Tryd.func6, Tryd.ntmps6
  go_wp2_with (fail)
  rw [HK.out]
  go_region
  clear hcv
  have hb1 : Below w.heap.size w ((w.alloc (Obj.cells #[.int .u8 (p.toNat : Int), .int .u8 (q.toNat : Int)] 30)).alloc (Obj.cells #[.int .u8 (p.toNat : Int), .int .u8 (q.toNat : Int)] 5)).drew :=
    (((Below.refl _ _).alloc (Nat.le_refl _) _).alloc (by simp) _).drew
  have hc1 : ((w.alloc (Obj.cells #[.int .u8 (p.toNat : Int), .int .u8 (q.toNat : Int)] 30)).alloc (Obj.cells #[.int .u8 (p.toNat : Int), .int .u8 (q.toNat : Int)] 5)).drew.cell? ⟨w.heap.size, 0, none⟩ = some (.int .u8 (p.toNat : Int)) := by simp [go_sem]
  go_wp2_with (fail)
  generalize ((w.alloc (Obj.cells #[.int .u8 (p.toNat : Int), .int .u8 (q.toNat : Int)] 30)).alloc (Obj.cells #[.int .u8 (p.toNat : Int), .int .u8 (q.toNat : Int)] 5)).drew = w1 at hb1 hc1 ⊢
  have ht1 := ht.below hb1
  have H1 := Lib.hid hb1; clear hb1
  have hcv1 := conv_one w1 p
  go_region
  clear hcv1 hc1
  have hb2 : Below w1.heap.size w1 (w1.alloc (Obj.cells #[.int .u8 (p.toNat : Int)] 5)).drew := ((Below.refl _ _).alloc (Nat.le_refl _) _).drew
  go_wp2_with (fail)
  generalize (w1.alloc (Obj.cells #[.int .u8 (p.toNat : Int)] 5)).drew = w2 at hb2 ⊢
  have ht2 := ht1.below hb2
  have H2 := Lib.hid hb2; clear hb2
  rw [show s.extract 0 k ++ { data := #[p, q] } ++ s.extract (k + 2) s.size = putTwo s k p q from rfl, show s.extract 0 k ++ { data := #[p] } ++ s.extract (k + 1) s.size = putOne s k p from rfl]
  generalize putTwo s k p q = t at T2 L2 ⊢
  generalize putOne s k p = u at T1 L1 ⊢
  obtain ⟨b2, hb2⟩ : ∃ b, (s.toList == t.toList) = b := ⟨_, rfl⟩
  obtain ⟨b1, hb1⟩ : ∃ b, (s.toList == u.toList) = b := ⟨_, rfl⟩
  have hs2 := T2.out.trans hb2
  have hs1 := T1.out.trans hb1
  have B2 := Lib.hid hb2
  have B1 := Lib.hid hb1
  have S2 := Lib.hid hs2
  have S1 := Lib.hid hs1
  clear hb2 hb1 hs2 hs1
  refine (sum_any _ _ L2 ht2).mono ?_; rintro e w' ⟨rfl, rfl⟩
  go_wp2_with (fail)
  refine (sum_any _ _ L0 ht2).mono ?_; rintro e w' ⟨rfl, rfl⟩
  have hb2 := B2.out
  have hs2 := S2.out
  have hb1 := B1.out
  have hs1 := S1.out
  go_wp2_with (fail)
  refine (sum_any _ _ L1 ht2).mono ?_; rintro e w' ⟨rfl, rfl⟩
  go_wp2_with (fail)
  refine (sum_any _ _ L0 ht2).mono ?_; rintro e w' ⟨rfl, rfl⟩
  go_wp2_with (fail)
  refine (wakes_any _ ht2).mono ?_; rintro e w5 ⟨rfl, hb5⟩
  have H5 := Lib.hid hb5; clear hb5
  go_wp2
  go_ret
  have h12 := H1.out.trans (H2.out.mono H1.out.size)
  exact ⟨rfl, h12.trans (H5.out.mono h12.size)⟩
theorem turned_out (s : ByteArray) (n : Int) (p q : UInt8) (w : World) (hs : s.size ≤ maxLen) (h : ¬ (2 ≤ s.size ∧ s.size ≤ 20000)) (ht : Tab w) :
    Calls Tryd.prog 6 #[.string s, .int .i64 n, .agg #[.int .u8 (p.toNat : Int), .int .u8 (q.toNat : Int)]] w fun e w' => e = .returned (.bool true) ∧ Below w.heap.size w w' := by
  unfold maxLen at hs
  have hb : Below w.heap.size w (w.alloc (Obj.cells #[.int .u8 (p.toNat : Int), .int .u8 (q.toNat : Int)] 30)) := (Below.refl _ _).alloc (Nat.le_refl _) _
  have ht1 := ht.below hb
  have H1 := Lib.hid hb; clear hb
  by_cases h1 : 2 ≤ s.size
  · have h2 : 20000 < s.size := by omega
    clear h
    go_enter Tryd.func6, Tryd.ntmps6
    go_wp2_with (fail)
    refine (wakes_any _ ht1).mono ?_; rintro e w3 ⟨rfl, hb3⟩
    have H3 := Lib.hid hb3; clear hb3
    go_wp2
    go_ret
    exact ⟨rfl, H1.out.trans (H3.out.mono H1.out.size)⟩
  · have h2 : s.size < 2 := by omega
    clear h h1
    go_enter Tryd.func6, Tryd.ntmps6
    go_wp2_with (fail)
    refine (wakes_any _ ht1).mono ?_; rintro e w3 ⟨rfl, hb3⟩
    have H3 := Lib.hid hb3; clear hb3
    go_wp2
    go_ret
    exact ⟨rfl, H1.out.trans (H3.out.mono H1.out.size)⟩
theorem turned_any (s : ByteArray) (n : Int) (p q : UInt8) (w : World) (hs : s.size ≤ maxLen) (ht : Tab w) :
    Calls Tryd.prog 6 #[.string s, .int .i64 n, .agg #[.int .u8 (p.toNat : Int), .int .u8 (q.toNat : Int)]] w fun e w' => e = .returned (.bool true) ∧ Below w.heap.size w w' := by
  by_cases h : 2 ≤ s.size ∧ s.size ≤ 20000
  · exact turned_in s n p q w h.1 h.2 ht
  · exact turned_out s n p q w hs h ht
end Go.Proofs.YtlkjkichihfkcaaDoor
