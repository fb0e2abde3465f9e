/- Bytes taken off a text's front; a number read of them. -/
import Derived.Test.YthedonkjnfeajaaDoorImM
namespace Go.Proofs.YthedonkjnfeajaaDoor
open Go.RowKit
/-- The first bytes of a text, as many as there are; what is left. -/
def takS (n : Nat) (s : ByteArray) : ByteArray := s.extract 0 (min n s.size)
def drpS (n : Nat) (s : ByteArray) : ByteArray := s.extract (min n s.size) s.size
theorem lst_takS (n : Nat) (s : ByteArray) : lst (takS n s) = (lst s).take n := by
  unfold takS
  rw [ext_lst, List.drop_zero]
  by_cases h : n ≤ s.size
  · rw [Nat.min_eq_left h]
  · rw [Nat.min_eq_right (by omega), ← lst_len, List.take_length, List.take_of_length_le (by rw [lst_len]; omega)]
theorem lst_drpS (n : Nat) (s : ByteArray) : lst (drpS n s) = (lst s).drop n := by
  unfold drpS
  rw [ext_lst, ← lst_len, List.take_length]
  by_cases h : n ≤ s.size
  · rw [lst_len, Nat.min_eq_left h]
  · rw [lst_len, Nat.min_eq_right (by omega), List.drop_of_length_le (by rw [lst_len]; exact Nat.le_refl _), List.drop_of_length_le (by rw [lst_len]; omega)]
theorem drpS_size (n : Nat) (s : ByteArray) : (drpS n s).size ≤ s.size := by
  rw [← lst_len, ← lst_len, lst_drpS, List.length_drop]; omega
theorem takS_size (n : Nat) (s : ByteArray) : (takS n s).size ≤ s.size ∧ (takS n s).size = min n s.size := by
  rw [← lst_len, ← lst_len s, lst_takS, List.length_take]; omega
set_option maxHeartbeats 1000000 in
theorem take_any (n : Nat) (s : ByteArray) (B : Nat) (w : World) (hs : s.size ≤ maxLen) (hn : n ≤ 100000) (hc : w.cell? ⟨B, 0, none⟩ = some (.string s)) (hf : w.frozen? ⟨B, 0, none⟩ = false) :
    Calls Tryd.prog 60 #[.int .i64 (n : Int), .pointer (some ⟨B, 0, none⟩)] w fun e w' => e = .returned (.string (takS n s)) ∧ w' = w.setCell ⟨B, 0, none⟩ (.string (drpS n s)) := by
  unfold maxLen at hs
  have HE := Lib.hid (show (min (n : Int) (s.size : Int)).toNat = min n s.size by omega)
  go_enter Tryd.func60, Tryd.ntmps60
  go_wp2_with (fail)
  go_ret
  unfold takS drpS
  rw [← HE.out]
  exact ⟨rfl, rfl⟩
theorem num_eq (n : Nat) (s : ByteArray) (h1 : 1 ≤ n) (h8 : n ≤ 8) : bigR (takS n s) 0 n = numL n (lst s) := by
  obtain ⟨_, hz⟩ := takS_size n s
  unfold numL
  by_cases h : n ≤ s.size
  · have hk : okB (takS n s) ((0 : Nat) : Int) n = true := okB_yes ⟨by omega, by omega, by omega, by omega⟩
    have e := bigR_valL hk
    rw [if_pos (by rw [lst_len]; exact h)]
    rw [List.drop_zero, lst_takS, List.take_take, Nat.min_self] at e
    exact e
  · rw [if_neg (by rw [lst_len]; exact h)]
    exact bigR_no (okB_no (by omega))
/-- What a reader keeps in its blocks: the text that is left, and the way to take of it. -/
structure RdW (B C : Nat) (s : ByteArray) (w : World) : Prop where
  left : Blk w B 9 #[.string s]
  way : Blk w C 70 #[.func (.func 60) #[] #[.pointer (some ⟨B, 0, none⟩)]]
theorem RdW.ne {B C : Nat} {s : ByteArray} {w : World} (h : RdW B C s w) : B ≠ C := h.left.apart h.way (by decide)
theorem RdW.below {B C : Nat} {s : ByteArray} {w w' : World} (h : RdW B C s w) (hb : Below w.heap.size w w') : RdW B C s w' := ⟨h.left.below hb h.left.lt, h.way.below hb h.way.lt⟩
theorem RdW.put {B C : Nat} {s : ByteArray} {w : World} (h : RdW B C s w) (s' : ByteArray) : RdW B C s' (w.setCell ⟨B, 0, none⟩ (.string s')) :=
  ⟨h.left.put 0 _, h.way.far (fun e => h.ne e.symm) _⟩
theorem RdW.alloc {B C : Nat} {s : ByteArray} {w : World} (h : RdW B C s w) (o : Obj) : RdW B C s (w.alloc o) := ⟨h.left.alloc o, h.way.alloc o⟩
theorem RdW.far {B C : Nat} {s : ByteArray} {w : World} (h : RdW B C s w) {p : Addr} (h1 : B ≠ p.block) (h2 : C ≠ p.block) (u : Value) : RdW B C s (w.setCell p u) := ⟨h.left.far h1 u, h.way.far h2 u⟩
/-- What is left of a text is another one; all other blocks are as they were. -/
def Took (B : Nat) (w w' : World) : Prop := Only (fun k => k = B) w w'
theorem take_rd (n : Nat) (s : ByteArray) (B C : Nat) (w : World) (hs : s.size ≤ maxLen) (hn : n ≤ 100000) (h : RdW B C s w) :
    Calls Tryd.prog 60 #[.int .i64 (n : Int), .pointer (some ⟨B, 0, none⟩)] w fun e w' => e = .returned (.string (takS n s)) ∧ RdW B C (drpS n s) w' ∧ Took B w w' :=
  (take_any n s B w hs hn (h.left.cell 0) (h.left.free 0)).mono fun _ _ ⟨e1, e2⟩ => ⟨e1, by subst e2; exact h.put _, by subst e2; exact Only.setCell (p := ⟨B, 0, none⟩) (Only.refl (fun k => k = B) w) (.inl rfl) _⟩
set_option maxHeartbeats 1000000 in
theorem number_any (n : Nat) (s : ByteArray) (B C : Nat) (w : World) (hs : s.size ≤ maxLen) (h1 : 1 ≤ n) (h8 : n ≤ 8) (h : RdW B C s w) :
    Calls Tryd.prog 42 #[.int .i64 (n : Int), .pointer (some ⟨C, 0, none⟩)] w fun e w' => e = .returned (.int .u64 (numL n (lst s) : Nat)) ∧ RdW B C (drpS n s) w' ∧ Took B w w' := by
  have hc := h.way.cell 0
  have HN := Lib.hid (num_eq n s h1 h8)
  have HS := Lib.hid (Nat.le_trans (takS_size n s).1 hs)
  have HT := Lib.hid (take_rd n s B C w hs (by omega) h)
  clear h
  go_enter Tryd.func42, Tryd.ntmps42
  go_wp2_with (fail)
  refine HT.out.mono ?_; rintro e w1 ⟨rfl, hr, ho⟩
  have HR := Lib.hid hr; have HO := Lib.hid ho
  clear hr ho hc
  go_wp2_with (fail)
  refine (big_any (takS n s) 0 (n : Int) w1 HS.out).mono ?_; rintro e w2 ⟨rfl, hb⟩
  have HB := Lib.hid hb; clear hb
  go_wp2_with (fail)
  go_ret
  exact ⟨by rw [← HN.out]; rfl, HR.out.below HB.out, HO.out.below HB.out⟩
end Go.Proofs.YthedonkjnfeajaaDoor
