/- The frame of a number and a text: the code's and the document's. -/
import Derived.Test.YtgdaihembmcamaaGreatDoorFrameGet
import Derived.Test.YtgdaihembmcamaaGreatDoorWakes
namespace Go.Proofs.YtgdaihembmcamaaGreatDoor
open Go.RowKit
def bzero (N : Nat) : Array Value := madeCells (Value.int .u8 0).cells N
theorem bzero_is (N : Nat) : bzero N = Array.replicate N (.int .u8 0) := by
  unfold bzero madeCells
  refine Array.ext (by simp) fun i h1 h2 => ?_
  have e : (Value.int .u8 0).cells = #[.int .u8 0] := rfl
  simp [e, Nat.mod_one]
theorem make_bytes (N : Nat) (h2 : N ≤ 140737488355328) (w : World) : (Instr.makeSlice 81 (.int .i64 (N : Int)) (.int .i64 (N : Int))).run Tryz.prog w = .ok (.slice (some ⟨w.heap.size, 0, none⟩) N N) (w.alloc (.cells (bzero N) 5)) := by
  obtain ⟨i0, hi0, hz0, hz1, hz2⟩ := info_parts Tryz.info5
  have := run_make (P := Tryz.prog) w 81 5 i0 _ Tryz.underlying81 hi0 hz0 .i64 .i64 (N : Int) (N : Int) (by omega) (by omega) (by rw [hz2]; omega) (by omega)
  rw [this, hz1]
  simp [bzero]
theorem zeros_back (w : World) (g N : Nat) (h : Blk w g 5 (bzero N)) : (convert 81 9 (.slice (some ⟨g, 0, none⟩) N N)).run Tryz.prog w = .ok (.string ⟨Array.replicate N 0⟩) w := by
  rw [bzero_is] at h
  have := run_convert_bytes_back (P := Tryz.prog) w 81 9 5 ⟨g, 0, none⟩ N (List.replicate N 0) Tryz.underlying81 Tryz.underlying5 Tryz.underlying9 (fun j hj => by
    rw [Addr.add_lit, Nat.zero_add, h.cell, Array.getElem?_replicate, if_pos (by simpa using hj)]
    simp)
  rw [List.length_replicate] at this
  rw [this]
  simp
def padS (s : ByteArray) : ByteArray := if s.size % 512 = 0 then s else padB s 512
theorem padAny (s : ByteArray) (w : World) (hs : s.size ≤ 100000) : Calls Tryz.prog 85 #[.string s, .int .i64 512] w fun e w' => e = .returned (.string (padS s)) ∧ Below w.heap.size w w' := by
  unfold padS
  by_cases h : s.size % 512 = 0
  · rw [if_pos h]; exact pad_same s 512 w hs (by omega)
  · rw [if_neg h]; exact pad_more s 512 w hs (by omega) (by omega) h
def headS (n k : Nat) : ByteArray := markS ++ putHi n 8 ++ putHi k 4
def sealS (s : ByteArray) : ByteArray := s ++ digV s
/-- The frame of a number and a text. -/
def putS (n : Nat) (t : ByteArray) : ByteArray := padS (sealS (headS n t.size) ++ sealS t)
theorem putHi_size (x n : Nat) (h1 : 1 ≤ n) (h8 : n ≤ 8) : (putHi x n).size = n := by rw [putHi_yes h1 h8, Lib.size_mk, outB_length]
theorem putLo_size (x n : Nat) (h1 : 1 ≤ n) (h8 : n ≤ 8) : (putLo x n).size = n := by rw [putLo_yes h1 h8, Lib.size_mk, outB_length]
theorem digV_size (s : ByteArray) : (digV s).size = 4 := putLo_size _ 4 (by decide) (by decide)
theorem putHi8 (x : Nat) : (putHi x 8).size = 8 := putHi_size x 8 (by decide) (by decide)
theorem putHi4 (x : Nat) : (putHi x 4).size = 4 := putHi_size x 4 (by decide) (by decide)
theorem headS_size (n k : Nat) : (headS n k).size = 16 := by
  unfold headS
  rw [ByteArray.size_append, ByteArray.size_append, putHi8, putHi4]
  rfl
theorem sealS_size (s : ByteArray) : (sealS s).size = s.size + 4 := by unfold sealS; rw [ByteArray.size_append, digV_size]
theorem seal_any (s : ByteArray) (w : World) (hl : s.size ≤ 140737488355328) (ht : Tab w) : Calls Tryz.prog 86 #[.string s] w fun e w' => e = .returned (.string (sealS s)) ∧ Below w.heap.size w w' := by
  have hd := digV_size s
  go_enter Tryz.func86, Tryz.ntmps86
  go_wp2_with (fail)
  refine (digest_any s _ (by unfold maxLen; omega) ht).mono ?_; rintro e w1 ⟨rfl, hb⟩
  go_wp2
  go_ret
  exact ⟨rfl, hb⟩
theorem put_long (n : Int) (t : ByteArray) (w : World) (h : 65536 < t.size) : Calls Tryz.prog 70 #[.int .u64 n, .string t] w fun e w' => e = .returned (.tuple #[.string ⟨#[]⟩, .int .i64 2]) ∧ w = w' := by
  have hi : (65536 : Int) < t.size := by omega
  go_enter Tryz.func70, Tryz.ntmps70
  go_wp2
  go_ret2
  exact ⟨rfl, rfl⟩
set_option maxHeartbeats 400000 in
theorem put_ok (n : Nat) (t : ByteArray) (w : World) (h : t.size ≤ 65536) (ht : Tab w) : Calls Tryz.prog 70 #[.int .u64 n, .string t] w fun e w' => e = .returned (.tuple #[.string (putS n t), .int .i64 0]) ∧ Below w.heap.size w w' := by
  have hi : (t.size : Int) ≤ 65536 := by omega
  have z1 := headS_size n t.size
  have z2 := sealS_size (headS n t.size)
  have z3 := sealS_size t
  have p1 := putHi8 n
  have p2 := putHi4 t.size
  have pm : markS.size = 4 := rfl
  have HT := Lib.hid ht; clear ht
  have E : Hid (markS ++ putHi n 8 ++ putHi t.size 4 = headS n t.size) := Lib.hid rfl
  go_enter Tryz.func70, Tryz.ntmps70
  go_wp2_with (fail)
  refine (putBig_any n 8 _).mono ?_; rintro e w1 ⟨rfl, hb1⟩
  have H1 := Lib.hid hb1; clear hb1
  go_wp2_with (fail)
  refine (putBig_any t.size 4 _).mono ?_; rintro e w2 ⟨rfl, hb2⟩
  have H2 := Lib.hid (H1.out.trans (hb2.mono H1.out.size)); clear hb2
  rw [show ({ data := #[72, 71, 70, 82] } : ByteArray) ++ putHi n 8 = markS ++ putHi n 8 from rfl]
  go_wp2_with (fail)
  rw [E.out]
  refine (seal_any (headS n t.size) _ (by omega) (HT.out.below H2.out)).mono ?_; rintro e w3 ⟨rfl, hb3⟩
  have H3 := Lib.hid (H2.out.trans (hb3.mono H2.out.size)); clear hb3
  go_wp2_with (fail)
  refine (seal_any t _ (by omega) (HT.out.below H3.out)).mono ?_; rintro e w4 ⟨rfl, hb4⟩
  have H4 := Lib.hid (H3.out.trans (hb4.mono H3.out.size)); clear hb4
  have z5 : (sealS (headS n t.size) ++ sealS t).size ≤ 100000 := by rw [ByteArray.size_append]; omega
  go_wp2_with (fail)
  refine (padAny _ _ z5).mono ?_; rintro e w5 ⟨rfl, hb5⟩
  have H5 := Lib.hid (H4.out.trans (hb5.mono H4.out.size)); clear hb5
  go_wp2
  go_ret2
  exact ⟨rfl, H5.out⟩
theorem refSectors_in (n : Nat) (w : World) (h : n ≤ 65536) : Calls Tryz.prog 49 #[.int .i64 n] w fun e w' => e = .returned (.int .i64 (secF n : Nat)) ∧ w = w' := by
  have h1 : (n : Int) ≤ 65536 := by omega
  go_enter Tryz.func49, Tryz.ntmps49
  go_wp2
  go_ret
  exact ⟨ret_int (by unfold secF; omega), rfl⟩
theorem refSectors_any (n : Int) (w : World) : Calls Tryz.prog 49 #[.int .i64 n] w fun e w' => e = .returned (.int .i64 (secI n)) ∧ w = w' := by
  by_cases h : 0 ≤ n ∧ n ≤ 65536
  · obtain ⟨k, rfl⟩ := Int.eq_ofNat_of_zero_le h.1
    have h' : k ≤ 65536 := by omega
    rw [show secI (k : Int) = (secF k : Nat) from secI_nat k h']
    exact refSectors_in k w h'
  · unfold secI
    rw [if_neg h]
    by_cases h0 : 0 ≤ n
    · have h1 : ¬ n ≤ 65536 := by omega
      clear h
      go_enter Tryz.func49, Tryz.ntmps49
      go_wp2
      go_ret
      exact ⟨rfl, rfl⟩
    · clear h
      go_enter Tryz.func49, Tryz.ntmps49
      go_wp2
      go_ret
      exact ⟨rfl, rfl⟩
/-- What Put answers. -/
def putV (n : Nat) (t : ByteArray) : Value := if t.size ≤ 65536 then .tuple #[.string (putS n t), .int .i64 0] else .tuple #[.string ⟨#[]⟩, .int .i64 2]
end Go.Proofs.YtgdaihembmcamaaGreatDoor
