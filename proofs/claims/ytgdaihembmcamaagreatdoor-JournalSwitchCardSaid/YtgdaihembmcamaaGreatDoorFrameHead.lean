/- The head of a frame, as the program's reader has it. -/
import Derived.Test.YtgdaihembmcamaaGreatDoorFrameRead
namespace Go.Proofs.YtgdaihembmcamaaGreatDoor
open Go.RowKit
def markS : ByteArray := ⟨#[72, 71, 70, 82]⟩
def numF (s : ByteArray) : Nat := bigV (readV s 4) 8
def lenF (s : ByteArray) : Nat := bigV (readV s 12) 4
theorem numF_lt (s : ByteArray) : numF s < 18446744073709551616 := bigV_u64 _ (readV_lt s 4) 8 (by decide)
theorem lenF_lt (s : ByteArray) : lenF s < 4294967296 := bigV_lt _ (readV_lt s 12) 4
/-- A text begins as a frame does. -/
def Begun (s : ByteArray) : Prop := 20 ≤ s.size ∧ s.extract 0 4 = markS
theorem byt_ext (s : ByteArray) (a b i : Nat) (h : a + i < b) : byt (s.extract a b) i = byt s (a + i) := by
  unfold byt
  rw [ext_list, List.getD, List.getD, List.getElem?_drop, List.getElem?_take, if_pos h]
theorem big_ext (s : ByteArray) (a b k n : Nat) (h1 : 1 ≤ n) (h8 : n ≤ 8) (h : a + k + n ≤ b) (hb : b ≤ s.size) : bigR (s.extract a b) k n = bigV (readV s (a + k)) n := by
  have hz := ext_size s a b hb
  rw [bigR_yes (okB_yes (by omega))]
  refine bigV_congr _ _ n fun i hi => ?_
  unfold readV
  rw [byt_ext s a b (k + i) (by omega), Nat.add_assoc]
theorem prefix_mark (s : ByteArray) : Lib.hasPrefix s.data.toList [72, 71, 70, 82] = decide (4 ≤ s.size ∧ s.extract 0 4 = markS) := by
  have := Lib.hasPrefix_raw s markS
  rw [show markS.data.toList = [72, 71, 70, 82] from rfl] at this
  rw [← this, beqS, show markS.size = 4 from rfl]
  by_cases h1 : 4 ≤ s.size <;> by_cases h2 : s.extract 0 4 = markS <;> simp [h1, h2]
set_option maxHeartbeats 400000 in
theorem head_none (b : Nat) (s : ByteArray) (w : World) (h : Rd w b s) (hn : ¬ Begun s) :
    Calls Tryz.prog 107 #[.pointer (some ⟨b, 0, none⟩)] w fun e w' => e = up 50 ∧ Only (itsR b) w w' := by
  have hc := h.cell
  have hp := prefix_mark s
  by_cases hm : 4 ≤ s.size ∧ s.extract 0 4 = markS
  · have h20 : ¬ 16 + 4 ≤ s.size := fun hh => hn ⟨by omega, hm.2⟩
    rw [decide_eq_true hm] at hp
    have H := Lib.hid h; clear h
    clear hm hn
    go_enter Tryz.func107, Tryz.ntmps107
    go_wp2_with (fail)
    refine (Tryz.strings_HasPrefix s _ _).mono ?_; rintro e w' ⟨rfl, rfl⟩
    rw [hp]
    go_wp2_with (fail)
    refine (must_yes 50 _).mono ?_; rintro e w' ⟨rfl, rfl⟩
    go_wp2_with (fail)
    refine (sealed_short b s 16 _ H.out h20).mono ?_; rintro e w' ⟨rfl, ho⟩
    go_wp2
    exact ⟨rfl, rfl, ho⟩
  · rw [decide_eq_false hm] at hp
    have H := Lib.hid h; clear h
    clear hm hn
    go_enter Tryz.func107, Tryz.ntmps107
    go_wp2_with (fail)
    refine (Tryz.strings_HasPrefix s _ _).mono ?_; rintro e w' ⟨rfl, rfl⟩
    rw [hp]
    go_wp2_with (fail)
    refine (must_no 50 _).mono ?_; rintro e w' ⟨rfl, rfl⟩
    go_wp2
    exact ⟨rfl, rfl, Only.refl _ _⟩
set_option maxHeartbeats 400000 in
theorem head_sum (b : Nat) (s : ByteArray) (w : World) (h : Rd w b s) (hn : Begun s) (hs : s.size ≤ maxLen) (ht : Tab w) (hb : b ≠ gTab) (hd : ¬ s.extract 16 20 = digV (s.extract 0 16)) :
    Calls Tryz.prog 107 #[.pointer (some ⟨b, 0, none⟩)] w fun e w' => e = up 51 ∧ Only (itsR b) w w' := by
  have hc := h.cell
  have hp := prefix_mark s
  have h20 := hn.1
  rw [decide_eq_true (show 4 ≤ s.size ∧ s.extract 0 4 = markS from ⟨by omega, hn.2⟩)] at hp
  have H := Lib.hid h; clear h
  have HD := Lib.hid hd; clear hd
  clear hn
  go_enter Tryz.func107, Tryz.ntmps107
  go_wp2_with (fail)
  refine (Tryz.strings_HasPrefix s _ _).mono ?_; rintro e w' ⟨rfl, rfl⟩
  rw [hp]
  go_wp2_with (fail)
  refine (must_yes 50 _).mono ?_; rintro e w' ⟨rfl, rfl⟩
  go_wp2_with (fail)
  refine (sealed_bad b s 16 _ H.out h20 hs ht hb HD.out).mono ?_; rintro e w' ⟨rfl, ho⟩
  go_wp2
  exact ⟨rfl, rfl, ho⟩
theorem RdOut.side {b : Nat} {w w1 w2 : World} {r : ByteArray} (h : RdOut b w r w1) {o : Obj} (k : Only (itsR w1.heap.size) (w1.alloc o) w2) : RdOut b w r w2 := by
  have hlt := Blk.lt h.1
  refine ⟨Blk.only (Blk.alloc h.1 o) k (fun e => by unfold itsR at e; omega), ((h.2.alloc o).trans k fun i hi => ?_)⟩
  unfold itsR at hi
  have := h.2.size
  exact .inr (by omega)
theorem cut2 (s : ByteArray) (a b c d : Nat) (hd : a + d ≤ b) : (s.extract a b).extract c d = s.extract (a + c) (a + d) := by
  rw [ByteArray.extract_extract]; congr 1; omega
set_option maxHeartbeats 400000 in
theorem head_ok (b : Nat) (s : ByteArray) (w : World) (h : Rd w b s) (hn : Begun s) (hs : s.size ≤ maxLen) (ht : Tab w) (hb : b ≠ gTab) (hd : s.extract 16 20 = digV (s.extract 0 16)) (hl : lenF s ≤ 65536) :
    Calls Tryz.prog 107 #[.pointer (some ⟨b, 0, none⟩)] w fun e w' => e = .returned (.tuple #[.int .u64 (numF s), .int .i64 (lenF s)]) ∧ RdOut b w (s.extract 20 s.size) w' := by
  have hc := h.cell
  have hp := prefix_mark s
  have h20 := hn.1
  rw [decide_eq_true (show 4 ≤ s.size ∧ s.extract 0 4 = markS from ⟨by omega, hn.2⟩)] at hp
  have z16 := ext_size s 0 16 (by omega)
  have e1 : (s.extract 0 16).extract 4 (s.extract 0 16).size = s.extract 4 16 := by rw [z16]; exact cut2 s 0 16 4 16 (by omega)
  have z12 := ext_size s 4 16 (by omega)
  have e2 : (s.extract 4 16).extract 8 (s.extract 4 16).size = s.extract 12 16 := by rw [z12]; exact cut2 s 4 16 8 12 (by omega)
  have z4 := ext_size s 12 16 (by omega)
  have n1 : bigR ((s.extract 4 16).extract 0 8) 0 8 = numF s := by
    rw [cut2 s 4 16 0 8 (by omega)]
    exact big_ext s 4 12 0 8 (by omega) (by omega) (by omega) (by omega)
  have n2 : bigR ((s.extract 12 16).extract 0 4) 0 4 = lenF s := by
    rw [cut2 s 12 16 0 4 (by omega)]
    exact big_ext s 12 16 0 4 (by omega) (by omega) (by omega) (by omega)
  have l1 := numF_lt s
  have E1 := Lib.hid e1; have E2 := Lib.hid e2; have N1 := Lib.hid n1; have N2 := Lib.hid n2; clear e1 e2 n1 n2
  have H := Lib.hid h; clear h
  have HD := Lib.hid hd; clear hd
  clear hn
  go_enter Tryz.func107, Tryz.ntmps107
  go_wp2_with (fail)
  refine (Tryz.strings_HasPrefix s _ _).mono ?_; rintro e w' ⟨rfl, rfl⟩
  rw [hp]
  go_wp2_with (fail)
  refine (must_yes 50 _).mono ?_; rintro e w' ⟨rfl, rfl⟩
  go_wp2_with (fail)
  refine (sealed_yes b s 16 _ H.out h20 hs ht hb HD.out).mono ?_; rintro e w1 ⟨rfl, ho⟩
  have P1 := Lib.hid ho; clear ho
  go_wp2_with (fail)
  have R1 : Hid (Rd (w1.alloc (Obj.cells #[Value.string (s.extract 0 16)] 154)) w1.heap.size (s.extract 0 16)) := Lib.hid (Blk.new w1 154 _)
  refine (take_yes _ _ 4 _ R1.out (by omega)).mono ?_; rintro e w' ⟨rfl, rfl⟩
  rw [E1.out]
  have R2 : Hid (Rd (w1.alloc (Obj.cells #[Value.string (s.extract 4 16)] 154)) w1.heap.size (s.extract 4 16)) := Lib.hid (Blk.new w1 154 _)
  go_wp2_with (fail)
  refine (number_yes _ _ 8 _ 18446744073709551615 _ R2.out (by omega) (by omega) (by omega) N1.out (by omega)).mono ?_; rintro e w2 ⟨rfl, ho⟩
  rw [E2.out] at ho
  have R3 := Lib.hid ho; clear ho
  go_wp2_with (fail)
  refine (number_yes _ _ 4 _ 65536 _ R3.out.1 (by omega) (by omega) (by omega) N2.out (by omega)).mono ?_; rintro e w3 ⟨rfl, ho⟩
  have R4 := Lib.hid (P1.out.side (R3.out.2.trans ho.2 fun _ hi => .inl hi)); clear ho
  go_wp2
  go_ret2
  exact ⟨rfl, R4.out⟩
set_option maxHeartbeats 400000 in
theorem head_long (b : Nat) (s : ByteArray) (w : World) (h : Rd w b s) (hn : Begun s) (hs : s.size ≤ maxLen) (ht : Tab w) (hb : b ≠ gTab) (hd : s.extract 16 20 = digV (s.extract 0 16)) (hl : ¬ lenF s ≤ 65536) :
    Calls Tryz.prog 107 #[.pointer (some ⟨b, 0, none⟩)] w fun e w' => e = up 50 ∧ Only (itsR b) w w' := by
  have hc := h.cell
  have hp := prefix_mark s
  have h20 := hn.1
  rw [decide_eq_true (show 4 ≤ s.size ∧ s.extract 0 4 = markS from ⟨by omega, hn.2⟩)] at hp
  have z16 := ext_size s 0 16 (by omega)
  have e1 : (s.extract 0 16).extract 4 (s.extract 0 16).size = s.extract 4 16 := by rw [z16]; exact cut2 s 0 16 4 16 (by omega)
  have z12 := ext_size s 4 16 (by omega)
  have e2 : (s.extract 4 16).extract 8 (s.extract 4 16).size = s.extract 12 16 := by rw [z12]; exact cut2 s 4 16 8 12 (by omega)
  have z4 := ext_size s 12 16 (by omega)
  have n1 : bigR ((s.extract 4 16).extract 0 8) 0 8 = numF s := by
    rw [cut2 s 4 16 0 8 (by omega)]
    exact big_ext s 4 12 0 8 (by omega) (by omega) (by omega) (by omega)
  have n2 : bigR ((s.extract 12 16).extract 0 4) 0 4 = lenF s := by
    rw [cut2 s 12 16 0 4 (by omega)]
    exact big_ext s 12 16 0 4 (by omega) (by omega) (by omega) (by omega)
  have l1 := numF_lt s
  have E1 := Lib.hid e1; have E2 := Lib.hid e2; have N1 := Lib.hid n1; have N2 := Lib.hid n2; clear e1 e2 n1 n2
  have H := Lib.hid h; clear h
  have HD := Lib.hid hd; clear hd
  clear hn
  go_enter Tryz.func107, Tryz.ntmps107
  go_wp2_with (fail)
  refine (Tryz.strings_HasPrefix s _ _).mono ?_; rintro e w' ⟨rfl, rfl⟩
  rw [hp]
  go_wp2_with (fail)
  refine (must_yes 50 _).mono ?_; rintro e w' ⟨rfl, rfl⟩
  go_wp2_with (fail)
  refine (sealed_yes b s 16 _ H.out h20 hs ht hb HD.out).mono ?_; rintro e w1 ⟨rfl, ho⟩
  have P1 := Lib.hid ho; clear ho
  go_wp2_with (fail)
  have R1 : Hid (Rd (w1.alloc (Obj.cells #[Value.string (s.extract 0 16)] 154)) w1.heap.size (s.extract 0 16)) := Lib.hid (Blk.new w1 154 _)
  refine (take_yes _ _ 4 _ R1.out (by omega)).mono ?_; rintro e w' ⟨rfl, rfl⟩
  rw [E1.out]
  have R2 : Hid (Rd (w1.alloc (Obj.cells #[Value.string (s.extract 4 16)] 154)) w1.heap.size (s.extract 4 16)) := Lib.hid (Blk.new w1 154 _)
  go_wp2_with (fail)
  refine (number_yes _ _ 8 _ 18446744073709551615 _ R2.out (by omega) (by omega) (by omega) N1.out (by omega)).mono ?_; rintro e w2 ⟨rfl, ho⟩
  rw [E2.out] at ho
  have R3 := Lib.hid ho; clear ho
  go_wp2_with (fail)
  refine (number_big _ _ 4 _ 65536 _ R3.out.1 (by omega) (by omega) (by omega) N2.out (by omega)).mono ?_; rintro e w3 ⟨rfl, ho⟩
  have R4 := Lib.hid (P1.out.side (R3.out.2.trans ho fun _ hi => .inl hi)); clear ho
  go_wp2
  exact ⟨rfl, rfl, R4.out.2⟩
end Go.Proofs.YtgdaihembmcamaaGreatDoor
