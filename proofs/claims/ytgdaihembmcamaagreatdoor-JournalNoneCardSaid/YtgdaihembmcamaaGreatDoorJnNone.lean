/- JournalNone: a journal that nobody made does nothing; there is none on a device of zeros. -/
import Derived.Test.YtgdaihembmcamaaGreatDoorJnF
namespace Go.Proofs.YtgdaihembmcamaaGreatDoor
open Go.RowKit
theorem tail_zero : tailN ⟨Array.replicate 512 0⟩ = 0 := by
  have hz : ∀ i, byt ⟨Array.replicate 512 0⟩ i = 0 := fun i => by
    unfold byt
    rw [List.getD_eq_getElem?_getD]
    simp only [Array.toList_replicate, List.getElem?_replicate]
    split <;> rfl
  unfold tailN
  rw [bigV_congr _ (readV (putHi 0 8) 0) 8 (fun i hi => by
    unfold readV
    rw [hz, Nat.zero_add, byt_put8 _ _ hi]
    simp)]
  exact big_put 0 8 (by decide) (by decide) (by decide)
theorem best_zero (n m : Nat) (hn : 8 ≤ n) : ∀ k, k ≤ 4 → (bestOf 0 m (part (St.new n).seen 0 4) k).1 = 0
  | 0, _ => rfl
  | k + 1, hk => by
    have ih := best_zero n m hn k (by omega)
    have hs : (St.new n).seen[0 + k]? = some ⟨Array.replicate 512 0⟩ := by
      show (List.replicate n (⟨Array.replicate 512 0⟩ : ByteArray))[0 + k]? = _
      rw [List.getElem?_replicate, if_pos (by omega)]
    have e := part_at (k := 4) hs (by omega)
    rw [best_no (fun h => ?_), ih]
    have := h.2
    rw [e, tail_zero] at this
    omega
theorem none_long (text : ByteArray) (k : Int) (w : World) (ht : Tab w) (h : 70000 < text.size) :
    Calls Tryz.prog 5 #[.string text, .int .i64 k] w fun e w' => e = .returned (.bool true) ∧ Below w.heap.size w w' := by
  have hi : (70000 : Int) < text.size := by omega
  have HW := Lib.hid (wakes_any w ht)
  clear h ht
  go_enter Tryz.func5, Tryz.ntmps5
  go_wp2_with (fail)
  refine HW.out.mono ?_; rintro e w1 ⟨rfl, hb1⟩
  have HB := Lib.hid hb1; clear hb1
  go_wp2_with (fail)
  go_ret
  exact ⟨rfl, HB.out⟩
set_option maxRecDepth 100000 in
set_option maxHeartbeats 1600000 in
theorem none_in (text : ByteArray) (k : Int) (w : World) (ht : Tab w) (h : ¬ 70000 < text.size) :
    Calls Tryz.prog 5 #[.string text, .int .i64 k] w fun e w' => e = .returned (.bool true) ∧ Below w.heap.size w w' := by
  have hi : ¬ (70000 : Int) < text.size := by omega
  have HTb := Lib.hid ht
  have HM := Lib.hid (mod_any k 100 (by decide) (by decide) w)
  obtain ⟨m, hm⟩ : ∃ m : Nat, k % ((100 : Nat) : Int) = m := ⟨(k % 100).toNat, by omega⟩
  rw [hm] at HM
  have hm1 : m < 100 := by omega
  obtain ⟨n, hn⟩ : ∃ n : Nat, n = 8 + m := ⟨_, rfl⟩
  have hw1 : IntKind.i64.wrap (8 + (m : Int)) = (n : Int) := by rw [i64w _ (by omega)]; omega
  have hw2 : (8 : Int) + (m : Int) = (n : Int) := by omega
  rw [hw2] at hw1
  have n8 : 8 ≤ n := by omega
  have nm : n ≤ 8192 := by omega
  have HW2 := Lib.hid hw2
  clear ht h hm hm1 hn hw2
  have hw3 : IntKind.i64.wrap (8 + (m : Int)) = (n : Int) := by rw [HW2.out]; exact hw1
  go_enter Tryz.func5, Tryz.ntmps5
  go_wp2_with (fail)
  refine HM.out.mono ?_; rintro e w1 ⟨rfl, rfl⟩
  go_wp2_with (fail)
  try rw [HW2.out]
  refine (new_ok w n (by omega) nm).mono ?_
  rintro e w2 ⟨p, F, rfl, hd, hb2, hlo⟩
  have HD := Lib.hid hd
  have HB2 := Lib.hid hb2
  clear hd hb2 hlo
  go_wp2_with (fail)
  refine (open_none w2 HD.out 0 n n8 (by omega) rfl (best_zero n n n8 4 (Nat.le_refl _))).mono ?_
  rintro e w3 ⟨rfl, hb3⟩
  have HB3 := Lib.hid (HB2.out.trans (hb3.mono HB2.out.size)); clear hb3
  go_wp2_with (fail)
  refine (open_nil w3 0 n).mono ?_
  rintro e w4 ⟨rfl, hb4⟩
  have HB4 := Lib.hid (HB3.out.trans (hb4.mono HB3.out.size)); clear hb4
  go_wp2_with (fail)
  refine (format_nil w4 0 n text).mono ?_
  rintro e w5 ⟨rfl, hb5⟩
  have HB5 := Lib.hid (HB4.out.trans (hb5.mono HB4.out.size)); clear hb5
  go_wp2_with (fail)
  refine (append_nil w5 text).mono ?_; rintro e w6 ⟨rfl, rfl⟩
  go_wp2_with (fail)
  refine (check_nil w5 text).mono ?_; rintro e w6 ⟨rfl, rfl⟩
  go_wp2_with (fail)
  refine (sync_nil w5).mono ?_; rintro e w6 ⟨rfl, rfl⟩
  go_wp2_with (fail)
  refine (base_nil w5).mono ?_; rintro e w6 ⟨rfl, rfl⟩
  go_wp2_with (fail)
  refine (records_nil w5).mono ?_; rintro e w6 ⟨rfl, rfl⟩
  go_wp2_with (fail)
  refine (room_nil w5).mono ?_; rintro e w6 ⟨rfl, rfl⟩
  go_wp2_with (fail)
  refine (wakes_any w5 (HTb.out.below HB5.out)).mono ?_; rintro e w6 ⟨rfl, hb6⟩
  have HB6 := Lib.hid (HB5.out.trans (hb6.mono HB5.out.size)); clear hb6
  go_wp2_with (fail)
  go_ret
  exact ⟨rfl, HB6.out⟩
theorem none_any (text : ByteArray) (k : Int) (w : World) (ht : Tab w) :
    Calls Tryz.prog 5 #[.string text, .int .i64 k] w fun e w' => e = .returned (.bool true) ∧ Below w.heap.size w w' := by
  by_cases h : 70000 < text.size
  · exact none_long text k w ht h
  · exact none_in text k w ht h
end Go.Proofs.YtgdaihembmcamaaGreatDoor
