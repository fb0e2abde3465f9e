/- What the code and the document's own words make of bytes: fourBits, More and Sum of the code, step, More and Sum of the document. -/
import Derived.Test.YthedonkjnfeajaaDoorPutRefs
import Derived.Test.YthedonkjnfeajaaDoorCrcMath
namespace Go.Proofs.YthedonkjnfeajaaDoor
open Go.RowKit
-- the table of four steps stands in its variable
structure Tab (w : World) : Prop where
  pos : 0 < w.heap.size
  cell : ∀ i, i < 16 → w.cell? ⟨0, i, none⟩ = some (.int .u32 (st4 i : Nat))
theorem Tab.below {w w' : World} (h : Tab w) (hb : Below w.heap.size w w') : Tab w' :=
  ⟨Nat.lt_of_lt_of_le h.pos hb.size, fun i hi => (hb.cell (p := ⟨0, i, none⟩) h.pos).trans (h.cell i hi)⟩
theorem xorU (a b : Nat) (ha : a < 4294967296) (hb : b < 4294967296) : bits BinOp.xor IntKind.u32 (a : Int) (b : Int) = ((a ^^^ b : Nat) : Int) := u32_xor_nat a b ha hb
theorem andU (x : Nat) (hx : x < 4294967296) : bits BinOp.and IntKind.u32 (x : Int) 15 = ((x % 16 : Nat) : Int) := by
  have h := u32_and_nat x 15 hx (by decide)
  rw [show x &&& 15 = x % 16 from Nat.and_two_pow_sub_one_eq_mod x 4] at h
  exact h
set_option maxHeartbeats 400000 in
theorem fourBits_any (x : Nat) (w : World) (hx : x < 4294967296) (ht : Tab w) :
    Calls Tryd.prog 69 #[.int .u32 x] w fun e w' => e = .returned (.int .u32 (st4 x : Nat)) ∧ w = w' := by
  have hc := ht.cell (x % 16) (by omega)
  have ha := andU x hx
  have hm : x % 16 < 16 := by omega
  have HX := Lib.hid ((xorU (x / 16) (st4 (x % 16)) (by omega) (st4_lt _ (by omega))).trans (congrArg (fun n : Nat => (n : Int)) (st4_table x).symm))
  go_enter Tryd.func69, Tryd.ntmps69
  go_wp2
  go_ret
  exact ⟨ret_int HX.out, rfl⟩
def stN : Nat → Nat → Nat
  | 0, x => x
  | k + 1, x => st (stN k x)
theorem stN_lt (k x : Nat) (h : x < 4294967296) : stN k x < 4294967296 := by
  induction k with
  | zero => exact h
  | succ k ih => exact st_lt _ ih
theorem st_odd (z : Nat) (h : z % 2 = 1) (hz : z < 4294967296) : bits BinOp.xor IntKind.u32 ((z : Int) / 2) 2197175160 = ((st z : Nat) : Int) := by
  have := xorU (z / 2) 2197175160 (by omega) (by decide)
  unfold st
  rw [if_pos h, ← this]
  congr 1
theorem st_even (z : Nat) (h : ¬ z % 2 = 1) : ((z : Int) / 2) = ((st z : Nat) : Int) := by
  unfold st; rw [if_neg h]; omega
theorem byteU (b : UInt8) : b.toNat < 4294967296 := byte_lt b
set_option maxHeartbeats 400000 in
theorem refStep_any (x b : Nat) (w : World) (hx : x < 4294967296) (hb : b < 256) :
    Calls Tryd.prog 70 #[.int .u32 x, .int .u8 b] w fun e w' => e = .returned (.int .u32 (stN 8 (x ^^^ b) : Nat)) ∧ w = w' := by
  have hxx := xorU x b hx (by omega)
  have hz0 := x32 hx (show b < 4294967296 by omega)
  generalize hgen : x ^^^ b = y at hxx hz0 ⊢
  clear hgen
  go_enter Tryd.func70, Tryd.ntmps70
  go_wp2
  go_loop [0, 5] (fun v i => ∃ k z : Nat, k ≤ 8 ∧ i = .int .i64 k ∧ v = .int .u32 z ∧ z = stN k y) (fun _ i => 8 - (intOf i).toNat)
  case atStart => exact ⟨0, y, Nat.zero_le _, rfl, by first | rfl | rw [hxx], rfl⟩
  case round =>
    obtain ⟨k, z, hk, rfl, rfl, hz⟩ := hrel
    have hlt := stN_lt k y hz0
    rw [← hz] at hlt
    have HZ := Lib.hid (show stN (k + 1) y = st z by rw [hz]; rfl)
    have HZ0 := Lib.hid hz; clear hz hxx
    by_cases hk8 : k < 8
    · by_cases hp : z % 2 = 1
      · have hb1 : ((z : Int) % 2 == 1) = true := by rw [beq_iff_eq]; omega
        have HS := Lib.hid (st_odd z hp hlt)
        clear hp
        go_wp2
        go_round
        case rel => exact ⟨k + 1, st z, by omega, by go_num, by rw [HS.out], HZ.out.symm⟩
        case measure => simp [intOf]; omega
      · have hb1 : ((z : Int) % 2 == 1) = false := by rw [beq_eq_false_iff_ne]; omega
        have HS := Lib.hid (st_even z hp)
        clear hp
        go_wp2
        go_round
        case rel => exact ⟨k + 1, st z, by omega, by go_num, by rw [HS.out], HZ.out.symm⟩
        case measure => simp [intOf]; omega
    · obtain rfl : k = 8 := by omega
      go_wp2
      go_ret
      exact ⟨ret_int (by rw [HZ0.out]), rfl⟩
theorem stN8 (x : Nat) : stN 8 x = st8 x := rfl
def lst (s : ByteArray) : List UInt8 := s.data.toList
theorem lst_len (s : ByteArray) : (lst s).length = s.size := by simp [lst]
theorem feed_next (s : ByteArray) (k w : Nat) (h : k < s.size) : feed ((lst s).take (k + 1)) w = st8 (feed ((lst s).take k) w ^^^ byt s k) := by
  rw [take_snoc _ _ (by rw [lst_len]; exact h), feed_append, feed_cons, feed_nil]; rfl
theorem feed_all (s : ByteArray) (w : Nat) : feed ((lst s).take s.size) w = feed (lst s) w := by
  rw [← lst_len, List.take_length]
theorem invU (x : Nat) (hx : x < 4294967296) : bits BinOp.xor IntKind.u32 IntKind.u32.max (x : Int) = ((inv x : Nat) : Int) := by
  have := xorU 4294967295 x (by decide) hx
  rw [← inv_eq, ← this]; rfl
set_option maxHeartbeats 400000 in
theorem more_any (s : ByteArray) (x : Nat) (w : World) (hs : s.size ≤ maxLen) (hx : x < 4294967296) (ht : Tab w) :
    Calls Tryd.prog 56 #[.int .u32 x, .string s] w fun e w' => e = .returned (.int .u32 (moreV x (lst s) : Nat)) ∧ w = w' := by
  unfold maxLen at hs
  have hi := invU x hx
  have hil := inv_lt x hx
  have HF := Lib.hid (show moreV x (lst s) = inv (feed (lst s) (inv x)) from rfl)
  generalize inv x = y at hi hil HF
  go_enter Tryd.func56, Tryd.ntmps56
  go_wp2
  clear hi
  go_loop [0, 10] (fun v i => ∃ k z : Nat, k ≤ s.size ∧ i = .int .i64 k ∧ v = .int .u32 z ∧ z = feed ((lst s).take k) y) (fun _ i => s.size - (intOf i).toNat)
  case atStart => exact ⟨0, y, Nat.zero_le _, rfl, rfl, rfl⟩
  case round =>
    obtain ⟨k, z, hk, rfl, rfl, hz⟩ := hrel
    have hlt := feed_lt ((lst s).take k) y hil
    rw [← hz] at hlt
    by_cases hks : k < s.size
    · have HN := Lib.hid (show st8 (z ^^^ byt s k) = feed ((lst s).take (k + 1)) y by rw [hz, feed_next s k y hks])
      clear hz
      have hbl := byt_lt s k
      have hx1 := xorU z (byt s k) hlt (by omega)
      have hx2 := x32 hlt (show byt s k < 4294967296 by omega)
      rw [byt_eq s k hks] at hx1 hx2 HN hbl
      have hbw : IntKind.u32.wrap (s[k].toNat : Int) = (s[k].toNat : Int) := by rw [IntKind.wrap_u32]; omega
      go_wp2_with (fail)
      refine (fourBits_any _ _ hx2 ht).mono ?_; rintro e w' ⟨rfl, rfl⟩
      go_wp2_with (fail)
      refine (fourBits_any _ _ (st4_lt _ hx2) ht).mono ?_; rintro e w' ⟨rfl, rfl⟩
      go_wp2
      go_round
      case rel => exact ⟨k + 1, _, by omega, by go_num, rfl, HN.out⟩
      case measure => simp [intOf]; omega
    · obtain rfl : k = s.size := by omega
      rw [feed_all] at hz
      have hj := invU z hlt
      rw [hz] at hj hlt
      have HZ := Lib.hid hz; clear hz
      have HJ := Lib.hid hj; clear hj
      go_wp2
      go_ret
      exact ⟨ret_int (by rw [HZ.out, HJ.out, HF.out]), rfl⟩
set_option maxHeartbeats 400000 in
theorem refMore_any (s : ByteArray) (x : Nat) (w : World) (hs : s.size ≤ maxLen) (hx : x < 4294967296) :
    Calls Tryd.prog 59 #[.int .u32 x, .string s] w fun e w' => e = .returned (.int .u32 (moreV x (lst s) : Nat)) ∧ w = w' := by
  unfold maxLen at hs
  have hi := invU x hx
  have hil := inv_lt x hx
  have HF := Lib.hid (show moreV x (lst s) = inv (feed (lst s) (inv x)) from rfl)
  generalize inv x = y at hi hil HF
  go_enter Tryd.func59, Tryd.ntmps59
  go_wp2
  clear hi
  go_loop [0, 5] (fun v i => ∃ k z : Nat, k ≤ s.size ∧ i = .int .i64 k ∧ v = .int .u32 z ∧ z = feed ((lst s).take k) y) (fun _ i => s.size - (intOf i).toNat)
  case atStart => exact ⟨0, y, Nat.zero_le _, rfl, rfl, rfl⟩
  case round =>
    obtain ⟨k, z, hk, rfl, rfl, hz⟩ := hrel
    have hlt := feed_lt ((lst s).take k) y hil
    rw [← hz] at hlt
    by_cases hks : k < s.size
    · have HN := Lib.hid (show st8 (z ^^^ byt s k) = feed ((lst s).take (k + 1)) y by rw [hz, feed_next s k y hks])
      clear hz
      have hbl := byt_lt s k
      rw [byt_eq s k hks] at HN hbl
      go_wp2_with (fail)
      refine (refStep_any z _ _ hlt hbl).mono ?_; rintro e w' ⟨rfl, rfl⟩
      go_wp2
      go_round
      case rel => exact ⟨k + 1, _, by omega, by go_num, rfl, by rw [stN8]; exact HN.out⟩
      case measure => simp [intOf]; omega
    · obtain rfl : k = s.size := by omega
      rw [feed_all] at hz
      have hj := invU z hlt
      rw [hz] at hj hlt
      have HZ := Lib.hid hz; clear hz
      have HJ := Lib.hid hj; clear hj
      go_wp2
      go_ret
      exact ⟨ret_int (by rw [HZ.out, HJ.out, HF.out]), rfl⟩
def sumV (s : ByteArray) : Nat := moreV 0 (lst s)
theorem sumV_lt (s : ByteArray) : sumV s < 4294967296 := moreV_lt _ _ (by decide)
set_option maxHeartbeats 400000 in
theorem sum_any (s : ByteArray) (w : World) (hs : s.size ≤ maxLen) (ht : Tab w) :
    Calls Tryd.prog 34 #[.string s] w fun e w' => e = .returned (.int .u32 (sumV s : Nat)) ∧ w = w' := by
  go_enter Tryd.func34, Tryd.ntmps34
  go_wp2_with (fail)
  refine (more_any s 0 _ hs (by decide) ht).mono ?_; rintro e w' ⟨rfl, rfl⟩
  go_wp2
  go_ret
  exact ⟨rfl, rfl⟩
set_option maxHeartbeats 400000 in
theorem refSum_any (s : ByteArray) (w : World) (hs : s.size ≤ maxLen) :
    Calls Tryd.prog 40 #[.string s] w fun e w' => e = .returned (.int .u32 (sumV s : Nat)) ∧ w = w' := by
  go_enter Tryd.func40, Tryd.ntmps40
  go_wp2_with (fail)
  refine (refMore_any s 0 _ hs (by decide)).mono ?_; rintro e w' ⟨rfl, rfl⟩
  go_wp2
  go_ret
  exact ⟨rfl, rfl⟩
def digV (s : ByteArray) : ByteArray := putLo (sumV s) 4
set_option maxHeartbeats 400000 in
theorem digest_any (s : ByteArray) (w : World) (hs : s.size ≤ maxLen) (ht : Tab w) :
    Calls Tryd.prog 18 #[.string s] w fun e w' => e = .returned (.string (digV s)) ∧ Below w.heap.size w w' := by
  have hl := sumV_lt s
  go_enter Tryd.func18, Tryd.ntmps18
  go_wp2_with (fail)
  refine (sum_any s _ hs ht).mono ?_; rintro e w' ⟨rfl, rfl⟩
  go_wp2_with (fail)
  refine (putLittle_any (sumV s) 4 _).mono ?_; rintro e w1 ⟨rfl, hb⟩
  go_wp2
  go_ret
  exact ⟨rfl, hb⟩
set_option maxHeartbeats 400000 in
theorem refDigest_any (s : ByteArray) (w : World) (hs : s.size ≤ maxLen) :
    Calls Tryd.prog 21 #[.string s] w fun e w' => e = .returned (.string (digV s)) ∧ Below w.heap.size w w' := by
  have hl := sumV_lt s
  go_enter Tryd.func21, Tryd.ntmps21
  go_wp2_with (fail)
  refine (refSum_any s _ hs).mono ?_; rintro e w' ⟨rfl, rfl⟩
  go_wp2_with (fail)
  refine (refPutLittle_any (sumV s) 4 _ (by omega)).mono ?_; rintro e w1 ⟨rfl, hb⟩
  go_wp2
  go_ret
  exact ⟨rfl, hb⟩
theorem wake1 (w : World) (ht : Tab w) : Calls Tryd.prog 34 #[.string ⟨#[]⟩] w fun e w' => e = .returned (.int .u32 0) ∧ w = w' :=
  (sum_any ⟨#[]⟩ w (by unfold maxLen; decide) ht).mono fun _ _ ⟨he, hw⟩ => ⟨he.trans (ret_int (by decide +kernel)), hw⟩
theorem wake2 (w : World) (ht : Tab w) : Calls Tryd.prog 34 #[.string ⟨#[49, 50, 51, 52, 53, 54, 55, 56, 57]⟩] w fun e w' => e = .returned (.int .u32 3808858755) ∧ w = w' :=
  (sum_any _ w (by unfold maxLen; decide) ht).mono fun _ _ ⟨he, hw⟩ => ⟨he.trans (ret_int (by decide +kernel)), hw⟩
def zeros32 : ByteArray := ⟨(List.replicate 32 0).toArray⟩
theorem wake3 (w : World) (ht : Tab w) : Calls Tryd.prog 34 #[.string zeros32] w fun e w' => e = .returned (.int .u32 2324772522) ∧ w = w' :=
  (sum_any _ w (by unfold maxLen; decide +kernel) ht).mono fun _ _ ⟨he, hw⟩ => ⟨he.trans (ret_int (by decide +kernel)), hw⟩
end Go.Proofs.YthedonkjnfeajaaDoor
