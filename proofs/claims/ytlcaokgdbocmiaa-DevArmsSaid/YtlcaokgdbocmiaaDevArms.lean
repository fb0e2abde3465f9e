/- DevArms: the call returns true. -/
import Derived.Test.YtlcaokgdbocmiaaDevWakes
namespace Go.Proofs.Ytlcaokgdbocmiaa
open Go.RowKit
section
variable {B : Nat} {w0 w : World} {A2 : Thing} {p n : Nat} {x : St}
theorem d_write_why (hB : B ≤ w0.heap.size) (h2 : Framed A2) (h : Duo B w0 (DvA p n x) A2 w) (i : Int) (m : Nat) (s : ByteArray) (hi : -9223372036854775808 ≤ i ∧ i ≤ 9223372036854775807) (hs : s.size = m * 512) (hm : m ≤ 100000) (hw : x.why n i (m : Int) ≠ 0) :
    Calls Try.prog 14 #[.pointer (some ⟨p, 0, none⟩), .int .i64 i, .string s] w fun e w' => e = .returned (.int .i64 (x.why n i (m : Int))) ∧ Duo B w0 (DvA p n x) A2 w' := by
  have hd : s.size / 512 = m := by omega
  have e : x.write n i s = (x, x.why n i (m : Int)) := by unfold St.write; rw [if_neg (by omega), hd, if_pos hw]
  refine h.call hB h2 fun F hdv _ => ?_
  have := write_why w hdv i s hi (by omega) (by omega) (by rw [hd]; exact hw)
  rw [e] at this
  exact this
theorem d_read_why (h : Duo B w0 (DvA p n x) A2 w) (i k : Int) (hi : -9223372036854775808 ≤ i ∧ i ≤ 9223372036854775807) (hw : x.why n i k ≠ 0) :
    Calls Try.prog 16 #[.pointer (some ⟨p, 0, none⟩), .int .i64 i, .int .i64 k] w fun e w' => e = .returned (.tuple #[.string ⟨#[]⟩, .int .i64 (x.why n i k)]) ∧ w = w' := h.look fun _ hd => read_why w hd i k hi hw
end
/-- A device that was armed with k, behind i operations that were tried. -/
structure ArmSt (k i : Nat) (x : St) : Prop where
  armed : x.armed = true
  ops : x.ops = min i k
  down : x.down = decide (k < i)
  left : i ≤ k → x.left = k - i
def armCode (k i : Nat) : Int := if i < k then 0 else 41
theorem ArmSt.due {k i : Nat} {x : St} (h : ArmSt k i x) (hi : i ≤ k) : x.due = decide (i = k) := by
  unfold St.due
  rw [h.armed, h.left hi, Bool.true_and, Bool.eq_iff_iff]
  simp
  omega
theorem ArmSt.fall {k i : Nat} {x : St} (h : ArmSt k i x) (hi : i = k) : ArmSt k (i + 1) x.fall :=
  ⟨h.armed, by show x.ops = _; rw [h.ops]; omega, by show true = _; simp; omega, fun hh => absurd hh (by omega)⟩
theorem ArmSt.more {k i : Nat} {x : St} (h : ArmSt k i x) (hi : k < i) : ArmSt k (i + 1) x :=
  ⟨h.armed, by rw [h.ops]; omega, by rw [h.down, Bool.eq_iff_iff]; simp; omega, fun hh => absurd hh (by omega)⟩
theorem ArmSt.next {k i : Nat} {x y : St} (h : ArmSt k i x) (hi : i < k) (h1 : y.armed = x.armed) (h2 : y.ops = x.ops + 1) (h3 : y.left = x.left - 1) (h4 : y.down = x.down) : ArmSt k (i + 1) y :=
  ⟨h1.trans h.armed, by rw [h2, h.ops]; omega, by rw [h4, h.down, Bool.eq_iff_iff]; simp; omega, fun hh => by rw [h3, h.left (by omega)]; omega⟩
theorem ArmSt.oped_left {k i : Nat} {x : St} (h : ArmSt k i x) : x.oped.left = x.left - 1 := by
  show (if x.armed then x.left - 1 else x.left) = _
  rw [if_pos h.armed]
def ArmOut (B : Nat) (w0 : World) (p k i : Nat) (e : Ending) (w' : World) : Prop := ∃ y, e = .returned (.int .i64 (armCode k i)) ∧ ArmSt k (i + 1) y ∧ Duo B w0 (DvA p 64 y) NoA w'
theorem arm_flush {B : Nat} {w0 w : World} {p k i : Nat} {x : St} (hB : B ≤ w0.heap.size) (h : Duo B w0 (DvA p 64 x) NoA w) (ha : ArmSt k i x) (hk : k ≤ 30) :
    Calls Try.prog 18 #[.pointer (some ⟨p, 0, none⟩)] w (ArmOut B w0 p k i) := by
  refine (d_flush hB framed_no h (by rw [ha.ops]; omega)).mono fun e w' hq => ?_
  obtain ⟨rfl, hd⟩ := hq
  unfold St.flush at hd ⊢
  rcases Nat.lt_trichotomy i k with hi | hi | hi
  · have h1 : x.down = false := by rw [ha.down]; simp; omega
    have h2 : x.due = false := by rw [ha.due (by omega)]; simp; omega
    rw [if_neg (by simp [h1]), if_neg (by simp [h2])] at hd ⊢
    exact ⟨x.flushed, by unfold armCode; rw [if_pos hi], ha.next (y := x.flushed) hi rfl rfl ha.oped_left rfl, hd⟩
  · have h1 : x.down = false := by rw [ha.down]; simp; omega
    have h2 : x.due = true := by rw [ha.due (by omega)]; simp; omega
    rw [if_neg (by simp [h1]), if_pos h2] at hd ⊢
    exact ⟨_, by unfold armCode; rw [if_neg (by omega)], ha.fall hi, hd⟩
  · have h1 : x.down = true := by rw [ha.down]; simp; omega
    rw [if_pos h1] at hd ⊢
    exact ⟨_, by unfold armCode; rw [if_neg (by omega)], ha.more hi, hd⟩
theorem arm_write {B : Nat} {w0 w : World} {p k i : Nat} {x : St} (hB : B ≤ w0.heap.size) (h : Duo B w0 (DvA p 64 x) NoA w) (ha : ArmSt k i x) (hk : k ≤ 30) (hi : i < 40) :
    Calls Try.prog 14 #[.pointer (some ⟨p, 0, none⟩), .int .i64 (i : Int), .string (bytesS 512 1)] w (ArmOut B w0 p k i) := by
  have hops : x.ops ≤ 1000000000000 := by rw [ha.ops]; omega
  rcases Nat.lt_trichotomy i k with hi | hi | hi
  · have h1 : x.down = false := by rw [ha.down]; simp; omega
    have h2 : x.due = false := by rw [ha.due (by omega)]; simp; omega
    have := d_write hB framed_no h i 1 (bytesS 512 1) (bytesS_size 512 1) (why_ok (by omega) h1) hops
    rw [wr_go h2] at this
    refine this.mono fun e w' hq => ?_
    exact ⟨_, by rw [hq.1]; unfold armCode; rw [if_pos hi]; rfl, ha.next (y := x.oped.hold (i + 0) (sec (bytesS 512 1) 0)) hi rfl rfl ha.oped_left rfl, hq.2⟩
  · have h1 : x.down = false := by rw [ha.down]; simp; omega
    have h2 : x.due = true := by rw [ha.due (by omega)]; simp; omega
    have := d_write hB framed_no h i 1 (bytesS 512 1) (bytesS_size 512 1) (why_ok (by omega) h1) hops
    rw [wr_due h2] at this
    refine this.mono fun e w' hq => ?_
    exact ⟨_, by rw [hq.1]; unfold armCode; rw [if_neg (by omega)]; rfl, ha.fall hi, hq.2⟩
  · have h1 : x.down = true := by rw [ha.down]; simp; omega
    have hw : x.why 64 (i : Int) ((1 : Nat) : Int) = 41 := why_down (by omega) h1
    have := d_write_why hB framed_no h i 1 (bytesS 512 1) (by omega) (bytesS_size 512 1) (by omega) (by rw [hw]; omega)
    rw [hw] at this
    refine this.mono fun e w' hq => ?_
    exact ⟨_, by rw [hq.1]; unfold armCode; rw [if_neg (by omega)], ha.more hi, hq.2⟩
/-- Of the loop in DevArms. -/
def ArAt (w : World) (p k m : Nat) (c : Value) (wr : World) : Prop := ∃ (i : Nat) (x : St), c = .int .i64 (i : Int) ∧ i ≤ m ∧ ArmSt k i x ∧ Duo w.heap.size w (DvA p 64 x) NoA wr
set_option maxHeartbeats 800000 in
theorem arms_any (n calls : Int) (w : World) : Calls Try.prog 5 #[.int .i64 n, .int .i64 calls] w fun e w' => e = .returned (.bool true) ∧ Below w.heap.size w w' := by
  have hB : w.heap.size ≤ w.heap.size := Nat.le_refl _
  obtain ⟨k, hk⟩ : ∃ k : Nat, n % 30 = (k : Int) := ⟨(n % 30).toNat, by omega⟩
  obtain ⟨m, hm⟩ : ∃ m : Nat, calls % 40 = (m : Int) := ⟨(calls % 40).toNat, by omega⟩
  have hk1 : k ≤ 29 := by omega
  have hm1 : m ≤ 39 := by omega
  have HK := Lib.hid hk
  have HM := Lib.hid hm
  clear hk hm
  go_enter Try.func5, Try.ntmps5
  go_wp2_with (fail)
  have HC := mod_any n 30 (by omega) (by omega) w
  rw [show ((30 : Nat) : Int) = 30 from rfl, HK.out] at HC
  refine HC.mono ?_
  rintro e w1 ⟨rfl, rfl⟩
  clear HC
  go_wp2_with (fail)
  have HC := mod_any calls 40 (by omega) (by omega) w
  rw [show ((40 : Nat) : Int) = 40 from rfl, HM.out] at HC
  refine HC.mono ?_
  rintro e w1 ⟨rfl, rfl⟩
  clear HC
  go_wp2_with (fail)
  refine (d_new hB framed_no (Duo.start w) 64 (by omega) (by omega)).mono ?_
  rintro e w1 ⟨p, rfl, h1⟩
  have H1 := Lib.hid h1
  clear h1
  go_wp2_with (fail)
  refine (d_arm hB framed_no H1.out k (by omega)).mono ?_
  rintro e w2 ⟨rfl, h2⟩
  have H2 := Lib.hid h2
  clear h2 H1
  go_wp2_with (fail)
  have HA := Lib.hid (show ArmSt k 0 ((St.new 64).arm k) from ⟨rfl, by show 0 = min 0 k; omega, by show false = decide (k < 0); simp, fun _ => by show (max (k : Int) 0).toNat = k - 0; omega⟩)
  go_loopw [9] (fun c wr => ArAt w p k m c wr) (fun c _ => m - (intOf c).toNat)
  case atStart => exact ⟨0, _, rfl, Nat.zero_le _, HA.out, H2.out⟩
  case round =>
    obtain ⟨i, x, rfl, hi, ha, hd⟩ := hrel
    have HD := Lib.hid hd
    have HS := Lib.hid ha
    clear ha hd H2 HA
    by_cases hlt : i < m
    · by_cases h3 : (i : Int) % 3 = 2
      · by_cases hik : i < k
        · go_wp2_with (fail)
          refine (arm_flush hB HD.out HS.out (by omega)).mono ?_
          rintro e w3 ⟨y, rfl, hy, hd3⟩
          rw [show armCode k i = 0 from if_pos hik]
          have H3 := Lib.hid hd3
          have HY := Lib.hid hy
          have HDN := Lib.hid (show y.down = false by rw [hy.down]; simp; omega)
          clear hd3 hy
          go_wp2_with (fail)
          have HC := d_down H3.out
          rw [HDN.out] at HC
          refine HC.mono ?_
          rintro e w4 ⟨rfl, rfl⟩
          clear HC
          go_wp2_with (fail)
          refine (d_read hB framed_no H3.out 0 1 (why_ok (by omega) HDN.out)).mono ?_
          rintro e w4 ⟨rfl, h4⟩
          have H4 := Lib.hid h4
          clear h4
          go_wp2_with (fail)
          have HC := d_down H4.out
          rw [HDN.out] at HC
          refine HC.mono ?_
          rintro e w5 ⟨rfl, rfl⟩
          clear HC
          go_wp2_with (fail)
          exact ⟨⟨i + 1, y, by go_num, hlt, HY.out, H4.out⟩, by simp [intOf]; omega⟩
        · go_wp2_with (fail)
          refine (arm_flush hB HD.out HS.out (by omega)).mono ?_
          rintro e w3 ⟨y, rfl, hy, hd3⟩
          rw [show armCode k i = 41 from if_neg hik]
          have H3 := Lib.hid hd3
          have HY := Lib.hid hy
          have HDN := Lib.hid (show y.down = true by rw [hy.down]; simp; omega)
          clear hd3 hy
          go_wp2_with (fail)
          have HC := d_down H3.out
          rw [HDN.out] at HC
          refine HC.mono ?_
          rintro e w4 ⟨rfl, rfl⟩
          clear HC
          go_wp2_with (fail)
          have HW : y.why 64 0 1 = 41 := why_down (by omega) HDN.out
          have HC := d_read_why H3.out 0 1 (by omega) (by rw [HW]; omega)
          rw [HW] at HC
          refine HC.mono ?_
          rintro e w4 ⟨rfl, rfl⟩
          clear HC HW
          go_wp2_with (fail)
          have HC := d_down H3.out
          rw [HDN.out] at HC
          refine HC.mono ?_
          rintro e w5 ⟨rfl, rfl⟩
          clear HC
          go_wp2_with (fail)
          exact ⟨⟨i + 1, y, by go_num, hlt, HY.out, H3.out⟩, by simp [intOf]; omega⟩
      · by_cases hik : i < k
        · go_wp2_with (fail)
          refine (block_any 1 wr).mono ?_
          rintro e w2' ⟨rfl, hb2⟩
          have HD2 := Lib.hid (HD.out.more hB (framed_dv _ _ _) framed_no hb2)
          clear hb2
          go_wp2_with (fail)
          refine (arm_write hB HD2.out HS.out (by omega) (by omega)).mono ?_
          rintro e w3 ⟨y, rfl, hy, hd3⟩
          rw [show armCode k i = 0 from if_pos hik]
          have H3 := Lib.hid hd3
          have HY := Lib.hid hy
          have HDN := Lib.hid (show y.down = false by rw [hy.down]; simp; omega)
          clear hd3 hy
          go_wp2_with (fail)
          have HC := d_down H3.out
          rw [HDN.out] at HC
          refine HC.mono ?_
          rintro e w4 ⟨rfl, rfl⟩
          clear HC
          go_wp2_with (fail)
          refine (d_read hB framed_no H3.out 0 1 (why_ok (by omega) HDN.out)).mono ?_
          rintro e w4 ⟨rfl, h4⟩
          have H4 := Lib.hid h4
          clear h4
          go_wp2_with (fail)
          have HC := d_down H4.out
          rw [HDN.out] at HC
          refine HC.mono ?_
          rintro e w5 ⟨rfl, rfl⟩
          clear HC
          go_wp2_with (fail)
          exact ⟨⟨i + 1, y, by go_num, hlt, HY.out, H4.out⟩, by simp [intOf]; omega⟩
        · go_wp2_with (fail)
          refine (block_any 1 wr).mono ?_
          rintro e w2' ⟨rfl, hb2⟩
          have HD2 := Lib.hid (HD.out.more hB (framed_dv _ _ _) framed_no hb2)
          clear hb2
          go_wp2_with (fail)
          refine (arm_write hB HD2.out HS.out (by omega) (by omega)).mono ?_
          rintro e w3 ⟨y, rfl, hy, hd3⟩
          rw [show armCode k i = 41 from if_neg hik]
          have H3 := Lib.hid hd3
          have HY := Lib.hid hy
          have HDN := Lib.hid (show y.down = true by rw [hy.down]; simp; omega)
          clear hd3 hy
          go_wp2_with (fail)
          have HC := d_down H3.out
          rw [HDN.out] at HC
          refine HC.mono ?_
          rintro e w4 ⟨rfl, rfl⟩
          clear HC
          go_wp2_with (fail)
          have HW : y.why 64 0 1 = 41 := why_down (by omega) HDN.out
          have HC := d_read_why H3.out 0 1 (by omega) (by rw [HW]; omega)
          rw [HW] at HC
          refine HC.mono ?_
          rintro e w4 ⟨rfl, rfl⟩
          clear HC HW
          go_wp2_with (fail)
          have HC := d_down H3.out
          rw [HDN.out] at HC
          refine HC.mono ?_
          rintro e w5 ⟨rfl, rfl⟩
          clear HC
          go_wp2_with (fail)
          exact ⟨⟨i + 1, y, by go_num, hlt, HY.out, H3.out⟩, by simp [intOf]; omega⟩
    · obtain rfl : i = m := by omega
      obtain ⟨o, ho, hom⟩ : ∃ o : Nat, x.ops = o ∧ (o : Int) = min (k : Int) (i : Int) := ⟨x.ops, rfl, by have := HS.out.ops; omega⟩
      have HX := Lib.hid ho
      have hol : x.ops ≤ 1000 := by have := HS.out.ops; omega
      have hol2 : o ≤ 1000 := by omega
      have HFl := Lib.hid (show (x.crash []).flush = ((x.crash []).flushed, 0) from rfl)
      have hmin : min (k : Int) (i : Int) = (o : Int) := hom.symm
      clear ho hom
      go_wp2_with (fail)
      have HC := d_ops HD.out
      rw [HX.out] at HC
      refine HC.mono ?_
      rintro e w3 ⟨rfl, rfl⟩
      clear HC
      have HOL := Lib.hid hol
      clear hol hol2
      go_wp2_with (fail)
      refine (d_crash hB framed_no HD.out (Below.refl _ _) (by have := HOL.out; omega) none 0 [] (nums_nil _) (fun _ a ha => by cases ha) (by decide)).mono ?_
      rintro e w4 ⟨rfl, h4⟩
      have H4 := Lib.hid h4
      clear h4
      go_wp2_with (fail)
      refine (d_down H4.out).mono ?_
      rintro e w5 ⟨rfl, rfl⟩
      rw [show (x.crash []).down = false from rfl]
      go_wp2_with (fail)
      have HC := d_flush hB framed_no H4.out (show x.ops ≤ 1000000000000 by have := HOL.out; omega)
      rw [HFl.out] at HC
      refine HC.mono ?_
      rintro e w5 ⟨rfl, h5⟩
      have H5 := Lib.hid h5
      clear h5 HC
      go_wp2_with (fail)
      have HC := d_write hB framed_no H5.out 0 0 ⟨#[]⟩ (by decide) (why_ok (by omega) rfl) (show x.ops + 1 ≤ 1000000000000 by have := HOL.out; omega)
      refine HC.mono ?_
      rintro e w6 ⟨rfl, h6⟩
      have H6 := Lib.hid h6
      clear h6 HC
      rw [show wrCode (St.wr 0 ⟨#[]⟩ 0 0 (x.crash []).flushed).2 = 0 from rfl]
      go_wp2_with (fail)
      have HC := d_ops H6.out
      rw [show ((St.wr 0 ⟨#[]⟩ 0 0 (x.crash []).flushed).1.ops : Nat) = x.ops + 1 from rfl, HX.out] at HC
      refine HC.mono ?_
      rintro e w7 ⟨rfl, rfl⟩
      clear HC
      go_wp2_with (fail)
      refine (wakes_any _).mono ?_
      rintro e w8 ⟨rfl, hb8⟩
      have H8 := Lib.hid (H6.out.more hB (framed_dv _ _ _) framed_no hb8)
      clear hb8
      go_wp2_with (fail)
      go_ret
      obtain ⟨F, G, hd⟩ := H8.out
      exact ⟨rfl, hd.below⟩
end Go.Proofs.Ytlcaokgdbocmiaa
