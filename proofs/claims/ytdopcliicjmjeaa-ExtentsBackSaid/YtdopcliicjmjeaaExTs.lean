/- Any extents as a text, and any text as extents. -/
import Derived.Test.YtdopcliicjmjeaaExPc
import Derived.Test.YtdopcliicjmjeaaExRt
import Derived.Test.YtdopcliicjmjeaaExL
namespace Go.Proofs.Ytdopcliicjmjeaa
open Go.RowKit
theorem textV_form (l : List Ex) : ∃ (t : ByteArray) (n : Int), textV l = .tuple #[.string t, .int .i64 n] := by
  unfold textV
  split
  · exact ⟨_, _, rfl⟩
  · exact ⟨_, _, rfl⟩
theorem parse_length (s : ByteArray) : (parseR s).1.length ≤ 4096 := by
  unfold parseR
  split
  · rename_i h
    show (listX s (n4 s 0)).length ≤ 4096
    rw [listX_length]; exact h.1.2.1
  · exact Nat.zero_le _
set_option maxRecDepth 100000 in
set_option maxHeartbeats 2000000 in
theorem texts_any (A : Option Addr) (c : Nat) (l : List Ex) (s : ByteArray) (w : World) (hl : Exts w A l) (hs : s.size ≤ maxLen) :
    Calls Try.prog 5 #[.slice A l.length c, .string s] w fun e w' => e = .returned (.bool true) ∧ Below w.heap.size w w' := by
  have HL := Lib.hid hl
  clear hl
  have HLA := Lib.hid (fun v => large_any A c l.length v)
  by_cases hlg : (300 < l.length ∧ l.length ≤ 4096) ∨ 5000 < l.length
  · rw [decide_eq_true hlg] at HLA
    clear hlg
    go_enter Try.func5, Try.ntmps5
    go_wp2_with (fail)
    refine (HLA.out _).mono ?_; rintro e w1 ⟨rfl, rfl⟩
    go_wp2_with (fail)
    refine (wakes_any _).mono ?_; rintro e w2 ⟨rfl, hb2⟩
    have HB2 := Lib.hid hb2; clear hb2
    go_wp2_with (fail)
    go_ret
    exact ⟨rfl, HB2.out⟩
  · rw [decide_eq_false hlg] at HLA
    have hn : l.length ≤ 100000 := by omega
    clear hlg
    by_cases hz : s.size > 5000
    · have hgt : decide (((s.size : Nat) : Int) > 5000) = true := decide_eq_true (by omega)
      go_enter Try.func5, Try.ntmps5
      go_wp2_with (fail)
      refine (HLA.out _).mono ?_; rintro e w1 ⟨rfl, rfl⟩
      go_wp2_with (fail)
      refine (wakes_any _).mono ?_; rintro e w2 ⟨rfl, hb2⟩
      have HB2 := Lib.hid hb2; clear hb2
      go_wp2_with (fail)
      go_ret
      exact ⟨rfl, HB2.out⟩
    · have hgt : decide (((s.size : Nat) : Int) > 5000) = false := decide_eq_false (by omega)
      obtain ⟨t, n, htv⟩ := textV_form l
      have HTV := Lib.hid htv; clear htv
      have HPA := Lib.hid (fun v => parse_any s v hs)
      have HPB := Lib.hid (fun v => refParse_any s v hs)
      have HPL := Lib.hid (parse_length s)
      obtain ⟨r, hr⟩ : ∃ r, parseR s = r := ⟨_, rfl⟩
      rw [hr] at HPA HPB HPL
      clear hr hz
      go_enter Try.func5, Try.ntmps5
      go_wp2_with (fail)
      refine (HLA.out _).mono ?_; rintro e w1 ⟨rfl, rfl⟩
      go_wp2_with (fail)
      refine (few_any A c l _ HL.out hn).mono ?_; rintro e w2 ⟨A2, c2, rfl, hx2, hb2⟩
      have HX2 := Lib.hid hx2; have HL2 := Lib.hid (HL.out.below hb2); have HB2 := Lib.hid hb2
      clear hx2 hb2
      go_wp2_with (fail)
      refine (text_any A2 c2 l _ HX2.out hn).mono ?_; rintro e w3 ⟨rfl, hb3⟩
      have HL3 := Lib.hid (HL2.out.below hb3); have HB3 := Lib.hid (HB2.out.trans (hb3.mono HB2.out.size))
      clear hb3
      rw [HTV.out]
      go_wp2_with (fail)
      refine (refText_any A c l _ HL3.out).mono ?_; rintro e w4 ⟨rfl, hb4⟩
      have HB4 := Lib.hid (HB3.out.trans (hb4.mono HB3.out.size))
      clear hb4
      rw [HTV.out]
      go_wp2_with (fail)
      refine (HPA.out _).mono ?_; rintro e w5 ⟨A5, c5, rfl, hx5, hb5⟩
      have HX5 := Lib.hid hx5; have HB5 := Lib.hid (HB4.out.trans (hb5.mono HB4.out.size))
      clear hx5 hb5
      go_wp2_with (fail)
      refine (HPB.out _).mono ?_; rintro e w6 ⟨A6, c6, rfl, hx6, hb6⟩
      have HX6 := Lib.hid (HX5.out.below hb6); have HY6 := Lib.hid hx6; have HB6 := Lib.hid (HB5.out.trans (hb6.mono HB5.out.size))
      clear hx6 hb6
      have t2 : (n == n) = true := by simp
      have t3 : (r.2 == r.2) = true := by simp
      go_wp2_with (fail)
      refine (same_eq A5 A6 c5 c6 r.1 _ HX6.out HY6.out (Nat.le_trans HPL.out (by omega))).mono ?_; rintro e w7 ⟨rfl, hb7⟩
      have HB7 := Lib.hid (HB6.out.trans (hb7.mono HB6.out.size))
      clear hb7
      go_wp2_with (fail)
      refine (wakes_any _).mono ?_; rintro e wa ⟨rfl, hba⟩
      have HBa := Lib.hid (HB7.out.trans (hba.mono HB7.out.size)); clear hba
      go_wp2_with (fail)
      go_ret
      exact ⟨rfl, HBa.out⟩
end Go.Proofs.Ytdopcliicjmjeaa
