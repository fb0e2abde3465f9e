/- FrameBack: what was put is got; writes come back as they were. -/
import Derived.Test.YtoejfkalgmdjcaaDoorFrameSame
import Derived.Test.YtoejfkalgmdjcaaDoorFrameWakes
import Derived.Deep.Cut
namespace Go.Proofs.YtoejfkalgmdjcaaDoor
open Go.RowKit
theorem nil_app (u : ByteArray) : (⟨#[]⟩ : ByteArray) ++ u = u := by apply bytes_ext; rw [app_list]; rfl
theorem gotV_form (s : ByteArray) : ∃ a b c d, gotV s = .tuple #[a, b, c, d] := by
  by_cases h : getE s = 0
  · exact ⟨_, _, _, _, gotV_ok h⟩
  · exact ⟨_, _, _, _, gotV_no (by omega)⟩
set_option maxRecDepth 100000 in
set_option maxHeartbeats 4000000 in
theorem back_out1 (n : Nat) (t u : ByteArray) (A : Option Addr) (c : Nat) (l : List Wr) (w : World) (hl : Wrs w A l) (h : 70000 < t.size) (ht : Tab w) :
    Calls Tryd.prog 6 #[.int .u64 n, .agg #[.string t, .string u], .slice A l.length c] w fun e w' => e = .returned (.bool true) ∧ Below w.heap.size w w' := by
  have i1 : (70000 : Int) < t.size := by omega
  have HT := Lib.hid ht; clear ht
  have HL := Lib.hid hl; clear hl
  have HA := Lib.hid ((Below.refl w.heap.size w).alloc (Nat.le_refl _) (.cells #[.string t, .string u] 49))
  go_enter Tryd.func6, Tryd.ntmps6
  go_upto_region 1 with (fail)
  go_cut [7, 8] (fun s7 s8 wx => s7 = .string t ∧ s8 = .string u ∧ Below w.heap.size w wx)
  case first =>
    go_quiet (fail)
    go_wp2_with (fail)
    go_meet
    exact ⟨rfl, rfl, HA.out.os, HA.out.tape, HA.out.output, HA.out.size, HA.out.block⟩
  case rest =>
    obtain ⟨rfl, rfl, hbc⟩ := hcut
    have HB := Lib.hid hbc; clear hbc
    go_wp2_with (fail)
    refine (wakes_any _ (HT.out.below HB.out)).mono ?_; rintro e w1 ⟨rfl, hb1⟩
    have H1 := Lib.hid (HB.out.trans (hb1.mono HB.out.size)); clear hb1
    go_wp2
    go_ret
    exact ⟨rfl, H1.out⟩
set_option maxRecDepth 100000 in
set_option maxHeartbeats 4000000 in
theorem back_out2 (n : Nat) (t u : ByteArray) (A : Option Addr) (c : Nat) (l : List Wr) (w : World) (hl : Wrs w A l) (h : ¬ 70000 < t.size) (h2 : 70000 < u.size) (ht : Tab w) :
    Calls Tryd.prog 6 #[.int .u64 n, .agg #[.string t, .string u], .slice A l.length c] w fun e w' => e = .returned (.bool true) ∧ Below w.heap.size w w' := by
  have i1 : ¬ (70000 : Int) < t.size := by omega
  have i2 : (70000 : Int) < u.size := by omega
  have HT := Lib.hid ht; clear ht
  have HL := Lib.hid hl; clear hl
  have HA := Lib.hid ((Below.refl w.heap.size w).alloc (Nat.le_refl _) (.cells #[.string t, .string u] 49))
  go_enter Tryd.func6, Tryd.ntmps6
  go_upto_region 1 with (fail)
  go_cut [7, 8] (fun s7 s8 wx => s7 = .string t ∧ s8 = .string u ∧ Below w.heap.size w wx)
  case first =>
    go_quiet (fail)
    go_wp2_with (fail)
    go_meet
    exact ⟨rfl, rfl, HA.out.os, HA.out.tape, HA.out.output, HA.out.size, HA.out.block⟩
  case rest =>
    obtain ⟨rfl, rfl, hbc⟩ := hcut
    have HB := Lib.hid hbc; clear hbc
    go_wp2_with (fail)
    refine (wakes_any _ (HT.out.below HB.out)).mono ?_; rintro e w1 ⟨rfl, hb1⟩
    have H1 := Lib.hid (HB.out.trans (hb1.mono HB.out.size)); clear hb1
    go_wp2
    go_ret
    exact ⟨rfl, H1.out⟩
set_option maxRecDepth 100000 in
set_option maxHeartbeats 4000000 in
theorem back_out3 (n : Nat) (t u : ByteArray) (A : Option Addr) (c : Nat) (l : List Wr) (w : World) (hl : Wrs w A l) (h : ¬ 70000 < t.size) (h2 : ¬ 70000 < u.size) (h3 : 200 < l.length) (ht : Tab w) :
    Calls Tryd.prog 6 #[.int .u64 n, .agg #[.string t, .string u], .slice A l.length c] w fun e w' => e = .returned (.bool true) ∧ Below w.heap.size w w' := by
  have i1 : ¬ (70000 : Int) < t.size := by omega
  have i2 : ¬ (70000 : Int) < u.size := by omega
  have i3 : (200 : Int) < l.length := by omega
  have HT := Lib.hid ht; clear ht
  have HL := Lib.hid hl; clear hl
  have HA := Lib.hid ((Below.refl w.heap.size w).alloc (Nat.le_refl _) (.cells #[.string t, .string u] 49))
  go_enter Tryd.func6, Tryd.ntmps6
  go_upto_region 1 with (fail)
  go_cut [7, 8] (fun s7 s8 wx => s7 = .string t ∧ s8 = .string u ∧ Below w.heap.size w wx)
  case first =>
    go_quiet (fail)
    go_wp2_with (fail)
    go_meet
    exact ⟨rfl, rfl, HA.out.os, HA.out.tape, HA.out.output, HA.out.size, HA.out.block⟩
  case rest =>
    obtain ⟨rfl, rfl, hbc⟩ := hcut
    have HB := Lib.hid hbc; clear hbc
    go_wp2_with (fail)
    refine (wakes_any _ (HT.out.below HB.out)).mono ?_; rintro e w1 ⟨rfl, hb1⟩
    have H1 := Lib.hid (HB.out.trans (hb1.mono HB.out.size)); clear hb1
    go_wp2
    go_ret
    exact ⟨rfl, H1.out⟩
set_option maxRecDepth 100000 in
set_option maxHeartbeats 4000000 in
theorem back_long (n : Nat) (t u : ByteArray) (A : Option Addr) (c : Nat) (l : List Wr) (w : World) (hl : Wrs w A l) (h : ¬ 70000 < t.size) (h2 : ¬ 70000 < u.size) (h3 : ¬ 200 < l.length) (h4 : 65536 < t.size) (ht : Tab w) :
    Calls Tryd.prog 6 #[.int .u64 n, .agg #[.string t, .string u], .slice A l.length c] w fun e w' => e = .returned (.bool true) ∧ Below w.heap.size w w' := by
  have i1 : ¬ (70000 : Int) < t.size := by omega
  have i2 : ¬ (70000 : Int) < u.size := by omega
  have i3 : ¬ (200 : Int) < l.length := by omega
  have i4 : (65536 : Int) < t.size := by omega
  have hz : ((⟨#[]⟩ : ByteArray) ++ u).size = u.size := by rw [ByteArray.size_append]; show 0 + u.size = u.size; omega
  have HT := Lib.hid ht; clear ht
  have HL := Lib.hid hl; clear hl
  have HA := Lib.hid ((Below.refl w.heap.size w).alloc (Nat.le_refl _) (.cells #[.string t, .string u] 49))
  go_enter Tryd.func6, Tryd.ntmps6
  go_upto_region 1 with (fail)
  go_cut [7, 8] (fun s7 s8 wx => s7 = .string t ∧ s8 = .string u ∧ Below w.heap.size w wx)
  case first =>
    go_quiet (fail)
    go_wp2_with (fail)
    go_meet
    exact ⟨rfl, rfl, HA.out.os, HA.out.tape, HA.out.output, HA.out.size, HA.out.block⟩
  case rest =>
    obtain ⟨rfl, rfl, hbc⟩ := hcut
    have HB := Lib.hid hbc; clear hbc
    go_wp2_with (fail)
    refine (put_long n t _ h4).mono ?_; rintro e w' ⟨rfl, rfl⟩
    go_wp2_with (fail)
    rw [nil_app]
    obtain ⟨a, b, d, e, hg⟩ := gotV_form u
    refine (get_any u _ (by unfold maxLen; omega) (HT.out.below HB.out)).mono ?_; rintro e1 w1 ⟨rfl, hb1⟩
    have H1 := Lib.hid (HB.out.trans (hb1.mono HB.out.size)); clear hb1
    rw [hg]
    go_wp2_with (fail)
    refine (wakes_any _ (HT.out.below H1.out)).mono ?_; rintro e2 w2 ⟨rfl, hb2⟩
    have H2 := Lib.hid (H1.out.trans (hb2.mono H1.out.size)); clear hb2
    go_wp2
    go_ret
    exact ⟨rfl, H2.out⟩
set_option maxRecDepth 100000 in
set_option maxHeartbeats 4000000 in
theorem back_many (n : Nat) (t u : ByteArray) (A : Option Addr) (c : Nat) (l : List Wr) (w : World) (hl : Wrs w A l) (hn : n < 18446744073709551616) (h : ¬ 65536 < t.size) (h2 : ¬ 70000 < u.size) (h3 : ¬ 200 < l.length) (h4 : 80 < l.length) (ht : Tab w) :
    Calls Tryd.prog 6 #[.int .u64 n, .agg #[.string t, .string u], .slice A l.length c] w fun e w' => e = .returned (.bool true) ∧ Below w.heap.size w w' := by
  have i1 : ¬ (70000 : Int) < t.size := by omega
  have i2 : ¬ (70000 : Int) < u.size := by omega
  have i3 : ¬ (200 : Int) < l.length := by omega
  have i4 : ¬ (65536 : Int) < t.size := by omega
  have HWV := Lib.hid (wroteV_many h4)
  have HT := Lib.hid ht; clear ht
  have HL := Lib.hid hl; clear hl
  have HA := Lib.hid ((Below.refl w.heap.size w).alloc (Nat.le_refl _) (.cells #[.string t, .string u] 49))
  go_enter Tryd.func6, Tryd.ntmps6
  go_upto_region 1 with (fail)
  go_cut [7, 8] (fun s7 s8 wx => s7 = .string t ∧ s8 = .string u ∧ Below w.heap.size w wx)
  case first =>
    go_quiet (fail)
    go_wp2_with (fail)
    go_meet
    exact ⟨rfl, rfl, HA.out.os, HA.out.tape, HA.out.output, HA.out.size, HA.out.block⟩
  case rest =>
    obtain ⟨rfl, rfl, hbc⟩ := hcut
    have HB := Lib.hid hbc; clear hbc
    have hp := put_of n t u hn (by omega)
    have hg := Lib.hid (hp.got (by omega))
    have hps := putS_size n t
    have hsr := sec_room t.size
    have hcat : (putS n t ++ u).size = (putS n t).size + u.size := ByteArray.size_append
    clear hp
    go_wp2_with (fail)
    refine (put_ok n t _ (by omega) (HT.out.below HB.out)).mono ?_; rintro e w1 ⟨rfl, hb1⟩
    have H1 := Lib.hid (HB.out.trans (hb1.mono HB.out.size)); clear hb1
    generalize putS n t = f at *
    have hno : ¬ 9223372036854775807 < f.size + u.size := by omega
    have hss : (512 * (secF t.size : Int)) = (f.size : Int) := by omega
    have hss2 : ((512 * secF t.size : Nat) : Int) = (f.size : Int) := by omega
    have hqq : secF t.size ≤ 129 := by unfold secF; omega
    have HPS := Lib.hid hps; clear hps
    go_wp2_with (fail)
    refine (get_any (f ++ u) _ (by unfold maxLen; omega) (HT.out.below H1.out)).mono ?_; rintro e w2 ⟨rfl, hb2⟩
    have H2 := Lib.hid (H1.out.trans (hb2.mono H1.out.size)); clear hb2
    rw [hg.out, hss2]
    go_wp2_with (fail)
    refine (sectors_in t.size _ (by omega)).mono ?_; rintro e w' ⟨rfl, rfl⟩
    have HLL := Lib.hid ((HL.out.below H2.out).below ((Below.refl _ w2).alloc (Nat.le_refl _) (.cells #[] 40)))
    have HX := Lib.hid (H2.out.alloc H2.out.size (.cells #[] 40))
    have HM := Lib.hid (show l.length * 24 ≤ 140737488355328 by omega)
    go_wp2_with (at_builtin; refine wpList_append_wrs rfl (.tmp 91) (.tmp 92) rfl w2.heap.size (.slice (some ⟨w2.heap.size, 0, none⟩) 0 0) rfl (own_empty w2) A c l rfl HLL.out HM.out (by simp) ?_; intro A3 c3 w3 hn3 hg3; have H3 := Lib.hid hn3; have HG3 := Lib.hid hg3; clear hn3 hg3)
    have HB3 := Lib.hid (HX.out.grown HG3.out HX.out.size (fun k hk => by have e : w2.heap.size = k := (by simpa [Value.ownBlock] using hk); have := H2.out.size; omega))
    refine (writes_any A3 c3 l _ H3.out).mono ?_; rintro e w4 ⟨rfl, hb4⟩
    have H4 := Lib.hid (HB3.out.trans (hb4.mono HB3.out.size)); clear hb4
    rw [HWV.out]
    go_wp2_with (fail)
    refine (wakes_any _ (HT.out.below H4.out)).mono ?_; rintro e w5 ⟨rfl, hb5⟩
    have H5 := Lib.hid (H4.out.trans (hb5.mono H4.out.size)); clear hb5
    go_wp2
    go_ret
    exact ⟨rfl, H5.out⟩
set_option maxRecDepth 100000 in
set_option maxHeartbeats 4000000 in
theorem back_bad (n : Nat) (t u : ByteArray) (A : Option Addr) (c : Nat) (l : List Wr) (w : World) (hl : Wrs w A l) (hn : n < 18446744073709551616) (h : ¬ 65536 < t.size) (h2 : ¬ 70000 < u.size) (h3 : ¬ 200 < l.length) (h4 : l.length ≤ 80) (ho : l.all okW = false) (ht : Tab w) :
    Calls Tryd.prog 6 #[.int .u64 n, .agg #[.string t, .string u], .slice A l.length c] w fun e w' => e = .returned (.bool true) ∧ Below w.heap.size w w' := by
  have i1 : ¬ (70000 : Int) < t.size := by omega
  have i2 : ¬ (70000 : Int) < u.size := by omega
  have i3 : ¬ (200 : Int) < l.length := by omega
  have i4 : ¬ (65536 : Int) < t.size := by omega
  have HWV := Lib.hid (wroteV_bad h4 ho)
  clear ho
  have HT := Lib.hid ht; clear ht
  have HL := Lib.hid hl; clear hl
  have HA := Lib.hid ((Below.refl w.heap.size w).alloc (Nat.le_refl _) (.cells #[.string t, .string u] 49))
  go_enter Tryd.func6, Tryd.ntmps6
  go_upto_region 1 with (fail)
  go_cut [7, 8] (fun s7 s8 wx => s7 = .string t ∧ s8 = .string u ∧ Below w.heap.size w wx)
  case first =>
    go_quiet (fail)
    go_wp2_with (fail)
    go_meet
    exact ⟨rfl, rfl, HA.out.os, HA.out.tape, HA.out.output, HA.out.size, HA.out.block⟩
  case rest =>
    obtain ⟨rfl, rfl, hbc⟩ := hcut
    have HB := Lib.hid hbc; clear hbc
    have hp := put_of n t u hn (by omega)
    have hg := Lib.hid (hp.got (by omega))
    have hps := putS_size n t
    have hsr := sec_room t.size
    have hcat : (putS n t ++ u).size = (putS n t).size + u.size := ByteArray.size_append
    clear hp
    go_wp2_with (fail)
    refine (put_ok n t _ (by omega) (HT.out.below HB.out)).mono ?_; rintro e w1 ⟨rfl, hb1⟩
    have H1 := Lib.hid (HB.out.trans (hb1.mono HB.out.size)); clear hb1
    generalize putS n t = f at *
    have hno : ¬ 9223372036854775807 < f.size + u.size := by omega
    have hss : (512 * (secF t.size : Int)) = (f.size : Int) := by omega
    have hss2 : ((512 * secF t.size : Nat) : Int) = (f.size : Int) := by omega
    have hqq : secF t.size ≤ 129 := by unfold secF; omega
    have HPS := Lib.hid hps; clear hps
    go_wp2_with (fail)
    refine (get_any (f ++ u) _ (by unfold maxLen; omega) (HT.out.below H1.out)).mono ?_; rintro e w2 ⟨rfl, hb2⟩
    have H2 := Lib.hid (H1.out.trans (hb2.mono H1.out.size)); clear hb2
    rw [hg.out, hss2]
    go_wp2_with (fail)
    refine (sectors_in t.size _ (by omega)).mono ?_; rintro e w' ⟨rfl, rfl⟩
    have HLL := Lib.hid ((HL.out.below H2.out).below ((Below.refl _ w2).alloc (Nat.le_refl _) (.cells #[] 40)))
    have HX := Lib.hid (H2.out.alloc H2.out.size (.cells #[] 40))
    have HM := Lib.hid (show l.length * 24 ≤ 140737488355328 by omega)
    go_wp2_with (at_builtin; refine wpList_append_wrs rfl (.tmp 91) (.tmp 92) rfl w2.heap.size (.slice (some ⟨w2.heap.size, 0, none⟩) 0 0) rfl (own_empty w2) A c l rfl HLL.out HM.out (by simp) ?_; intro A3 c3 w3 hn3 hg3; have H3 := Lib.hid hn3; have HG3 := Lib.hid hg3; clear hn3 hg3)
    have HB3 := Lib.hid (HX.out.grown HG3.out HX.out.size (fun k hk => by have e : w2.heap.size = k := (by simpa [Value.ownBlock] using hk); have := H2.out.size; omega))
    refine (writes_any A3 c3 l _ H3.out).mono ?_; rintro e w4 ⟨rfl, hb4⟩
    have H4 := Lib.hid (HB3.out.trans (hb4.mono HB3.out.size)); clear hb4
    rw [HWV.out]
    go_wp2_with (fail)
    refine (wakes_any _ (HT.out.below H4.out)).mono ?_; rintro e w5 ⟨rfl, hb5⟩
    have H5 := Lib.hid (H4.out.trans (hb5.mono H4.out.size)); clear hb5
    go_wp2
    go_ret
    exact ⟨rfl, H5.out⟩
set_option maxRecDepth 100000 in
set_option maxHeartbeats 4000000 in
theorem back_ok (n : Nat) (t u : ByteArray) (A : Option Addr) (c : Nat) (l : List Wr) (w : World) (hl : Wrs w A l) (hn : n < 18446744073709551616) (h : ¬ 65536 < t.size) (h2 : ¬ 70000 < u.size) (h3 : ¬ 200 < l.length) (h4 : l.length ≤ 80) (ho : l.all okW = true) (ht : Tab w) :
    Calls Tryd.prog 6 #[.int .u64 n, .agg #[.string t, .string u], .slice A l.length c] w fun e w' => e = .returned (.bool true) ∧ Below w.heap.size w w' := by
  have i1 : ¬ (70000 : Int) < t.size := by omega
  have i2 : ¬ (70000 : Int) < u.size := by omega
  have i3 : ¬ (200 : Int) < l.length := by omega
  have i4 : ¬ (65536 : Int) < t.size := by omega
  have HWV := Lib.hid (wroteV_ok h4 ho)
  have HSO := Lib.hid (text_ok l ho h4)
  have HTB := Lib.hid (text_back l ho h4)
  have HTC := Lib.hid (text_count l ho h4)
  have hts := text_size l ho
  clear ho
  have HT := Lib.hid ht; clear ht
  have HL := Lib.hid hl; clear hl
  have HA := Lib.hid ((Below.refl w.heap.size w).alloc (Nat.le_refl _) (.cells #[.string t, .string u] 49))
  go_enter Tryd.func6, Tryd.ntmps6
  go_upto_region 1 with (fail)
  go_cut [7, 8] (fun s7 s8 wx => s7 = .string t ∧ s8 = .string u ∧ Below w.heap.size w wx)
  case first =>
    go_quiet (fail)
    go_wp2_with (fail)
    go_meet
    exact ⟨rfl, rfl, HA.out.os, HA.out.tape, HA.out.output, HA.out.size, HA.out.block⟩
  case rest =>
    obtain ⟨rfl, rfl, hbc⟩ := hcut
    have HB := Lib.hid hbc; clear hbc
    have hp := put_of n t u hn (by omega)
    have hg := Lib.hid (hp.got (by omega))
    have hps := putS_size n t
    have hsr := sec_room t.size
    have hcat : (putS n t ++ u).size = (putS n t).size + u.size := ByteArray.size_append
    clear hp
    go_wp2_with (fail)
    refine (put_ok n t _ (by omega) (HT.out.below HB.out)).mono ?_; rintro e w1 ⟨rfl, hb1⟩
    have H1 := Lib.hid (HB.out.trans (hb1.mono HB.out.size)); clear hb1
    generalize putS n t = f at *
    have hno : ¬ 9223372036854775807 < f.size + u.size := by omega
    have hss : (512 * (secF t.size : Int)) = (f.size : Int) := by omega
    have hss2 : ((512 * secF t.size : Nat) : Int) = (f.size : Int) := by omega
    have hqq : secF t.size ≤ 129 := by unfold secF; omega
    have HPS := Lib.hid hps; clear hps
    go_wp2_with (fail)
    refine (get_any (f ++ u) _ (by unfold maxLen; omega) (HT.out.below H1.out)).mono ?_; rintro e w2 ⟨rfl, hb2⟩
    have H2 := Lib.hid (H1.out.trans (hb2.mono H1.out.size)); clear hb2
    rw [hg.out, hss2]
    go_wp2_with (fail)
    refine (sectors_in t.size _ (by omega)).mono ?_; rintro e w' ⟨rfl, rfl⟩
    have HLL := Lib.hid ((HL.out.below H2.out).below ((Below.refl _ w2).alloc (Nat.le_refl _) (.cells #[] 40)))
    have HX := Lib.hid (H2.out.alloc H2.out.size (.cells #[] 40))
    have HM := Lib.hid (show l.length * 24 ≤ 140737488355328 by omega)
    go_wp2_with (at_builtin; refine wpList_append_wrs rfl (.tmp 91) (.tmp 92) rfl w2.heap.size (.slice (some ⟨w2.heap.size, 0, none⟩) 0 0) rfl (own_empty w2) A c l rfl HLL.out HM.out (by simp) ?_; intro A3 c3 w3 hn3 hg3; have H3 := Lib.hid hn3; have HG3 := Lib.hid hg3; clear hn3 hg3)
    have HB3 := Lib.hid (HX.out.grown HG3.out HX.out.size (fun k hk => by have e : w2.heap.size = k := (by simpa [Value.ownBlock] using hk); have := H2.out.size; omega))
    refine (writes_any A3 c3 l _ H3.out).mono ?_; rintro e w4 ⟨rfl, hb4⟩
    have H4 := Lib.hid (HB3.out.trans (hb4.mono HB3.out.size)); clear hb4
    rw [HWV.out]
    go_wp2_with (fail)
    refine (split_ok (textW l) _ (by omega) HSO.out).mono ?_; rintro e w5 ⟨A5, c5, rfl, hw5, hb5⟩
    rw [HTB.out] at hw5
    rw [HTC.out]
    have H5 := Lib.hid (H4.out.trans (hb5.mono H4.out.size)); clear hb5
    have HW5 := Lib.hid hw5; clear hw5
    go_wp2_with (fail)
    refine (same_eq A5 A c5 c l _ HW5.out (HL.out.below H5.out) (by omega)).mono ?_; rintro e w6 ⟨rfl, hb6⟩
    have H6 := Lib.hid (H5.out.trans (hb6.mono H5.out.size)); clear hb6
    go_wp2_with (fail)
    refine (wakes_any _ (HT.out.below H6.out)).mono ?_; rintro e w7 ⟨rfl, hb7⟩
    have H7 := Lib.hid (H6.out.trans (hb7.mono H6.out.size)); clear hb7
    go_wp2
    go_ret
    exact ⟨rfl, H7.out⟩
theorem back_any (n : Nat) (t u : ByteArray) (A : Option Addr) (c : Nat) (l : List Wr) (w : World) (hl : Wrs w A l) (hn : n < 18446744073709551616) (ht : Tab w) :
    Calls Tryd.prog 6 #[.int .u64 n, .agg #[.string t, .string u], .slice A l.length c] w fun e w' => e = .returned (.bool true) ∧ Below w.heap.size w w' := by
  by_cases h1 : 70000 < t.size
  · exact back_out1 n t u A c l w hl h1 ht
  · by_cases h2 : 70000 < u.size
    · exact back_out2 n t u A c l w hl h1 h2 ht
    · by_cases h3 : 200 < l.length
      · exact back_out3 n t u A c l w hl h1 h2 h3 ht
      · by_cases h5 : 65536 < t.size
        · exact back_long n t u A c l w hl h1 h2 h3 h5 ht
        · by_cases h4 : 80 < l.length
          · exact back_many n t u A c l w hl hn h5 h2 h3 h4 ht
          · cases ho : l.all okW with
            | false => exact back_bad n t u A c l w hl hn h5 h2 h3 (by omega) ho ht
            | true => exact back_ok n t u A c l w hl hn h5 h2 h3 (by omega) ho ht
end Go.Proofs.YtoejfkalgmdjcaaDoor
