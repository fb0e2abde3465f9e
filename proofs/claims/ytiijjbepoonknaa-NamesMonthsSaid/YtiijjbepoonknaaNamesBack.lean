/- The call of NamesBack returns true. -/
import Derived.Test.YtiijjbepoonknaaNamesLaws
import Derived.Test.YtiijjbepoonknaaNamesPre
namespace Go.Proofs.Ytiijjbepoonknaa
open Go.RowKit
theorem all12 {P : Nat → Prop} (h0 : P 0) (h1 : P 1) (h2 : P 2) (h3 : P 3) (h4 : P 4) (h5 : P 5) (h6 : P 6) (h7 : P 7) (h8 : P 8) (h9 : P 9) (h10 : P 10) (h11 : P 11) : ∀ j, j < 12 → P j
  | 0, _ => h0 | 1, _ => h1 | 2, _ => h2 | 3, _ => h3 | 4, _ => h4 | 5, _ => h5 | 6, _ => h6 | 7, _ => h7 | 8, _ => h8 | 9, _ => h9 | 10, _ => h10 | 11, _ => h11
  | n + 12, h => absurd h (by omega)
theorem all4 {P : Nat → Prop} (h0 : P 0) (h1 : P 1) (h2 : P 2) (h3 : P 3) : ∀ j, j < 4 → P j
  | 0, _ => h0 | 1, _ => h1 | 2, _ => h2 | 3, _ => h3
  | n + 4, h => absurd h (by omega)
def bothB (h : ByteArray) : Bool := nameB h && decide (h.size ≤ 52)
theorem mon_i12 : monS i12 := ⟨all4 (by decide +kernel) (by decide +kernel) (by decide +kernel) (by decide +kernel), by decide +kernel, by decide +kernel, by decide +kernel, by decide +kernel, by decide +kernel, by decide +kernel⟩
theorem mon_n12 : monS n12 := ⟨all4 (by decide +kernel) (by decide +kernel) (by decide +kernel) (by decide +kernel), by decide +kernel, by decide +kernel, by decide +kernel, by decide +kernel, by decide +kernel, by decide +kernel⟩
theorem cls_i12 : ∀ j, j < 12 → clsF (byt i12 j) ≠ 0 := all12 (by decide +kernel) (by decide +kernel) (by decide +kernel) (by decide +kernel) (by decide +kernel) (by decide +kernel) (by decide +kernel) (by decide +kernel) (by decide +kernel) (by decide +kernel) (by decide +kernel) (by decide +kernel)
theorem cls_n12 : ∀ j, j < 12 → clsF (byt n12 j) ≠ 0 := all12 (by decide +kernel) (by decide +kernel) (by decide +kernel) (by decide +kernel) (by decide +kernel) (by decide +kernel) (by decide +kernel) (by decide +kernel) (by decide +kernel) (by decide +kernel) (by decide +kernel) (by decide +kernel)
theorem iqn_i12 (h : ByteArray) : iqnB (i12 ++ h) = bothB h := by
  rw [Bool.eq_iff_iff]
  unfold iqnB bothB
  rw [qual_pre (by rfl) (by decide +kernel) cls_i12, Bool.and_eq_true, decide_eq_true_iff]
  exact ⟨fun g => ⟨g.1, g.2.1⟩, fun g => ⟨g.1, g.2, by decide +kernel, mon_i12⟩⟩
theorem nqn_n12 (h : ByteArray) : nqnB (n12 ++ h) = bothB h := by
  rw [Bool.eq_iff_iff]
  unfold nqnB bothB
  rw [qual_pre (by rfl) (by decide +kernel) cls_n12, Bool.and_eq_true, decide_eq_true_iff]
  exact ⟨fun g => ⟨g.1, g.2.1⟩, fun g => ⟨g.1, g.2, by decide +kernel, mon_n12⟩⟩
theorem iqn_n12 (h : ByteArray) : iqnB (n12 ++ h) = false := by
  apply eq_false_of_ne_true
  unfold iqnB
  rw [qual_pre (by rfl) (by decide +kernel) cls_n12]
  exact fun g => absurd g.2.2.1 (by decide +kernel)
theorem nqn_i12 (h : ByteArray) : nqnB (i12 ++ h) = false := by
  apply eq_false_of_ne_true
  unfold nqnB
  rw [qual_pre (by rfl) (by decide +kernel) cls_i12]
  exact fun g => absurd g.2.2.1 (by decide +kernel)
theorem host_i12 {h : ByteArray} (g : bothB h = true) : hostS (i12 ++ h) = h := by
  rw [hostS_yes (either_iqn ((iqn_i12 h).trans g))]
  exact ext12 rfl
theorem host_n12 {h : ByteArray} (g : bothB h = true) : hostS (n12 ++ h) = h := by
  rw [hostS_yes (either_nqn ((nqn_n12 h).trans g))]
  exact ext12 rfl
set_option maxHeartbeats 2000000 in
theorem back_yes (h : ByteArray) (w : World) (hh : h.size ≤ 20000) (g : bothB h = true) :
    Calls Try.prog 5 #[.string h] w fun e w' => e = .returned (.bool true) ∧ Below w.heap.size w w' := by
  have F1 := Lib.hid ((iqn_i12 h).trans g)
  have F2 := Lib.hid ((nqn_n12 h).trans g)
  have F3 := Lib.hid (iqn_n12 h)
  have F4 := Lib.hid (nqn_i12 h)
  have F5 := Lib.hid (host_i12 g)
  have F6 := Lib.hid (host_n12 g)
  have F7 := Lib.hid (hostE_yes (either_iqn ((iqn_i12 h).trans g)))
  have F8 := Lib.hid (hostE_yes (either_nqn ((nqn_n12 h).trans g)))
  have hz1 : (i12 ++ h).size ≤ 20012 := by rw [ByteArray.size_append]; have : i12.size = 12 := rfl; omega
  have hz2 : (n12 ++ h).size ≤ 20012 := by rw [ByteArray.size_append]; have : n12.size = 12 := rfl; omega
  have Z1 := Lib.hid (show (i12 ++ h).size ≤ maxLen by unfold maxLen; omega)
  have Z2 := Lib.hid (show (n12 ++ h).size ≤ maxLen by unfold maxLen; omega)
  have Y1 := Lib.hid (show (i12 ++ h).size ≤ 281474976710656 by omega)
  have Y2 := Lib.hid (show (n12 ++ h).size ≤ 281474976710656 by omega)
  clear hz1 hz2 g
  go_enter Try.func5, Try.ntmps5
  go_wp2_with (fail)
  refine (asIqn_any h _ hh).mono ?_; rintro e w1 ⟨rfl, hb⟩
  rw [F1.out, asS_yes rfl, asE_yes rfl]
  have B1 := Lib.hid hb; clear hb
  go_wp2_with (fail)
  refine (asNqn_any h _ hh).mono ?_; rintro e w2 ⟨rfl, hb⟩
  rw [F2.out, asS_yes rfl, asE_yes rfl]
  have B2 := Lib.hid (B1.out.trans (hb.mono B1.out.size)); clear hb
  go_wp2_with (fail)
  refine (host_any _ _ Y1.out).mono ?_; rintro e w3 ⟨rfl, hb⟩
  rw [F5.out, F7.out]
  have B3 := Lib.hid (B2.out.trans (hb.mono B2.out.size)); clear hb
  go_wp2_with (fail)
  refine (host_any _ _ Y2.out).mono ?_; rintro e w4 ⟨rfl, hb⟩
  rw [F6.out, F8.out]
  have B4 := Lib.hid (B3.out.trans (hb.mono B3.out.size)); clear hb
  go_wp2_with (fail)
  refine (iqn_any _ _ Z1.out).mono ?_; rintro e w5 ⟨rfl, hb⟩
  rw [F1.out]
  have B5 := Lib.hid (B4.out.trans (hb.mono B4.out.size)); clear hb
  go_wp2_with (fail)
  refine (nqn_any _ _ Z2.out).mono ?_; rintro e w6 ⟨rfl, hb⟩
  rw [F2.out]
  have B6 := Lib.hid (B5.out.trans (hb.mono B5.out.size)); clear hb
  go_wp2_with (fail)
  refine (iqn_any _ _ Z2.out).mono ?_; rintro e w7 ⟨rfl, hb⟩
  rw [F3.out]
  have B7 := Lib.hid (B6.out.trans (hb.mono B6.out.size)); clear hb
  go_wp2_with (fail)
  refine (nqn_any _ _ Z1.out).mono ?_; rintro e w8 ⟨rfl, hb⟩
  rw [F4.out]
  have B8 := Lib.hid (B7.out.trans (hb.mono B7.out.size)); clear hb
  go_wp2_with (fail)
  refine (wakes_any _).mono ?_; rintro e w9 ⟨rfl, hb⟩
  have B9 := Lib.hid (B8.out.trans (hb.mono B8.out.size)); clear hb
  go_wp2_with (fail)
  go_ret
  exact ⟨rfl, B9.out⟩
set_option maxHeartbeats 2000000 in
theorem back_no (h : ByteArray) (w : World) (hh : h.size ≤ 20000) (g : bothB h = false) :
    Calls Try.prog 5 #[.string h] w fun e w' => e = .returned (.bool true) ∧ Below w.heap.size w w' := by
  have F1 := Lib.hid ((iqn_i12 h).trans g)
  have F2 := Lib.hid ((nqn_n12 h).trans g)
  clear g
  go_enter Try.func5, Try.ntmps5
  go_wp2_with (fail)
  refine (asIqn_any h _ hh).mono ?_; rintro e w1 ⟨rfl, hb⟩
  rw [F1.out, asS_no rfl, asE_no rfl]
  have B1 := Lib.hid hb; clear hb
  go_wp2_with (fail)
  refine (asNqn_any h _ hh).mono ?_; rintro e w2 ⟨rfl, hb⟩
  rw [F2.out, asS_no rfl, asE_no rfl]
  have B2 := Lib.hid (B1.out.trans (hb.mono B1.out.size)); clear hb
  go_wp2_with (fail)
  refine (wakes_any _).mono ?_; rintro e w9 ⟨rfl, hb⟩
  have B9 := Lib.hid (B2.out.trans (hb.mono B2.out.size)); clear hb
  go_wp2_with (fail)
  go_ret
  exact ⟨rfl, B9.out⟩
set_option maxHeartbeats 2000000 in
theorem back_any (h : ByteArray) (w : World) (hs : h.size ≤ maxLen) :
    Calls Try.prog 5 #[.string h] w fun e w' => e = .returned (.bool true) ∧ Below w.heap.size w w' := by
  by_cases hh : h.size ≤ 20000
  · cases g : bothB h with
    | true => exact back_yes h w hh g
    | false => exact back_no h w hh g
  · unfold maxLen at hs
    have h' : 20000 < h.size := by omega
    clear hh
    go_enter Try.func5, Try.ntmps5
    go_wp2_with (fail)
    refine (wakes_any _).mono ?_; rintro e w3 ⟨rfl, hb3⟩
    go_wp2_with (fail)
    go_ret
    exact ⟨rfl, hb3⟩
end Go.Proofs.Ytiijjbepoonknaa
