/- Name of the document answers nameB. -/
import Derived.Test.YtacogfllnhopoaaNamesName
namespace Go.Proofs.Ytacogfllnhopoaa
open Go.RowKit
theorem cls_none {c : Nat} (h1 : letB c = false) (h2 : digB c = false) (h3 : ¬ c = 46) (h4 : ¬ c = 45) (h5 : ¬ c = 58) : clsF c = 0 := by
  unfold letB at h1
  unfold digB at h2
  unfold clsF
  rw [if_neg (of_decide_eq_false h1), if_neg (of_decide_eq_false h2), if_neg (by omega)]
theorem cls_let {c : Nat} (h : letB c = true) : clsF c ≠ 0 := by
  rw [letB_is] at h
  rw [of_decide_eq_true h]; decide
theorem cls_dig {c : Nat} (h : digB c = true) : clsF c ≠ 0 := by
  rw [digB_is] at h
  rw [of_decide_eq_true h]; decide
theorem cls_mark {c : Nat} (h : c = 46 ∨ c = 45 ∨ c = 58) : clsF c ≠ 0 := by
  rcases h with h | h | h <;> (subst h; decide)
theorem nameB_first {s : ByteArray} (h : letB (byt s 0) = false) : nameB s = false := decide_eq_false fun g => by
  rw [letB_is] at h
  exact of_decide_eq_false h g.2.2.1
theorem nameB_yes {s : ByteArray} (h1 : 1 ≤ s.size) (h2 : s.size ≤ 64) (h : letB (byt s 0) = true) (g : okUpto s s.size) : nameB s = true := by
  rw [nameB_end h1 h2 g, ← letB_is, h]
set_option maxHeartbeats 400000 in
theorem refName_size (s : ByteArray) (w : World) (hs : s.size ≤ maxLen) (h : s.size < 1 ∨ 64 < s.size) :
    Calls Try.prog 20 #[.string s] w fun e w' => e = .returned (.bool (nameB s)) ∧ w = w' := by
  unfold maxLen at hs
  rcases h with h | h
  · have HN := Lib.hid (nameB_short h)
    have hd : decide ((s.size : Int) < 1) = true := by simp; omega
    go_enter Try.func20, Try.ntmps20
    go_wp2_with (fail)
    go_ret
    exact ⟨ret_bool HN.out.symm, rfl⟩
  · have HN := Lib.hid (nameB_long h)
    have hd : decide ((s.size : Int) < 1) = false := by simp; omega
    have hd2 : decide (64 < (s.size : Int)) = true := by simp; omega
    go_enter Try.func20, Try.ntmps20
    go_wp2_with (fail)
    go_ret
    exact ⟨ret_bool HN.out.symm, rfl⟩
set_option maxHeartbeats 400000 in
theorem refName_first (s : ByteArray) (w : World) (h1 : 1 ≤ s.size) (h2 : s.size ≤ 64) (hf : letB (byt s 0) = false) :
    Calls Try.prog 20 #[.string s] w fun e w' => e = .returned (.bool (nameB s)) ∧ w = w' := by
  have HN := Lib.hid (nameB_first hf)
  have hd : decide ((s.size : Int) < 1) = false := by simp; omega
  have hd2 : decide (64 < (s.size : Int)) = false := by simp; omega
  rw [byt_eq s 0 h1] at hf
  have HF := Lib.hid hf; clear hf
  go_enter Try.func20, Try.ntmps20
  go_wp2_with (fail)
  refine (letter_any _ _ (UInt8.toNat_lt _)).mono ?_; rintro e w' ⟨rfl, rfl⟩
  rw [HF.out]
  go_wp2_with (fail)
  go_ret
  exact ⟨ret_bool HN.out.symm, rfl⟩
set_option maxHeartbeats 1000000 in
theorem refName_in (s : ByteArray) (w : World) (h1 : 1 ≤ s.size) (h2 : s.size ≤ 64) (hf : letB (byt s 0) = true) :
    Calls Try.prog 20 #[.string s] w fun e w' => e = .returned (.bool (nameB s)) ∧ w = w' := by
  have H0 := Lib.hid hf
  have hd : decide ((s.size : Int) < 1) = false := by simp; omega
  have hd2 : decide (64 < (s.size : Int)) = false := by simp; omega
  rw [byt_eq s 0 h1] at hf
  have HF := Lib.hid hf; clear hf
  go_enter Try.func20, Try.ntmps20
  go_wp2_with (fail)
  refine (letter_any _ _ (UInt8.toNat_lt _)).mono ?_; rintro e w' ⟨rfl, rfl⟩
  rw [HF.out]
  go_wp2_with (fail)
  go_loop [3] (fun i => ∃ k : Nat, k ≤ s.size ∧ i = .int .i64 k ∧ okUpto s k) (fun i => s.size - (intOf i).toNat)
  case atStart => exact ⟨0, Nat.zero_le _, rfl, okUpto_zero s⟩
  case round =>
    obtain ⟨k, hk, rfl, hok⟩ := hrel
    have HO := Lib.hid hok; clear hok
    by_cases hlt : k < s.size
    · have hbe := byt_eq s k hlt
      by_cases hL : letB (byt s k) = true
      · have HK := Lib.hid (okUpto_succ HO.out (cls_let hL))
        rw [hbe] at hL
        have HL := Lib.hid hL; clear hL hbe
        go_wp2_with (fail)
        refine (letter_any _ _ (UInt8.toNat_lt _)).mono ?_; rintro e w' ⟨rfl, rfl⟩
        rw [HL.out]
        go_wp2_with (fail)
        go_round
        case rel => exact ⟨k + 1, by omega, by go_num, HK.out⟩
        case measure => simp [intOf]; omega
      · have hL := eq_false_of_ne_true hL
        by_cases hD : digB (byt s k) = true
        · have HK := Lib.hid (okUpto_succ HO.out (cls_dig hD))
          rw [hbe] at hL hD
          have HL := Lib.hid hL; clear hL
          have HD := Lib.hid hD; clear hD hbe
          go_wp2_with (fail)
          refine (letter_any _ _ (UInt8.toNat_lt _)).mono ?_; rintro e w' ⟨rfl, rfl⟩
          rw [HL.out]
          go_wp2_with (fail)
          refine (digit_any _ _ (UInt8.toNat_lt _)).mono ?_; rintro e w' ⟨rfl, rfl⟩
          rw [HD.out]
          go_wp2_with (fail)
          go_round
          case rel => exact ⟨k + 1, by omega, by go_num, HK.out⟩
          case measure => simp [intOf]; omega
        · have hD := eq_false_of_ne_true hD
          by_cases h46 : byt s k = 46
          · have HK := Lib.hid (okUpto_succ HO.out (cls_mark (.inl h46)))
            rw [hbe] at hL hD h46
            have HL := Lib.hid hL; clear hL
            have HD := Lib.hid hD; clear hD hbe
            have n46 : ((s[k].toNat : Int) != 46) = false := by rw [bne_eq_false_iff_eq]; omega
            clear h46
            go_wp2_with (fail)
            refine (letter_any _ _ (UInt8.toNat_lt _)).mono ?_; rintro e w' ⟨rfl, rfl⟩
            rw [HL.out]
            go_wp2_with (fail)
            refine (digit_any _ _ (UInt8.toNat_lt _)).mono ?_; rintro e w' ⟨rfl, rfl⟩
            rw [HD.out]
            go_wp2_with (fail)
            go_round
            case rel => exact ⟨k + 1, by omega, by go_num, HK.out⟩
            case measure => simp [intOf]; omega
          · by_cases h45 : byt s k = 45
            · have HK := Lib.hid (okUpto_succ HO.out (cls_mark (.inr (.inl h45))))
              rw [hbe] at hL hD h45 h46
              have HL := Lib.hid hL; clear hL
              have HD := Lib.hid hD; clear hD hbe
              have n46 : ((s[k].toNat : Int) != 46) = true := by rw [bne_iff_ne]; omega
              have n45 : ((s[k].toNat : Int) != 45) = false := by rw [bne_eq_false_iff_eq]; omega
              clear h45 h46
              go_wp2_with (fail)
              refine (letter_any _ _ (UInt8.toNat_lt _)).mono ?_; rintro e w' ⟨rfl, rfl⟩
              rw [HL.out]
              go_wp2_with (fail)
              refine (digit_any _ _ (UInt8.toNat_lt _)).mono ?_; rintro e w' ⟨rfl, rfl⟩
              rw [HD.out]
              go_wp2_with (fail)
              go_round
              case rel => exact ⟨k + 1, by omega, by go_num, HK.out⟩
              case measure => simp [intOf]; omega
            · by_cases h58 : byt s k = 58
              · have HK := Lib.hid (okUpto_succ HO.out (cls_mark (.inr (.inr h58))))
                rw [hbe] at hL hD h45 h46 h58
                have HL := Lib.hid hL; clear hL
                have HD := Lib.hid hD; clear hD hbe
                have n46 : ((s[k].toNat : Int) != 46) = true := by rw [bne_iff_ne]; omega
                have n45 : ((s[k].toNat : Int) != 45) = true := by rw [bne_iff_ne]; omega
                have n58 : ((s[k].toNat : Int) != 58) = false := by rw [bne_eq_false_iff_eq]; omega
                clear h45 h46 h58
                go_wp2_with (fail)
                refine (letter_any _ _ (UInt8.toNat_lt _)).mono ?_; rintro e w' ⟨rfl, rfl⟩
                rw [HL.out]
                go_wp2_with (fail)
                refine (digit_any _ _ (UInt8.toNat_lt _)).mono ?_; rintro e w' ⟨rfl, rfl⟩
                rw [HD.out]
                go_wp2_with (fail)
                go_round
                case rel => exact ⟨k + 1, by omega, by go_num, HK.out⟩
                case measure => simp [intOf]; omega
              · have HF := Lib.hid (nameB_no hlt (cls_none hL hD h46 h45 h58))
                rw [hbe] at hL hD h45 h46 h58
                have HL := Lib.hid hL; clear hL
                have HD := Lib.hid hD; clear hD hbe
                have n46 : ((s[k].toNat : Int) != 46) = true := by rw [bne_iff_ne]; omega
                have n45 : ((s[k].toNat : Int) != 45) = true := by rw [bne_iff_ne]; omega
                have n58 : ((s[k].toNat : Int) != 58) = true := by rw [bne_iff_ne]; omega
                clear h45 h46 h58
                go_wp2_with (fail)
                refine (letter_any _ _ (UInt8.toNat_lt _)).mono ?_; rintro e w' ⟨rfl, rfl⟩
                rw [HL.out]
                go_wp2_with (fail)
                refine (digit_any _ _ (UInt8.toNat_lt _)).mono ?_; rintro e w' ⟨rfl, rfl⟩
                rw [HD.out]
                go_wp2_with (fail)
                go_ret
                exact ⟨ret_bool HF.out.symm, rfl⟩
    · obtain rfl : k = s.size := by omega
      have HN := Lib.hid (nameB_yes h1 h2 H0.out HO.out)
      go_wp2_with (fail)
      go_ret
      exact ⟨ret_bool HN.out.symm, rfl⟩
theorem refName_any (s : ByteArray) (w : World) (hs : s.size ≤ maxLen) :
    Calls Try.prog 20 #[.string s] w fun e w' => e = .returned (.bool (nameB s)) ∧ w = w' := by
  by_cases h1 : 1 ≤ s.size
  · by_cases h2 : s.size ≤ 64
    · cases hf : letB (byt s 0) with
      | true => exact refName_in s w h1 h2 hf
      | false => exact refName_first s w h1 h2 hf
    · exact refName_size s w hs (.inr (by omega))
  · exact refName_size s w hs (.inl (by omega))
end Go.Proofs.Ytacogfllnhopoaa
