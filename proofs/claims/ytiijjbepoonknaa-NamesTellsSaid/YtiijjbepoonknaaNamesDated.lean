/- dated of the document answers qualB. -/
import Derived.Test.YtiijjbepoonknaaNamesIs
namespace Go.Proofs.Ytiijjbepoonknaa
open Go.RowKit
def digFrom (s : ByteArray) (k : Nat) : Prop := ∀ j, j < k → digB (byt s (4 + j)) = true
def monS (s : ByteArray) : Prop := digFrom s 4 ∧ byt s 8 = 45 ∧ digB (byt s 9) = true ∧ digB (byt s 10) = true ∧ 1 ≤ (byt s 9 - 48) * 10 + (byt s 10 - 48) ∧ (byt s 9 - 48) * 10 + (byt s 10 - 48) ≤ 12 ∧ byt s 11 = 46
theorem digFrom_zero (s : ByteArray) : digFrom s 0 := fun _ h => absurd h (Nat.not_lt_zero _)
theorem digFrom_succ {s : ByteArray} {k : Nat} (h : digFrom s k) (g : digB (byt s (4 + k)) = true) : digFrom s (k + 1) := fun j hj => by
  rcases Nat.lt_or_eq_of_le (Nat.lt_succ_iff.1 hj) with h1 | h1
  · exact h j h1
  · rw [h1]; exact g
theorem mon_is {s : ByteArray} (h : 12 < s.size) : monB (s.extract 4 12) = true ↔ monS s := by
  rw [monB_is (by rw [ByteArray.size_extract]; omega)]
  unfold monP monS digFrom
  have e : ∀ j, j < 8 → byt (s.extract 4 12) j = byt s (4 + j) := fun j hj => byt_extract (by omega)
  rw [e 4 (by omega), e 5 (by omega), e 6 (by omega), e 7 (by omega)]
  constructor
  · rintro ⟨a, b⟩
    exact ⟨fun j hj => by rw [← e j (by omega)]; exact a j hj, b⟩
  · rintro ⟨a, b⟩
    exact ⟨fun j hj => by rw [e j (by omega)]; exact a j hj, b⟩
theorem qualB_mon {s h : ByteArray} (h12 : 12 < s.size) (hM : ¬ monS s) : qualB s h = false := by
  unfold qualB
  have : monB (s.extract 4 12) = false := eq_false_of_ne_true fun e => hM ((mon_is h12).1 e)
  rw [this, Bool.and_false, Bool.false_and]
theorem qualB_name {s h : ByteArray} (h12 : 12 < s.size) (hN : nameB s = true) (hE : strEq (s.extract 0 4) h = true) (hM : monS s) : qualB s h = nameB (s.extract 12 s.size) := by
  unfold qualB
  rw [hN, hE, decide_eq_true h12, (mon_is h12).2 hM, Bool.true_and, Bool.true_and, Bool.true_and, Bool.true_and]
theorem qualB_noname {s h : ByteArray} (hN : nameB s = false) : qualB s h = false := by
  unfold qualB
  rw [hN, Bool.false_and, Bool.false_and, Bool.false_and, Bool.false_and]
theorem qualB_short {s h : ByteArray} (h12 : ¬ 12 < s.size) : qualB s h = false := by
  unfold qualB
  rw [decide_eq_false h12, Bool.and_false, Bool.false_and, Bool.false_and, Bool.false_and]
theorem qualB_head {s h : ByteArray} (hE : strEq (s.extract 0 4) h = false) : qualB s h = false := by
  unfold qualB
  rw [hE, Bool.and_false, Bool.false_and, Bool.false_and]
set_option maxHeartbeats 1000000 in
theorem dated_out (s h : ByteArray) (w : World) (hs : s.size ≤ maxLen) (hq : nameB s = false ∨ ¬ 12 < s.size ∨ strEq (s.extract 0 4) h = false) :
    Calls Try.prog 26 #[.string s, .string h] w fun e w' => e = .returned (.bool (qualB s h)) ∧ w = w' := by
  have S0 := Lib.hid hs
  unfold maxLen at hs
  cases hN : nameB s with
  | false =>
    have HF := Lib.hid (qualB_noname (h := h) hN)
    have HN := Lib.hid hN; clear hN hq
    go_enter Try.func26, Try.ntmps26
    go_wp2_with (fail)
    refine (refName_any _ _ S0.out).mono ?_; rintro e w1 ⟨rfl, rfl⟩
    rw [HN.out]
    go_wp2_with (fail)
    go_ret
    exact ⟨ret_bool HF.out.symm, rfl⟩
  | true =>
  have HN := Lib.hid hN
  by_cases h12 : 12 < s.size
  · have hE : strEq (s.extract 0 4) h = false := by
      rcases hq with hq | hq | hq
      · rw [hN] at hq; cases hq
      · exact absurd h12 hq
      · exact hq
    have d12 : decide ((s.size : Int) < 13) = false := by simp; omega
    have HF := Lib.hid (qualB_head hE)
    have e1 : ((s.extract 0 4).toList == h.toList) = false := hE
    have e2 := strEq_no hE
    clear hN hE hq
    go_enter Try.func26, Try.ntmps26
    go_wp2_with (fail)
    refine (refName_any _ _ S0.out).mono ?_; rintro e w1 ⟨rfl, rfl⟩
    rw [HN.out]
    go_wp2_with (fail)
    go_ret
    exact ⟨ret_bool HF.out.symm, rfl⟩
  · have HF := Lib.hid (qualB_short (h := h) h12)
    have d12 : decide ((s.size : Int) < 13) = true := by simp; omega
    clear hN hq
    go_enter Try.func26, Try.ntmps26
    go_wp2_with (fail)
    refine (refName_any _ _ S0.out).mono ?_; rintro e w1 ⟨rfl, rfl⟩
    rw [HN.out]
    go_wp2_with (fail)
    go_ret
    exact ⟨ret_bool HF.out.symm, rfl⟩
set_option maxHeartbeats 1000000 in
theorem dated_in (s h : ByteArray) (w : World) (hs : s.size ≤ maxLen) (hN : nameB s = true) (h12 : 12 < s.size) (hE : strEq (s.extract 0 4) h = true) :
    Calls Try.prog 26 #[.string s, .string h] w fun e w' => e = .returned (.bool (qualB s h)) ∧ Below w.heap.size w w' := by
  have S0 := Lib.hid hs
  unfold maxLen at hs
  have HQ := Lib.hid (qualB_name h12 hN hE)
  have HR := Lib.hid (fun hM => qualB_mon (s := s) (h := h) h12 hM)
  have d12 : decide ((s.size : Int) < 13) = false := by simp; omega
  have e1 : ((s.extract 0 4).toList == h.toList) = true := hE
  have e2 := strEq_yes hE
  have HN := Lib.hid hN
  clear hN hE
  go_enter Try.func26, Try.ntmps26
  go_wp2_with (fail)
  refine (refName_any _ _ S0.out).mono ?_; rintro e w1 ⟨rfl, rfl⟩
  rw [HN.out]
  go_wp2_with (fail)
  go_loop [5] (fun i => ∃ k : Nat, k ≤ 4 ∧ i = .int .i64 (4 + (k : Int)) ∧ digFrom s k) (fun i => 100 - (intOf i).toNat)
  case atStart => exact ⟨0, Nat.zero_le _, rfl, digFrom_zero s⟩
  case round =>
    obtain ⟨k, hk, rfl, hok⟩ := hrel
    have HO := Lib.hid hok; clear hok
    by_cases hlt : k < 4
    · have hlt' : decide (4 + (k : Int) < 8) = true := by simp; omega
      have hbe := byt_eq s (4 + k) (by omega)
      cases hD : digB (byt s (4 + k)) with
      | true =>
        have HK := Lib.hid (digFrom_succ HO.out hD)
        rw [hbe] at hD
        have HD := Lib.hid hD; clear hD hbe
        go_wp2_with (fail)
        refine (digit_any _ _ (UInt8.toNat_lt _)).mono ?_; rintro e w' ⟨rfl, rfl⟩
        rw [HD.out]
        go_wp2_with (fail)
        go_round
        case rel => exact ⟨k + 1, by omega, by go_num, HK.out⟩
        case measure => simp [intOf]; omega
      | false =>
        have HK := Lib.hid (HR.out fun g => by have := g.1 k hlt; rw [hD] at this; cases this)
        rw [hbe] at hD
        have HD := Lib.hid hD; clear hD hbe
        go_wp2_with (fail)
        refine (digit_any _ _ (UInt8.toNat_lt _)).mono ?_; rintro e w' ⟨rfl, rfl⟩
        rw [HD.out]
        go_wp2_with (fail)
        go_ret
        exact ⟨ret_bool HK.out.symm, Below.refl _ _⟩
    · obtain rfl : k = 4 := by omega
      have hlt' : decide (4 + ((4 : Nat) : Int) < 8) = false := by decide
      clear hlt hk
      have b8 := byt_eq s 8 (by omega)
      have b9 := byt_eq s 9 (by omega)
      have b10 := byt_eq s 10 (by omega)
      have b11 := byt_eq s 11 (by omega)
      by_cases h8 : byt s 8 = 45
      · cases h9 : digB (byt s 9) with
        | true =>
          cases h10 : digB (byt s 10) with
          | true =>
            by_cases h11 : byt s 11 = 46
            · have k9 := of_decide_eq_true h9
              have k10 := of_decide_eq_true h10
              have HM := Lib.hid (fun (h1 : 1 ≤ (byt s 9 - 48) * 10 + (byt s 10 - 48)) (h2 : (byt s 9 - 48) * 10 + (byt s 10 - 48) ≤ 12) => HQ.out ⟨HO.out, h8, h9, h10, h1, h2, h11⟩)
              have HL := Lib.hid (fun (g : ¬ (1 ≤ (byt s 9 - 48) * 10 + (byt s 10 - 48) ∧ (byt s 9 - 48) * 10 + (byt s 10 - 48) ≤ 12)) => HR.out fun m => g ⟨m.2.2.2.2.1, m.2.2.2.2.2.1⟩)
              rw [b9, b10] at HM HL
              rw [b8] at h8
              rw [b9] at h9 k9
              rw [b10] at h10 k10
              rw [b11] at h11
              have e8 : ((s[8].toNat : Int) != 45) = false := by rw [bne_eq_false_iff_eq]; omega
              have e11 : ((s[11].toNat : Int) != 46) = false := by rw [bne_eq_false_iff_eq]; omega
              have H9 := Lib.hid h9
              have H10 := Lib.hid h10
              clear b8 b9 b10 b11 h8 h9 h10 h11
              go_wp2_with (fail)
              refine (digit_any _ _ (UInt8.toNat_lt _)).mono ?_; rintro e w' ⟨rfl, rfl⟩
              rw [H9.out]
              go_wp2_with (fail)
              refine (digit_any _ _ (UInt8.toNat_lt _)).mono ?_; rintro e w' ⟨rfl, rfl⟩
              rw [H10.out]
              go_wp2_with (fail)
              go_quiet (fail)
              by_cases h1 : (1 : Int) ≤ ((s[9].toNat : Int) - 48) * 10 + ((s[10].toNat : Int) - 48)
              · have d1 := decide_eq_true h1
                by_cases h2 : ((s[9].toNat : Int) - 48) * 10 + ((s[10].toNat : Int) - 48) ≤ 12
                · have d2 := decide_eq_true h2
                  have HE := Lib.hid (HM.out (by omega) (by omega))
                  go_wp2_with (fail)
                  refine (refName_any _ _ (max_ext _ _ S0.out)).mono ?_; rintro e w1 ⟨rfl, rfl⟩
                  go_wp2_with (fail)
                  go_ret
                  exact ⟨ret_bool HE.out.symm, Below.drewN' _ _⟩
                · have d2 := decide_eq_false h2
                  have HE := Lib.hid (HL.out (by omega))
                  go_wp2_with (fail)
                  go_ret
                  exact ⟨ret_bool HE.out.symm, Below.drewN' _ _⟩
              · have d1 := decide_eq_false h1
                have HE := Lib.hid (HL.out (by omega))
                go_wp2_with (fail)
                go_ret
                exact ⟨ret_bool HE.out.symm, Below.drewN' _ _⟩
            · have HK := Lib.hid (HR.out fun g => h11 g.2.2.2.2.2.2)
              rw [b8] at h8
              rw [b9] at h9
              rw [b10] at h10
              rw [b11] at h11
              have e8 : ((s[8].toNat : Int) != 45) = false := by rw [bne_eq_false_iff_eq]; omega
              have e11 : ((s[11].toNat : Int) != 46) = true := by rw [bne_iff_ne]; omega
              have H9 := Lib.hid h9
              have H10 := Lib.hid h10
              clear b8 b9 b10 b11 h8 h9 h10 h11
              go_wp2_with (fail)
              refine (digit_any _ _ (UInt8.toNat_lt _)).mono ?_; rintro e w' ⟨rfl, rfl⟩
              rw [H9.out]
              go_wp2_with (fail)
              refine (digit_any _ _ (UInt8.toNat_lt _)).mono ?_; rintro e w' ⟨rfl, rfl⟩
              rw [H10.out]
              go_wp2_with (fail)
              go_ret
              exact ⟨ret_bool HK.out.symm, Below.refl _ _⟩
          | false =>
            have HK := Lib.hid (HR.out fun g => by have := g.2.2.2.1; rw [h10] at this; cases this)
            rw [b8] at h8
            rw [b9] at h9
            rw [b10] at h10
            have e8 : ((s[8].toNat : Int) != 45) = false := by rw [bne_eq_false_iff_eq]; omega
            have H9 := Lib.hid h9
            have H10 := Lib.hid h10
            clear b8 b9 b10 b11 h8 h9 h10
            go_wp2_with (fail)
            refine (digit_any _ _ (UInt8.toNat_lt _)).mono ?_; rintro e w' ⟨rfl, rfl⟩
            rw [H9.out]
            go_wp2_with (fail)
            refine (digit_any _ _ (UInt8.toNat_lt _)).mono ?_; rintro e w' ⟨rfl, rfl⟩
            rw [H10.out]
            go_wp2_with (fail)
            go_ret
            exact ⟨ret_bool HK.out.symm, Below.refl _ _⟩
        | false =>
          have HK := Lib.hid (HR.out fun g => by have := g.2.2.1; rw [h9] at this; cases this)
          rw [b8] at h8
          rw [b9] at h9
          have e8 : ((s[8].toNat : Int) != 45) = false := by rw [bne_eq_false_iff_eq]; omega
          have H9 := Lib.hid h9
          clear b8 b9 b10 b11 h8 h9
          go_wp2_with (fail)
          refine (digit_any _ _ (UInt8.toNat_lt _)).mono ?_; rintro e w' ⟨rfl, rfl⟩
          rw [H9.out]
          go_wp2_with (fail)
          go_ret
          exact ⟨ret_bool HK.out.symm, Below.refl _ _⟩
      · have HK := Lib.hid (HR.out fun g => h8 g.2.1)
        rw [b8] at h8
        have e8 : ((s[8].toNat : Int) != 45) = true := by rw [bne_iff_ne]; omega
        clear b8 b9 b10 b11 h8
        go_wp2_with (fail)
        go_ret
        exact ⟨ret_bool HK.out.symm, Below.refl _ _⟩
theorem dated_any (s h : ByteArray) (w : World) (hs : s.size ≤ maxLen) :
    Calls Try.prog 26 #[.string s, .string h] w fun e w' => e = .returned (.bool (qualB s h)) ∧ Below w.heap.size w w' := by
  by_cases hq : nameB s = false ∨ ¬ 12 < s.size ∨ strEq (s.extract 0 4) h = false
  · refine (dated_out s h w hs hq).mono ?_
    rintro e w' ⟨h1, rfl⟩
    exact ⟨h1, Below.refl _ _⟩
  · rw [not_or, not_or] at hq
    exact dated_in s h w hs (eq_true_of_ne_false hq.1) (Decidable.not_not.1 hq.2.1) (eq_true_of_ne_false hq.2.2)
end Go.Proofs.Ytiijjbepoonknaa
