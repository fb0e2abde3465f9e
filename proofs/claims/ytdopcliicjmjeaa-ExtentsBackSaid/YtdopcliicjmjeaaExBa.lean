/- What was written is read as it was, what was read is written as it was. -/
import Derived.Test.YtdopcliicjmjeaaExBk
namespace Go.Proofs.Ytdopcliicjmjeaa
open Go.RowKit
theorem parse_cases (s : ByteArray) : parseR s = ([], 70) ∨ ∃ m, parseR s = (m, 0) ∧ goodB m = true ∧ textX m = s ∧ m.length ≤ 4096 := by
  by_cases h : SizeOk s
  · by_cases hg : goodB (listX s (n4 s 0)) = true
    · exact .inr ⟨_, parse_yes h hg, hg, text_back h, by rw [listX_length]; exact h.2.1⟩
    · exact .inl (parse_bad (by simpa using hg))
  · exact .inl (parse_no h)
set_option maxRecDepth 100000 in
set_option maxHeartbeats 4000000 in
theorem back_any (A : Option Addr) (c : Nat) (l : List Ex) (s : ByteArray) (w : World) (hl : Exts w A l) (hs : s.size ≤ maxLen) :
    Calls Try.prog 7 #[.slice A l.length c, .string s] w fun e w' => e = .returned (.bool true) ∧ Below w.heap.size w w' := by
  have HL := Lib.hid hl
  clear hl
  have HLA := Lib.hid (fun v => large_any A c l.length v)
  by_cases hlg : (300 < l.length ∧ l.length ≤ 4096) ∨ 5000 < l.length
  · rw [decide_eq_true hlg] at HLA
    clear hlg
    go_enter Try.func7, Try.ntmps7
    go_wp2_with (fail)
    refine (HLA.out _).mono ?_; rintro e w1 ⟨rfl, rfl⟩
    go_wp2_with (fail)
    refine (wakes_any _).mono ?_; rintro e w2 ⟨rfl, hb2⟩
    have HB2 := Lib.hid hb2; clear hb2
    go_wp2_with (fail)
    go_ret
    exact ⟨rfl, HB2.out⟩
  · rw [decide_eq_false hlg] at HLA
    have hn : l.length ≤ 100000 := by omega
    clear hlg
    by_cases hz : s.size > 5000
    · have hgt : decide (((s.size : Nat) : Int) > 5000) = true := decide_eq_true (by omega)
      go_enter Try.func7, Try.ntmps7
      go_wp2_with (fail)
      refine (HLA.out _).mono ?_; rintro e w1 ⟨rfl, rfl⟩
      go_wp2_with (fail)
      refine (wakes_any _).mono ?_; rintro e w2 ⟨rfl, hb2⟩
      have HB2 := Lib.hid hb2; clear hb2
      go_wp2_with (fail)
      go_ret
      exact ⟨rfl, HB2.out⟩
    · have hgt : decide (((s.size : Nat) : Int) > 5000) = false := decide_eq_false (by omega)
      have HPA := Lib.hid (fun v => parse_any s v hs)
      clear hz
      by_cases hg : goodB l = true
      · have HTV := Lib.hid (show textV l = .tuple #[.string (textX l), .int .i64 0] by unfold textV; rw [if_pos hg])
        have HPB := Lib.hid (parse_back hg)
        have HTA := Lib.hid (fun v => parse_any (textX l) v (by rw [textX_size]; unfold maxLen; omega))
        clear hg
        obtain ⟨t, ht⟩ : ∃ t, textX l = t := ⟨_, rfl⟩
        rw [ht] at HTV HPB HTA
        clear ht
        go_enter Try.func7, Try.ntmps7
        go_wp2_with (fail)
        refine (HLA.out _).mono ?_; rintro e w1 ⟨rfl, rfl⟩
        go_wp2_with (fail)
        refine (few_any A c l _ HL.out hn).mono ?_; rintro e w2 ⟨A2, c2, rfl, hx2, hb2⟩
        have HX2 := Lib.hid hx2; have HL2 := Lib.hid (HL.out.below hb2); have HB2 := Lib.hid hb2
        clear hx2 hb2
        go_wp2_with (fail)
        refine (text_any A2 c2 l _ HX2.out hn).mono ?_; rintro e w3 ⟨rfl, hb3⟩
        have HL3 := Lib.hid (HL2.out.below hb3); have HB3 := Lib.hid (HB2.out.trans (hb3.mono HB2.out.size))
        clear hb3
        rw [HTV.out]
        go_wp2_with (fail)
        refine (HTA.out _).mono ?_; rintro e w4 ⟨A4, c4, rfl, hx4, hb4⟩
        rw [HPB.out] at hx4 ⊢
        have HX4 := Lib.hid hx4; have HL4 := Lib.hid (HL3.out.below hb4); have HB4 := Lib.hid (HB3.out.trans (hb4.mono HB3.out.size))
        clear hx4 hb4
        go_wp2_with (fail)
        refine (same_eq A4 A c4 c l _ HX4.out HL4.out hn).mono ?_; rintro e w5 ⟨rfl, hb5⟩
        have HB5 := Lib.hid (HB4.out.trans (hb5.mono HB4.out.size))
        clear hb5
        go_wp2_with (fail)
        rcases parse_cases s with hp | ⟨m, hp, hmg, hmt, hml⟩
        · have HPV := Lib.hid hp
          clear hp
          refine (HPA.out _).mono ?_; rintro e v5 ⟨A5, c5, rfl, hx5, hb5⟩
          rw [HPV.out]
          have HV5 := Lib.hid (HB5.out.trans (hb5.mono HB5.out.size))
          clear hx5 hb5
          go_wp2_with (fail)
          refine (wakes_any _).mono ?_; rintro e va ⟨rfl, hba⟩
          have HVa := Lib.hid (HV5.out.trans (hba.mono HV5.out.size)); clear hba
          go_wp2_with (fail)
          go_ret
          exact ⟨rfl, HVa.out⟩
        · have HPV := Lib.hid hp; have HMG := Lib.hid hmg
          have HTM := Lib.hid (show textV m = .tuple #[.string s, .int .i64 0] by unfold textV; rw [if_pos hmg, hmt])
          have hmn : m.length ≤ 100000 := by omega
          clear hp hmg hmt hml
          refine (HPA.out _).mono ?_; rintro e v5 ⟨A5, c5, rfl, hx5, hb5⟩
          rw [HPV.out] at hx5 ⊢
          have HX5 := Lib.hid hx5
          have HV5 := Lib.hid (HB5.out.trans (hb5.mono HB5.out.size))
          clear hx5 hb5
          go_wp2_with (fail)
          refine (text_any A5 c5 m _ HX5.out hmn).mono ?_; rintro e v6 ⟨rfl, hb6⟩
          have HX6 := Lib.hid (HX5.out.below hb6); have HV6 := Lib.hid (HV5.out.trans (hb6.mono HV5.out.size))
          clear hb6
          rw [HTM.out]
          go_wp2_with (fail)
          refine (good_any A5 c5 m _ HX6.out (by unfold maxLen; omega)).mono ?_; rintro e v7 ⟨rfl, hb7⟩
          have HV7 := Lib.hid (HV6.out.trans (hb7.mono HV6.out.size))
          clear hb7
          rw [HMG.out]
          go_wp2_with (fail)
          refine (wakes_any _).mono ?_; rintro e va ⟨rfl, hba⟩
          have HVa := Lib.hid (HV7.out.trans (hba.mono HV7.out.size)); clear hba
          go_wp2_with (fail)
          go_ret
          exact ⟨rfl, HVa.out⟩
      · have HTV := Lib.hid (show textV l = .tuple #[.string ⟨#[]⟩, .int .i64 70] by unfold textV; rw [if_neg hg])
        clear hg
        go_enter Try.func7, Try.ntmps7
        go_wp2_with (fail)
        refine (HLA.out _).mono ?_; rintro e w1 ⟨rfl, rfl⟩
        go_wp2_with (fail)
        refine (few_any A c l _ HL.out hn).mono ?_; rintro e w2 ⟨A2, c2, rfl, hx2, hb2⟩
        have HX2 := Lib.hid hx2; have HB2 := Lib.hid hb2
        clear hx2 hb2
        go_wp2_with (fail)
        refine (text_any A2 c2 l _ HX2.out hn).mono ?_; rintro e w3 ⟨rfl, hb3⟩
        have HB3 := Lib.hid (HB2.out.trans (hb3.mono HB2.out.size))
        clear hb3
        rw [HTV.out]
        go_wp2_with (fail)
        rcases parse_cases s with hp | ⟨m, hp, hmg, hmt, hml⟩
        · have HPV := Lib.hid hp
          clear hp
          refine (HPA.out _).mono ?_; rintro e v5 ⟨A5, c5, rfl, hx5, hb5⟩
          rw [HPV.out]
          have HV5 := Lib.hid (HB3.out.trans (hb5.mono HB3.out.size))
          clear hx5 hb5
          go_wp2_with (fail)
          refine (wakes_any _).mono ?_; rintro e va ⟨rfl, hba⟩
          have HVa := Lib.hid (HV5.out.trans (hba.mono HV5.out.size)); clear hba
          go_wp2_with (fail)
          go_ret
          exact ⟨rfl, HVa.out⟩
        · have HPV := Lib.hid hp; have HMG := Lib.hid hmg
          have HTM := Lib.hid (show textV m = .tuple #[.string s, .int .i64 0] by unfold textV; rw [if_pos hmg, hmt])
          have hmn : m.length ≤ 100000 := by omega
          clear hp hmg hmt hml
          refine (HPA.out _).mono ?_; rintro e v5 ⟨A5, c5, rfl, hx5, hb5⟩
          rw [HPV.out] at hx5 ⊢
          have HX5 := Lib.hid hx5
          have HV5 := Lib.hid (HB3.out.trans (hb5.mono HB3.out.size))
          clear hx5 hb5
          go_wp2_with (fail)
          refine (text_any A5 c5 m _ HX5.out hmn).mono ?_; rintro e v6 ⟨rfl, hb6⟩
          have HX6 := Lib.hid (HX5.out.below hb6); have HV6 := Lib.hid (HV5.out.trans (hb6.mono HV5.out.size))
          clear hb6
          rw [HTM.out]
          go_wp2_with (fail)
          refine (good_any A5 c5 m _ HX6.out (by unfold maxLen; omega)).mono ?_; rintro e v7 ⟨rfl, hb7⟩
          have HV7 := Lib.hid (HV6.out.trans (hb7.mono HV6.out.size))
          clear hb7
          rw [HMG.out]
          go_wp2_with (fail)
          refine (wakes_any _).mono ?_; rintro e va ⟨rfl, hba⟩
          have HVa := Lib.hid (HV7.out.trans (hba.mono HV7.out.size)); clear hba
          go_wp2_with (fail)
          go_ret
          exact ⟨rfl, HVa.out⟩
end Go.Proofs.Ytdopcliicjmjeaa
