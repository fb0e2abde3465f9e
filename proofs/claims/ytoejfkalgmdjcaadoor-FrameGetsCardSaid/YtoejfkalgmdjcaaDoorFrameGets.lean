/- FrameGets: the code's Get and the document's tell the same of every text. -/
import Derived.Test.YtoejfkalgmdjcaaDoorFrameRefC
namespace Go.Proofs.YtoejfkalgmdjcaaDoor
open Go.RowKit
theorem refGet_ok0 (s : ByteArray) (w : World) (hs : s.size ≤ 100000) (he : getE s = 0) :
    Calls Tryd.prog 15 #[.string s] w fun e w' => e = .returned (.tuple #[.agg #[.int .u64 (numF s), .string (textF s), .int .i64 (sizeF s)], .int .i64 0]) ∧ Below w.heap.size w w' := by
  unfold getE at he
  by_cases h1 : Begun s
  · by_cases h2 : s.extract 16 20 = digV (s.extract 0 16)
    · by_cases h3 : lenF s ≤ 65536
      · by_cases h4 : sizeF s ≤ s.size
        · by_cases h5 : s.extract (20 + lenF s) (24 + lenF s) = digV (textF s)
          · cases h6 : allZ (padF s) with
            | false => simp [h1, h2, h3, h4, h5, h6] at he
            | true => exact refGet_ok s w hs h1 h2 h3 h4 h5 h6
          · simp [h1, h2, h3, h4, h5] at he
        · simp [h1, h2, h3, h4] at he
      · simp [h1, h2, h3] at he
    · simp [h1, h2] at he
  · simp [h1] at he
theorem refGet_up (s : ByteArray) (w : World) (hs : s.size ≤ 100000) (he : 0 < getE s) :
    Calls Tryd.prog 15 #[.string s] w fun e w' => e = .returned (.tuple #[noF, .int .i64 (getE s)]) ∧ Below w.heap.size w w' := by
  by_cases h1 : Begun s
  · by_cases h2 : s.extract 16 20 = digV (s.extract 0 16)
    · by_cases h3 : lenF s ≤ 65536
      · by_cases h4 : sizeF s ≤ s.size
        · by_cases h5 : s.extract (20 + lenF s) (24 + lenF s) = digV (textF s)
          · cases h6 : allZ (padF s) with
            | false => rw [show getE s = 50 by simp [getE, h1, h2, h3, h4, h5, h6]]; exact refGet_pad s w hs h1 h2 h3 h4 h5 h6
            | true => simp [getE, h1, h2, h3, h4, h5, h6] at he
          · rw [show getE s = 51 by simp [getE, h1, h2, h3, h4, h5]]; exact refGet_sum2 s w hs h1 h2 h3 h4 h5
        · rw [show getE s = 50 by simp [getE, h1, h2, h3, h4]]; exact refGet_short s w hs h1 h2 h3 h4
      · rw [show getE s = 50 by simp [getE, h1, h2, h3]]; exact refGet_long s w hs h1 h2 h3
    · rw [show getE s = 51 by simp [getE, h1, h2]]; exact refGet_sum s w hs h1 h2
  · rw [show getE s = 50 by simp [getE, h1]]; exact refGet_none s w hs h1
set_option maxRecDepth 100000 in
set_option maxHeartbeats 1000000 in
theorem gets_ok (s : ByteArray) (w : World) (h : s.size ≤ 70000) (ht : Tab w) (he : getE s = 0) :
    Calls Tryd.prog 4 #[.string s] w fun e w' => e = .returned (.bool true) ∧ Below w.heap.size w w' := by
  have hi : ¬ (70000 : Int) < s.size := by omega
  have HT := Lib.hid ht; clear ht
  go_enter Tryd.func4, Tryd.ntmps4
  go_wp2_with (fail)
  refine (get_ok s _ (by unfold maxLen; omega) HT.out he).mono ?_; rintro e w1 ⟨rfl, hb1⟩
  have H1 := Lib.hid hb1; clear hb1
  go_wp2_with (fail)
  refine (refGet_ok0 s _ (by omega) he).mono ?_; rintro e w2 ⟨rfl, hb2⟩
  have H2 := Lib.hid (H1.out.trans (hb2.mono H1.out.size)); clear hb2
  go_wp2_with (fail)
  have H3 := Lib.hid (H2.out.alloc H2.out.size (.cells #[.int .u64 (numF s), .string (textF s), .int .i64 (sizeF s)] 34))
  refine (wakes_any _ (HT.out.below H3.out)).mono ?_; rintro e w3 ⟨rfl, hb3⟩
  have H4 := Lib.hid (H3.out.trans (hb3.mono H3.out.size)); clear hb3
  go_wp2
  go_ret
  exact ⟨rfl, H4.out⟩
set_option maxRecDepth 100000 in
set_option maxHeartbeats 1000000 in
theorem gets_up (s : ByteArray) (w : World) (h : s.size ≤ 70000) (ht : Tab w) (he : 0 < getE s) :
    Calls Tryd.prog 4 #[.string s] w fun e w' => e = .returned (.bool true) ∧ Below w.heap.size w w' := by
  have hi : ¬ (70000 : Int) < s.size := by omega
  have HT := Lib.hid ht; clear ht
  have HE := Lib.hid he; clear he
  go_enter Tryd.func4, Tryd.ntmps4
  go_wp2_with (fail)
  refine (get_up s _ (by unfold maxLen; omega) HT.out HE.out).mono ?_; rintro e w1 ⟨rfl, hb1⟩
  have H1 := Lib.hid hb1; clear hb1
  go_wp2_with (fail)
  refine (refGet_up s _ (by omega) HE.out).mono ?_; rintro e w2 ⟨rfl, hb2⟩
  unfold noF
  have H2 := Lib.hid (H1.out.trans (hb2.mono H1.out.size)); clear hb2
  go_wp2_with (fail)
  have H3 := Lib.hid (H2.out.alloc H2.out.size (.cells #[.int .u64 0, .string ⟨#[]⟩, .int .i64 0] 34))
  refine (wakes_any _ (HT.out.below H3.out)).mono ?_; rintro e w3 ⟨rfl, hb3⟩
  have H4 := Lib.hid (H3.out.trans (hb3.mono H3.out.size)); clear hb3
  go_wp2
  go_ret
  exact ⟨rfl, H4.out⟩
theorem gets_any (s : ByteArray) (w : World) (ht : Tab w) :
    Calls Tryd.prog 4 #[.string s] w fun e w' => e = .returned (.bool true) ∧ Below w.heap.size w w' := by
  by_cases h : 70000 < s.size
  · have hi : (70000 : Int) < s.size := by omega
    have HT := Lib.hid ht; clear ht
    go_enter Tryd.func4, Tryd.ntmps4
    go_wp2_with (fail)
    refine (wakes_any _ HT.out).mono ?_; rintro e w1 ⟨rfl, hb1⟩
    go_wp2
    go_ret
    exact ⟨rfl, hb1⟩
  · by_cases he : getE s = 0
    · exact gets_ok s w (by omega) ht he
    · exact gets_up s w (by omega) ht (by omega)
end Go.Proofs.YtoejfkalgmdjcaaDoor
