/- areDigits and isMonth of the code. -/
import Derived.Test.YtiijjbepoonknaaNamesRef
namespace Go.Proofs.Ytiijjbepoonknaa
open Go.RowKit
def digUpto (s : ByteArray) (k : Nat) : Prop := ∀ j, j < k → digB (byt s j) = true
instance (s : ByteArray) (k : Nat) : Decidable (digUpto s k) := by unfold digUpto; infer_instance
def digsB (s : ByteArray) : Bool := decide (digUpto s s.size)
theorem digUpto_zero (s : ByteArray) : digUpto s 0 := fun _ h => absurd h (Nat.not_lt_zero _)
theorem digUpto_succ {s : ByteArray} {k : Nat} (h : digUpto s k) (g : digB (byt s k) = true) : digUpto s (k + 1) := fun j hj => by
  rcases Nat.lt_or_eq_of_le (Nat.lt_succ_iff.1 hj) with h1 | h1
  · exact h j h1
  · rw [h1]; exact g
theorem digsB_no {s : ByteArray} {k : Nat} (hk : k < s.size) (g : digB (byt s k) = false) : digsB s = false := decide_eq_false fun h => by rw [h k hk] at g; cases g
set_option maxRecDepth 100000 in
set_option maxHeartbeats 400000 in
theorem areDigits_any (s : ByteArray) (w : World) (hs : s.size ≤ maxLen) :
    Calls Try.prog 30 #[.string s] w fun e w' => e = .returned (.bool (digsB s)) ∧ Below w.heap.size w w' := by
  unfold maxLen at hs
  go_enter Try.func30, Try.ntmps30
  go_wp2_with (fail)
  refine (classes_any _).mono ?_; rintro e w1 ⟨rfl, hb⟩
  have hsz := hb.size
  have H := Lib.hid hb; clear hb
  go_wp2_with (first | (refine wpList_alloc_tab rfl rfl ?_) | (refine wpList_store_tab rfl (.tmp 3) (.tmp 5) rfl rfl rfl rfl ?_))
  have HT := Lib.hid (fun j (h : j < 256) => (cell_of_row (w1.alloc (.cells clsA 35)) w1.heap.size j clsA 35 (0, 0) (heap_last _ _)).trans (clsA_at j h))
  go_loop [4, 8] (fun _ i => ∃ k : Nat, k ≤ s.size ∧ i = .int .i64 k ∧ digUpto s k) (fun _ i => s.size - (intOf i).toNat)
  case atStart => exact ⟨0, Nat.zero_le _, rfl, digUpto_zero s⟩
  case round =>
    obtain ⟨k, hk, rfl, hok⟩ := hrel
    by_cases hlt : k < s.size
    · have hl := byt_lt s k
      have hbe := byt_eq s k hlt
      have hc := HT.out (byt s k) hl
      have hlb := UInt8.toNat_lt s[k]
      have hdc := digB_is (byt s k)
      obtain ⟨q, hq⟩ : ∃ q, clsF (byt s k) = q := ⟨_, rfl⟩
      rw [hq] at hdc hc
      by_cases hz : q = 2
      · have HK := Lib.hid (digUpto_succ hok (hdc.trans (decide_eq_true hz)))
        rw [hbe] at hc
        have hz' : (q != 2) = false := by simpa using hz
        clear hok hbe hl hz hdc hq
        go_wp2
        go_round
        case rel => exact ⟨k + 1, by omega, by go_num, HK.out⟩
        case measure => simp [intOf]; omega
      · have HK := Lib.hid (digsB_no hlt (hdc.trans (decide_eq_false hz)))
        rw [hbe] at hc
        have hz' : (q != 2) = true := by simpa using hz
        clear hok hbe hl hz hdc hq
        go_wp2
        go_ret
        exact ⟨ret_bool HK.out.symm, H.out.alloc hsz _⟩
    · obtain rfl : k = s.size := by omega
      have HE := Lib.hid (show digsB s = true from decide_eq_true hok)
      clear hok
      go_wp2
      go_ret
      exact ⟨ret_bool HE.out.symm, H.out.alloc hsz _⟩
def strLe (a b : ByteArray) : Bool := Op.bytesLess a.toList b.toList || a.toList == b.toList
def s01 : ByteArray := ⟨#[48, 49]⟩
def s12 : ByteArray := ⟨#[49, 50]⟩
theorem s01_list : s01.toList = [48, 49] := by rw [ByteArray.toList_eq]; rfl
theorem s12_list : s12.toList = [49, 50] := by rw [ByteArray.toList_eq]; rfl
theorem le01 {t : ByteArray} {b : Bool} (h : strLe s01 t = b) : (Op.bytesLess [48, 49] t.toList || [48, 49] == t.toList) = b := by
  unfold strLe at h
  rw [s01_list] at h
  exact h
theorem le12 {t : ByteArray} {b : Bool} (h : strLe t s12 = b) : (Op.bytesLess t.toList [49, 50] || t.toList == [49, 50]) = b := by
  unfold strLe at h
  rw [s12_list] at h
  exact h
def monB (t : ByteArray) : Bool := digsB (t.extract 0 4) && decide (byt t 4 = 45) && digsB (t.extract 5 7) && strLe s01 (t.extract 5 7) && strLe (t.extract 5 7) s12 && decide (byt t 7 = 46)
theorem Below.drewN' (w : World) (n : Nat) : Below w.heap.size w (w.drewN n) := ⟨rfl, rfl, rfl, Nat.le_refl _, fun _ _ => rfl⟩
theorem le_yes {a : Bool} {x y : List UInt8} (h : (a || x == y) = true) : a = true ∨ x = y := by simpa using h
theorem le_no {a : Bool} {x y : List UInt8} (h : (a || x == y) = false) : ¬ (a = true ∨ x = y) := by simpa using h
set_option maxHeartbeats 1000000 in
theorem isMonth_any (t : ByteArray) (w : World) (hs : t.size = 8) :
    Calls Try.prog 29 #[.string t] w fun e w' => e = .returned (.bool (monB t)) ∧ Below w.heap.size w w' := by
  have h8 : 8 ≤ t.size := by omega
  have hm : t.size ≤ 8 := by omega
  have HS := Lib.hid hs; clear hs
  have s4 : (t.extract 0 4).size ≤ maxLen := by rw [ByteArray.size_extract]; unfold maxLen; omega
  have s57 : (t.extract 5 7).size ≤ maxLen := by rw [ByteArray.size_extract]; unfold maxLen; omega
  have S4 := Lib.hid s4; clear s4
  have S57 := Lib.hid s57; clear s57
  go_enter Try.func29, Try.ntmps29
  go_wp2
  go_quiet (fail)
  go_wp2_with (fail)
  refine (areDigits_any _ _ S4.out).mono ?_; rintro e w1 ⟨rfl, hb⟩
  have H1 := Lib.hid ((Below.drewN' w nq).trans hb); clear hb
  cases hY : digsB (t.extract 0 4) with
  | false =>
    have HF := Lib.hid (show monB t = false by unfold monB; rw [hY]; rfl)
    clear hY
    go_wp2_with (fail)
    go_ret
    exact ⟨ret_bool HF.out.symm, H1.out⟩
  | true =>
  by_cases h45 : byt t 4 = 45
  · have hbe := byt_eq t 4 (by omega)
    have HB := Lib.hid h45
    rw [hbe] at h45
    clear hbe
    have e45 : ((t[4].toNat : Int) == 45) = true := by rw [beq_iff_eq]; omega
    have HY := Lib.hid hY
    clear hY h45
    go_wp2_with (fail)
    refine (areDigits_any _ _ S57.out).mono ?_; rintro e w2 ⟨rfl, hb⟩
    have H2 := Lib.hid (H1.out.trans (hb.mono H1.out.size)); clear hb
    cases hN : digsB (t.extract 5 7) with
    | false =>
      have HF := Lib.hid (show monB t = false by unfold monB; rw [hN, Bool.and_false]; rfl)
      clear hN
      go_wp2_with (fail)
      go_ret
      exact ⟨ret_bool HF.out.symm, H2.out⟩
    | true =>
    have HN := Lib.hid hN
    clear hN
    cases h1 : strLe s01 (t.extract 5 7) with
    | false =>
      have HF := Lib.hid (show monB t = false by unfold monB; rw [h1, Bool.and_false]; rfl)
      have b1 : (Op.bytesLess [48, 49] (t.extract 5 7).toList || [48, 49] == (t.extract 5 7).toList) = false := le01 h1
      have p1 : ¬ (Op.bytesLess [48, 49] (t.extract 5 7).toList = true ∨ [48, 49] = (t.extract 5 7).toList) := le_no b1
      clear h1
      go_wp2_with (fail)
      go_ret
      exact ⟨ret_bool HF.out.symm, H2.out⟩
    | true =>
    have b1 : (Op.bytesLess [48, 49] (t.extract 5 7).toList || [48, 49] == (t.extract 5 7).toList) = true := le01 h1
    have p1 : Op.bytesLess [48, 49] (t.extract 5 7).toList = true ∨ [48, 49] = (t.extract 5 7).toList := le_yes b1
    cases h2 : strLe (t.extract 5 7) s12 with
    | false =>
      have HF := Lib.hid (show monB t = false by unfold monB; rw [h2, Bool.and_false]; rfl)
      have b2 : (Op.bytesLess (t.extract 5 7).toList [49, 50] || (t.extract 5 7).toList == [49, 50]) = false := le12 h2
      have p2 : ¬ (Op.bytesLess (t.extract 5 7).toList [49, 50] = true ∨ (t.extract 5 7).toList = [49, 50]) := le_no b2
      clear h1 h2
      go_wp2_with (fail)
      go_ret
      exact ⟨ret_bool HF.out.symm, H2.out⟩
    | true =>
    have b2 : (Op.bytesLess (t.extract 5 7).toList [49, 50] || (t.extract 5 7).toList == [49, 50]) = true := le12 h2
    have p2 : Op.bytesLess (t.extract 5 7).toList [49, 50] = true ∨ (t.extract 5 7).toList = [49, 50] := le_yes b2
    have HF := Lib.hid (show monB t = decide (byt t 7 = 46) by unfold monB; rw [HY.out, HN.out, h1, h2, decide_eq_true HB.out]; rfl)
    have hbe := byt_eq t 7 (by omega)
    by_cases h46 : byt t 7 = 46
    · have HG := Lib.hid (HF.out.trans (decide_eq_true h46))
      rw [hbe] at h46
      have e46 : ((t[7].toNat : Int) == 46) = true := by rw [beq_iff_eq]; omega
      clear h1 h2 hbe h46
      go_wp2_with (fail)
      go_ret
      exact ⟨ret_bool HG.out.symm, H2.out⟩
    · have HG := Lib.hid (HF.out.trans (decide_eq_false h46))
      rw [hbe] at h46
      have e46 : ((t[7].toNat : Int) == 46) = false := by rw [beq_eq_false_iff_ne]; omega
      clear h1 h2 hbe h46
      go_wp2_with (fail)
      go_ret
      exact ⟨ret_bool HG.out.symm, H2.out⟩
  · have HF := Lib.hid (show monB t = false by unfold monB; rw [decide_eq_false h45, Bool.and_false]; rfl)
    rw [byt_eq t 4 (by omega)] at h45
    have e45 : ((t[4].toNat : Int) == 45) = false := by rw [beq_eq_false_iff_ne]; omega
    clear hY h45
    go_wp2_with (fail)
    go_ret
    exact ⟨ret_bool HF.out.symm, H1.out⟩
end Go.Proofs.Ytiijjbepoonknaa
