/- FrameLists: the writes as a text, and a text's writes, by the document's own words. -/
import Derived.Test.YtoejfkalgmdjcaaDoorFrameRWrites
import Derived.Test.YtoejfkalgmdjcaaDoorFrameRefSplit
import Derived.Test.YtoejfkalgmdjcaaDoorFrameBack
namespace Go.Proofs.YtoejfkalgmdjcaaDoor
open Go.RowKit
theorem wroteV_form (l : List Wr) : ∃ (t : ByteArray) (e : Nat), wroteV l = .tuple #[.string t, .int .i64 e] ∧ e ≤ 100 := by
  unfold wroteV
  split
  · exact ⟨_, 3, rfl, by decide⟩
  · split
    · exact ⟨_, 0, rfl, by decide⟩
    · exact ⟨_, 40, rfl, by decide⟩
theorem same_split (A1 A2 : Option Addr) (c1 c2 : Nat) (s : ByteArray) (w : World) (h1 : Wrs w A1 (splitL s (countS s))) (h2 : Wrs w A2 (splitL s (countS s))) (hk : countS s ≤ 80) :
    Calls Tryd.prog 20 #[.slice A1 (countS s) c1, .slice A2 (countS s) c2] w fun e w' => e = .returned (.bool true) ∧ Below w.heap.size w w' := by
  have h := same_eq A1 A2 c1 c2 (splitL s (countS s)) w h1 h2 (by rw [splitL_length]; omega)
  rw [splitL_length] at h
  exact h
theorem same_none (w : World) : Calls Tryd.prog 20 #[.slice none 0 0, .slice none 0 0] w fun e w' => e = .returned (.bool true) ∧ Below w.heap.size w w' :=
  same_eq none none 0 0 [] w (fun h => absurd h (by simp)) (fun h => absurd h (by simp)) (by simp)
theorem lists_out1 (A : Option Addr) (c : Nat) (l : List Wr) (s : ByteArray) (w : World) (h : 200 < l.length) (ht : Tab w) :
    Calls Tryd.prog 5 #[.slice A l.length c, .string s] w fun e w' => e = .returned (.bool true) ∧ Below w.heap.size w w' := by
  have i1 : (200 : Int) < l.length := by omega
  have HT := Lib.hid ht; clear ht
  go_enter Tryd.func5, Tryd.ntmps5
  go_wp2_with (fail)
  refine (wakes_any _ HT.out).mono ?_; rintro e w1 ⟨rfl, hb1⟩
  have H1 := Lib.hid hb1; clear hb1
  go_wp2
  go_ret
  exact ⟨rfl, H1.out⟩
theorem lists_out2 (A : Option Addr) (c : Nat) (l : List Wr) (s : ByteArray) (w : World) (h : ¬ 200 < l.length) (h2 : 70000 < s.size) (ht : Tab w) :
    Calls Tryd.prog 5 #[.slice A l.length c, .string s] w fun e w' => e = .returned (.bool true) ∧ Below w.heap.size w w' := by
  have i1 : ¬ (200 : Int) < l.length := by omega
  have i2 : (70000 : Int) < s.size := by omega
  have HT := Lib.hid ht; clear ht
  go_enter Tryd.func5, Tryd.ntmps5
  go_wp2_with (fail)
  refine (wakes_any _ HT.out).mono ?_; rintro e w1 ⟨rfl, hb1⟩
  have H1 := Lib.hid hb1; clear hb1
  go_wp2
  go_ret
  exact ⟨rfl, H1.out⟩
set_option maxRecDepth 100000 in
set_option maxHeartbeats 2000000 in
theorem lists_in (A : Option Addr) (c : Nat) (l : List Wr) (s : ByteArray) (w : World) (hl : Wrs w A l) (h : ¬ 200 < l.length) (h2 : ¬ 70000 < s.size) (ht : Tab w) :
    Calls Tryd.prog 5 #[.slice A l.length c, .string s] w fun e w' => e = .returned (.bool true) ∧ Below w.heap.size w w' := by
  have i1 : ¬ (200 : Int) < l.length := by omega
  have i2 : ¬ (70000 : Int) < s.size := by omega
  have HT := Lib.hid ht; clear ht
  have HL := Lib.hid hl; clear hl
  go_enter Tryd.func5, Tryd.ntmps5
  go_wp2_with (fail)
  go_loopw [5] (fun i wr => ∃ k : Nat, i = .int .i64 k ∧ k ≤ l.length ∧ Below w.heap.size w wr) (fun i _ => l.length - (intOf i).toNat)
  case atStart => exact ⟨0, rfl, Nat.zero_le _, Below.refl _ _⟩
  case round =>
    obtain ⟨k, rfl, hk, hbl⟩ := hrel
    have HB := Lib.hid hbl; clear hbl
    by_cases hlt : k < l.length
    · obtain ⟨b, o, i, d, rfl, hat, c1, c2⟩ := (HL.out.below HB.out).at_ hlt
      clear hat
      have hki : (k : Int) < l.length := by omega
      by_cases hd : 70000 < d.size
      · have i3 : (70000 : Int) < d.size := by omega
        go_wp2_with (fail)
        refine (wakes_any _ (HT.out.below HB.out)).mono ?_; rintro e w1 ⟨rfl, hb1⟩
        have H1 := Lib.hid (HB.out.trans (hb1.mono HB.out.size)); clear hb1
        go_wp2
        go_ret
        exact ⟨rfl, H1.out⟩
      · have i3 : ¬ (70000 : Int) < d.size := by omega
        go_wp2_with (fail)
        exact ⟨⟨k + 1, by go_num, by omega, HB.out⟩, by simp [intOf]; omega⟩
    · obtain rfl : k = l.length := by omega
      obtain ⟨t, n, hwv, hn⟩ := wroteV_form l
      have HWV := Lib.hid hwv; clear hwv
      have hnw : IntKind.i64.wrap (n : Int) = (n : Int) := by rw [IntKind.wrap_i64]; omega
      have HLL := Lib.hid ((HL.out.below HB.out).below ((Below.refl _ wr).alloc (Nat.le_refl _) (.cells #[] 40)))
      have HX := Lib.hid (HB.out.alloc HB.out.size (.cells #[] 40))
      have HM := Lib.hid (show l.length * 24 ≤ 140737488355328 by omega)
      go_wp2_with (at_builtin; refine wpList_append_wrs rfl (.tmp 38) (.tmp 39) rfl wr.heap.size (.slice (some ⟨wr.heap.size, 0, none⟩) 0 0) rfl (own_empty wr) A c l rfl HLL.out HM.out (by simp) ?_; intro A3 c3 w3 hn3 hg3; have H3 := Lib.hid hn3; have HG3 := Lib.hid hg3; clear hn3 hg3)
      have HB3 := Lib.hid (HX.out.grown HG3.out HX.out.size (fun k hk => by have e : wr.heap.size = k := (by simpa [Value.ownBlock] using hk); have := HB.out.size; omega))
      refine (writes_any A3 c3 l _ H3.out).mono ?_; rintro e w4 ⟨rfl, hb4⟩
      have W4 := Lib.hid (H3.out.below hb4)
      have H4 := Lib.hid (HB3.out.trans (hb4.mono HB3.out.size)); clear hb4
      rw [HWV.out]
      go_wp2_with (fail)
      refine (refWrites_any A c l _ (HL.out.below H4.out)).mono ?_; rintro e w5 ⟨rfl, hb5⟩
      have W5 := Lib.hid (W4.out.below hb5)
      have H5 := Lib.hid (H4.out.trans (hb5.mono H4.out.size)); clear hb5
      rw [HWV.out]
      by_cases hs : SplitOk s
      · have hfew := hs.few
        go_wp2_with (fail)
        refine (split_ok s _ (by omega) hs).mono ?_; rintro e w6 ⟨A6, c6, rfl, hw6, hb6⟩
        have W6 := Lib.hid (W5.out.below hb6)
        have S6 := Lib.hid hw6; clear hw6
        have H6 := Lib.hid (H5.out.trans (hb6.mono H5.out.size)); clear hb6
        go_wp2_with (fail)
        refine (refSplit_any s _ (by omega)).mono ?_; rintro e w7 ⟨hor, hb7⟩
        rcases hor with ⟨_, A7, c7, rfl, hw7⟩ | ⟨hno, _⟩
        · have S7 := Lib.hid hw7; clear hw7
          have S67 := Lib.hid (S6.out.below hb7)
          have W7 := Lib.hid (W6.out.below hb7)
          have H7 := Lib.hid (H6.out.trans (hb7.mono H6.out.size)); clear hb7
          go_wp2_with (fail)
          refine (same_split A6 A7 c6 c7 s _ S67.out S7.out hfew).mono ?_; rintro e w8 ⟨rfl, hb8⟩
          have W8 := Lib.hid (W7.out.below hb8)
          have H8 := Lib.hid (H7.out.trans (hb8.mono H7.out.size)); clear hb8
          go_wp2_with (fail)
          refine (same_eq A3 A c3 c l _ W8.out (HL.out.below H8.out) (by omega)).mono ?_; rintro e w9 ⟨rfl, hb9⟩
          have H9 := Lib.hid (H8.out.trans (hb9.mono H8.out.size)); clear hb9
          go_wp2_with (fail)
          refine (wakes_any _ (HT.out.below H9.out)).mono ?_; rintro e w10 ⟨rfl, hb10⟩
          have H10 := Lib.hid (H9.out.trans (hb10.mono H9.out.size)); clear hb10
          go_wp2
          go_ret
          exact ⟨rfl, H10.out⟩
        · exact absurd hs hno
      · go_wp2_with (fail)
        refine (split_up s _ (by omega) hs).mono ?_; rintro e w6 ⟨rfl, hb6⟩
        have W6 := Lib.hid (W5.out.below hb6)
        have H6 := Lib.hid (H5.out.trans (hb6.mono H5.out.size)); clear hb6
        go_wp2_with (fail)
        refine (refSplit_any s _ (by omega)).mono ?_; rintro e w7 ⟨hor, hb7⟩
        rcases hor with ⟨hyes, _⟩ | ⟨_, rfl⟩
        · exact absurd hyes hs
        · have W7 := Lib.hid (W6.out.below hb7)
          have H7 := Lib.hid (H6.out.trans (hb7.mono H6.out.size)); clear hb7
          go_wp2_with (fail)
          refine (same_none _).mono ?_; rintro e w8 ⟨rfl, hb8⟩
          have W8 := Lib.hid (W7.out.below hb8)
          have H8 := Lib.hid (H7.out.trans (hb8.mono H7.out.size)); clear hb8
          go_wp2_with (fail)
          refine (same_eq A3 A c3 c l _ W8.out (HL.out.below H8.out) (by omega)).mono ?_; rintro e w9 ⟨rfl, hb9⟩
          have H9 := Lib.hid (H8.out.trans (hb9.mono H8.out.size)); clear hb9
          go_wp2_with (fail)
          refine (wakes_any _ (HT.out.below H9.out)).mono ?_; rintro e w10 ⟨rfl, hb10⟩
          have H10 := Lib.hid (H9.out.trans (hb10.mono H9.out.size)); clear hb10
          go_wp2
          go_ret
          exact ⟨rfl, H10.out⟩
theorem lists_any (A : Option Addr) (c : Nat) (l : List Wr) (s : ByteArray) (w : World) (hl : Wrs w A l) (ht : Tab w) :
    Calls Tryd.prog 5 #[.slice A l.length c, .string s] w fun e w' => e = .returned (.bool true) ∧ Below w.heap.size w w' := by
  by_cases h : 200 < l.length
  · exact lists_out1 A c l s w h ht
  · by_cases h2 : 70000 < s.size
    · exact lists_out2 A c l s w h h2 ht
    · exact lists_in A c l s w hl h h2 ht
end Go.Proofs.YtoejfkalgmdjcaaDoor
