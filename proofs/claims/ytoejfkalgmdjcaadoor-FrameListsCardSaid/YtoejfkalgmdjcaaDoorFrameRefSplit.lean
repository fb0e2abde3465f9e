/- The writes whose text this is, by the document's own words. -/
import Derived.Test.YtoejfkalgmdjcaaDoorFrameSame
namespace Go.Proofs.YtoejfkalgmdjcaaDoor
open Go.RowKit
theorem place_int (s : ByteArray) (k : Nat) (h : 4 + 516 * k + 4 ≤ s.size) : bigR s (4 + (k : Int) * 516) 4 = placeS s k := by
  have e : (4 + (k : Int) * 516) = ((4 + 516 * k : Nat) : Int) := by omega
  rw [e]
  exact bigR_yes (a := 4 + 516 * k) (n := 4) (okB_yes (by omega))
def RSplit (s : ByteArray) (w : World) (e : Ending) (w' : World) : Prop := ((SplitOk s ∧ ∃ A c, e = .returned (.tuple #[.slice A (countS s) c, .int .i64 0]) ∧ Wrs w' A (splitL s (countS s))) ∨ (¬ SplitOk s ∧ e = .returned (.tuple #[.slice none 0 0, .int .i64 50]))) ∧ Below w.heap.size w w'
/-- Of the loop: the first k writes are read. -/
def RsAt (w : World) (s : ByteArray) (n : Nat) (v i : Value) (wr : World) : Prop :=
  ∃ k : Nat, i = .int .i64 k ∧ k ≤ n ∧ (∀ j, j < k → placeS s j < 8192) ∧ wr.ownsRow w.heap.size 40 2 v k (wrCells (splitL s k)) ∧ Below w.heap.size w wr
set_option maxRecDepth 100000 in
set_option maxHeartbeats 1000000 in
theorem refSplit_in (s : ByteArray) (w : World) (hs : s.size ≤ 100000) (h4 : 4 ≤ s.size) (h80 : countS s ≤ 80) (hz : s.size = 4 + 516 * countS s) :
    Calls Tryd.prog 19 #[.string s] w fun e w' => RSplit s w e w' := by
  have hc : bigR s 0 4 = countS s := bigR_yes (a := 0) (n := 4) (okB_yes (by omega))
  have hok : okB s 0 4 = true := okB_yes (by omega)
  obtain ⟨n, hn⟩ : ∃ n, countS s = n := ⟨_, rfl⟩
  rw [hn] at hc h80 hz
  have HN := Lib.hid hn; clear hn
  have hni : ¬ (80 : Int) < n := by omega
  have hzi : (s.size : Int) = 4 + (n : Int) * 516 := by omega
  obtain ⟨i0, hi0, hz0, hz1, hz2⟩ := info_parts info40
  have HZ := Lib.hid hz; clear hz
  go_enter Tryd.func19, Tryd.ntmps19
  go_wp2_with (fail)
  refine (refBig_any s 0 4 _ (by unfold maxLen; omega)).mono ?_; rintro e w' ⟨rfl, rfl⟩
  rw [hc, hok]
  go_wp2_with (fail)
  go_loopw [6, 7] (fun v i wr => RsAt w s n v i wr) (fun _ i _ => n - (intOf i).toNat)
  case atStart => exact ⟨0, rfl, Nat.zero_le _, fun j hj => absurd hj (Nat.not_lt_zero _), World.ownsRow_nil _ _ _ _, Below.refl _ _⟩
  case round =>
    obtain ⟨k, rfl, hk, hpl, hown, hbl⟩ := hrel
    obtain ⟨A1, c1, rfl⟩ := own_form hown
    have HPL := Lib.hid hpl; clear hpl
    have HBL := Lib.hid hbl; clear hbl
    by_cases hlt : k < n
    · have hki : (k : Int) < n := by omega
      have hszz := HZ.out
      have hpi := place_int s k (by omega)
      by_cases hg : placeS s k < 8192
      · have hgi : ¬ (8192 : Int) ≤ (placeS s k : Int) := by omega
        obtain ⟨E, hE⟩ : ∃ E : Nat, (8 + (k : Int) * 516) = (E : Int) := ⟨8 + 516 * k, by omega⟩
        obtain ⟨F, hF⟩ : ∃ F : Nat, ((E : Int) + 512) = (F : Int) := ⟨E + 512, by omega⟩
        have x1 : (E : Int) ≤ F := by omega
        have x2 : (F : Int) ≤ s.size := by omega
        have hd : s.extract E F = dataS s k := by unfold dataS; rw [show E = 8 + 516 * k by omega, show F = 520 + 516 * k by omega]
        have HD := Lib.hid hd; clear hd
        have HOW := Lib.hid hown; clear hown
        go_wp2_with (fail)
        refine (refBig_any s (4 + (k : Int) * 516) 4 _ (by unfold maxLen; omega)).mono ?_; rintro e w' ⟨rfl, rfl⟩
        rw [hpi]
        have HO3 := Lib.hid (HOW.out.alloc (.cells #[.int .i64 (placeS s k : Nat), .string (s.extract E F)] 40))
        have HM := Lib.hid (show k + 1 ≤ maxLen by unfold maxLen; omega)
        have HY := Lib.hid (show (k + 1) * 24 ≤ 140737488355328 by omega)
        have HBS := Lib.hid (show w.heap.size ≤ (wr.alloc (.cells #[.int .i64 (placeS s k : Nat), .string (s.extract E F)] 40)).heap.size by have := HBL.out.size; simp; omega)
        go_wp2_with (at_builtin; refine wpList_append_own_at _ rfl (.tmp 46) (.tmp 59) _ rfl w.heap.size 40 i0 _ 2 24 Tryd.underlying38 hi0 hz0 hz1 hz2 rfl (by omega) (.slice A1 k c1) k (wrCells (splitL s k)) rfl HO3.out _ 1 1 [.int .i64 (placeS s k : Nat), .string (s.extract E F)] rfl rfl (cells_two _ _ _ _ rfl) two_cells HM.out HY.out HBS.out ?_; intro v4 w4 hown4 hg4 hn4 hat4; have HW4 := Lib.hid hown4; have HG4 := Lib.hid hg4; clear hown4 hg4 hn4 hat4)
        refine ⟨⟨k + 1, by go_num, by omega, fun j hj => ?_, by rw [splitL_succ, wrCells_snoc, ← HD.out]; exact HW4.out, (HBL.out.alloc HBL.out.size _).grown HG4.out HBS.out (fun g hg => (HOW.out.lt g hg).1)⟩, by simp [intOf]; omega⟩
        by_cases hjk : j < k
        · exact HPL.out j hjk
        · have : j = k := by omega
          subst this
          exact hg
      · have hgi : (8192 : Int) ≤ (placeS s k : Int) := by omega
        have hbad : ¬ SplitOk s := fun hh => hg (hh.places k (by rw [HN.out]; exact hlt))
        have HBAD := Lib.hid hbad; clear hbad hown
        go_wp2_with (fail)
        refine (refBig_any s (4 + (k : Int) * 516) 4 _ (by unfold maxLen; omega)).mono ?_; rintro e w' ⟨rfl, rfl⟩
        rw [hpi]
        go_wp2
        go_ret2
        exact ⟨.inr ⟨HBAD.out, rfl⟩, HBL.out⟩
    · obtain rfl : k = n := by omega
      have hok2 : SplitOk s := ⟨h4, by rw [HN.out]; exact h80, fun j hj => HPL.out j (by rw [HN.out] at hj; exact hj), by rw [HN.out]; exact HZ.out⟩
      obtain ⟨A, c, hAc, hw⟩ := wrs_of_own hown
      rw [splitL_length] at hAc
      injection hAc with hA1 _ hc1
      subst hA1; subst hc1
      have HOK := Lib.hid hok2; have HWR := Lib.hid hw; clear hok2 hw hown
      go_wp2
      go_ret2
      exact ⟨.inl ⟨HOK.out, _, _, by rw [HN.out]; rfl, by rw [HN.out]; exact HWR.out⟩, HBL.out⟩
theorem refSplit_none (s : ByteArray) (w : World) (hs : s.size ≤ 100000) (h : ¬ (4 ≤ s.size ∧ countS s ≤ 80 ∧ s.size = 4 + 516 * countS s)) :
    Calls Tryd.prog 19 #[.string s] w fun e w' => e = .returned (.tuple #[.slice none 0 0, .int .i64 50]) ∧ w = w' := by
  by_cases h4 : 4 ≤ s.size
  · have hc : bigR s 0 4 = countS s := bigR_yes (a := 0) (n := 4) (okB_yes (by omega))
    have hok : okB s 0 4 = true := okB_yes (by omega)
    obtain ⟨n, hn⟩ : ∃ n, countS s = n := ⟨_, rfl⟩
    rw [hn] at hc h
    clear hn
    by_cases h80 : n ≤ 80
    · have hni : ¬ (80 : Int) < n := by omega
      have hzi : ¬ (s.size : Int) = 4 + (n : Int) * 516 := by omega
      have hzb : ((s.size : Int) != 4 + (n : Int) * 516) = true := by simpa using hzi
      clear h
      go_enter Tryd.func19, Tryd.ntmps19
      go_wp2_with (fail)
      refine (refBig_any s 0 4 _ (by unfold maxLen; omega)).mono ?_; rintro e w' ⟨rfl, rfl⟩
      rw [hc, hok]
      go_wp2
      go_ret2
      exact ⟨rfl, rfl⟩
    · have hni : (80 : Int) < n := by omega
      clear h
      go_enter Tryd.func19, Tryd.ntmps19
      go_wp2_with (fail)
      refine (refBig_any s 0 4 _ (by unfold maxLen; omega)).mono ?_; rintro e w' ⟨rfl, rfl⟩
      rw [hc, hok]
      go_wp2
      go_ret2
      exact ⟨rfl, rfl⟩
  · have hok : okB s 0 4 = false := okB_no (by omega)
    clear h
    go_enter Tryd.func19, Tryd.ntmps19
    go_wp2_with (fail)
    refine (refBig_any s 0 4 _ (by unfold maxLen; omega)).mono ?_; rintro e w' ⟨rfl, rfl⟩
    rw [hok]
    go_wp2
    go_ret2
    exact ⟨rfl, rfl⟩
theorem refSplit_any (s : ByteArray) (w : World) (hs : s.size ≤ 100000) :
    Calls Tryd.prog 19 #[.string s] w fun e w' => RSplit s w e w' := by
  by_cases h : 4 ≤ s.size ∧ countS s ≤ 80 ∧ s.size = 4 + 516 * countS s
  · exact refSplit_in s w hs h.1 h.2.1 h.2.2
  · refine (refSplit_none s w hs h).mono ?_
    rintro e w' ⟨rfl, rfl⟩
    exact ⟨.inr ⟨fun hh => h ⟨hh.lo, hh.few, hh.size⟩, rfl⟩, Below.refl _ _⟩
end Go.Proofs.YtoejfkalgmdjcaaDoor
