/- What wakes; which lists are extents; others set, blocks dropped. -/
import Derived.Test.YtdopcliicjmjeaaExI
namespace Go.Proofs.Ytdopcliicjmjeaa
open Go.RowKit
def setR (l : List Ex) (x : Ex) : List Ex × Int := if goodB l && fitsB x then (setX l x, 0) else ([], 70)
def dropR (l : List Ex) (lba n : Int) : List Ex × Int := if goodB l && decide (0 ≤ lba ∧ 0 ≤ n ∧ n ≤ 4096 - lba) then (dropX l lba n, 0) else ([], 70)
theorem setR_length (l : List Ex) (x : Ex) : (setR l x).1.length ≤ 4096 := by
  unfold setR
  by_cases h : (goodB l && fitsB x) = true
  · rw [if_pos h]
    rw [Bool.and_eq_true] at h
    exact good_length (set_good h.1 ((fitsB_iff x).1 h.2)).1
  · rw [if_neg h]; simp
theorem dropR_length (l : List Ex) (a n : Int) : (dropR l a n).1.length ≤ 4096 := by
  unfold dropR
  by_cases h : (goodB l && decide (0 ≤ a ∧ 0 ≤ n ∧ n ≤ 4096 - a)) = true
  · rw [if_pos h]
    rw [Bool.and_eq_true] at h
    obtain ⟨h1, h2, h3⟩ := of_decide_eq_true h.2
    exact good_length (drop_good h.1 h1 h2 h3).1
  · rw [if_neg h]; simp
theorem set_any (A : Option Addr) (c : Nat) (l : List Ex) (x : Ex) (w : World) (hl : Exts w A l) (hx : x.Wf) (hn : l.length ≤ maxLen) :
    Calls Try.prog 19 #[.slice A l.length c, exV x] w fun e w' => ∃ A' c', e = .returned (.tuple #[.slice A' (setR l x).1.length c', .int .i64 (setR l x).2]) ∧ Exts w' A' (setR l x).1 ∧ Below w.heap.size w w' := by
  unfold setR
  cases hg : goodB l with
  | false =>
    refine (set_no1 A c l x w hl hg hx hn).mono ?_
    rintro e w' ⟨rfl, hb⟩
    exact ⟨none, 0, rfl, Exts.nil _ _, hb⟩
  | true =>
    cases hf : fitsB x with
    | false =>
      refine (set_no2 A c l x w hl hg hx hf hn).mono ?_
      rintro e w' ⟨rfl, hb⟩
      exact ⟨none, 0, rfl, Exts.nil _ _, hb⟩
    | true => exact set_ok A c l x w hl hg hx hf (Nat.le_trans (good_length hg) (by omega)) (good_asc hg).fits
theorem refSet_any (A : Option Addr) (c : Nat) (l : List Ex) (x : Ex) (w : World) (hl : Exts w A l) (hx : x.Wf) :
    Calls Try.prog 20 #[.slice A l.length c, exV x] w fun e w' => ∃ A' c', e = .returned (.tuple #[.slice A' (setR l x).1.length c', .int .i64 (setR l x).2]) ∧ Exts w' A' (setR l x).1 ∧ Below w.heap.size w w' := by
  unfold setR
  by_cases h : (goodB l && fitsB x) = true
  · rw [if_pos h]
    rw [Bool.and_eq_true] at h
    exact refSet_ok A c l x w hl h.1 hx h.2
  · rw [if_neg h]
    refine (refSet_no A c l x w hl hx (by simpa using h)).mono ?_
    rintro e w' ⟨rfl, hb⟩
    exact ⟨none, 0, rfl, Exts.nil _ _, hb⟩
theorem drop_any (A : Option Addr) (c : Nat) (l : List Ex) (lba n : Int) (w : World) (hl : Exts w A l) (hw1 : -9223372036854775808 ≤ lba ∧ lba ≤ 9223372036854775807) (hn : l.length ≤ maxLen) :
    Calls Try.prog 21 #[.slice A l.length c, .int .i64 lba, .int .i64 n] w fun e w' => ∃ A' c', e = .returned (.tuple #[.slice A' (dropR l lba n).1.length c', .int .i64 (dropR l lba n).2]) ∧ Exts w' A' (dropR l lba n).1 ∧ Below w.heap.size w w' := by
  unfold dropR
  by_cases h : (goodB l && decide (0 ≤ lba ∧ 0 ≤ n ∧ n ≤ 4096 - lba)) = true
  · rw [if_pos h]
    rw [Bool.and_eq_true] at h
    obtain ⟨h1, h2, h3⟩ := of_decide_eq_true h.2
    exact drop_ok A c l lba n w hl h.1 h1 h2 h3 (Nat.le_trans (good_length h.1) (by omega)) (good_asc h.1).fits
  · rw [if_neg h]
    refine (drop_no A c l lba n w hl ?_ hw1 hn).mono ?_
    · rw [Bool.and_eq_true] at h
      by_cases hg : goodB l = true
      · refine .inr ?_
        have : ¬ (0 ≤ lba ∧ 0 ≤ n ∧ n ≤ 4096 - lba) := fun hh => h ⟨hg, decide_eq_true hh⟩
        omega
      · exact .inl (by simpa using hg)
    · rintro e w' ⟨rfl, hb⟩
      exact ⟨none, 0, rfl, Exts.nil _ _, hb⟩
theorem refDrop_any (A : Option Addr) (c : Nat) (l : List Ex) (lba n : Int) (w : World) (hl : Exts w A l) (hw1 : -9223372036854775808 ≤ lba ∧ lba ≤ 9223372036854775807) :
    Calls Try.prog 22 #[.slice A l.length c, .int .i64 lba, .int .i64 n] w fun e w' => ∃ A' c', e = .returned (.tuple #[.slice A' (dropR l lba n).1.length c', .int .i64 (dropR l lba n).2]) ∧ Exts w' A' (dropR l lba n).1 ∧ Below w.heap.size w w' := by
  unfold dropR
  by_cases h : (goodB l && decide (0 ≤ lba ∧ 0 ≤ n ∧ n ≤ 4096 - lba)) = true
  · rw [if_pos h]
    rw [Bool.and_eq_true] at h
    obtain ⟨h1, h2, h3⟩ := of_decide_eq_true h.2
    exact refDrop_ok A c l lba n w hl h.1 h1 h2 h3
  · rw [if_neg h]
    refine (refDrop_no A c l lba n w hl ?_ hw1).mono ?_
    · rw [Bool.and_eq_true] at h
      by_cases hg : goodB l = true
      · refine .inr ?_
        have : ¬ (0 ≤ lba ∧ 0 ≤ n ∧ n ≤ 4096 - lba) := fun hh => h ⟨hg, decide_eq_true hh⟩
        omega
      · exact .inl (by simpa using hg)
    · rintro e w' ⟨rfl, hb⟩
      exact ⟨none, 0, rfl, Exts.nil _ _, hb⟩
theorem one_list (w : World) (x : Ex) (hx : x.Wf) : Exts (w.alloc (.cells #[.int .i64 x.l, .int .i64 x.b, .int .i64 x.a] 32)) (some ⟨w.heap.size, 0, none⟩) [x] := by
  obtain ⟨h1, h2⟩ := one_box w x _ rfl
  refine fun _ => ⟨_, _, rfl, fun j y hj => ?_⟩
  cases j with
  | zero =>
    simp at hj
    subst hj
    exact ⟨hx, h1.cell 0, h1.cell 1, h1.cell 2⟩
  | succ j => simp at hj
def wakeL : List Ex := [⟨0, 2, 100⟩, ⟨2, 1, 50⟩, ⟨3, 1, 103⟩]
theorem wake_set : setR [⟨0, 4, 100⟩] ⟨2, 1, 50⟩ = (wakeL, 0) := by kernel_rfl
theorem wake_find : findX wakeL 3 = some 103 := by kernel_rfl
theorem wake_used : usedX wakeL = 4 := by kernel_rfl
set_option maxRecDepth 100000 in
set_option maxHeartbeats 2000000 in
theorem wakes_any (w : World) : Calls Try.prog 10 #[] w fun e w' => e = .returned (.bool true) ∧ Below w.heap.size w w' := by
  have h1 := build32 0 4 100 w
  have HE := Lib.hid (one_list w ⟨0, 4, 100⟩ ⟨by decide, by decide, by decide, by decide, by decide, by decide⟩)
  have HB := Lib.hid ((Below.refl w.heap.size w).alloc (Nat.le_refl _) (.cells #[.int .i64 0, .int .i64 4, .int .i64 100] 32))
  have h2 := build32 2 1 50 (w.alloc (.cells #[.int .i64 0, .int .i64 4, .int .i64 100] 32))
  have HS := Lib.hid (set_any (some ⟨w.heap.size, 0, none⟩) 1 [⟨0, 4, 100⟩] ⟨2, 1, 50⟩ _ HE.out ⟨by decide, by decide, by decide, by decide, by decide, by decide⟩ (by unfold maxLen; simp))
  rw [wake_set] at HS
  have HF := Lib.hid (fun A c v (h : Exts v A wakeL) => find_any A c wakeL 3 v h (by unfold wakeL; simp))
  rw [wake_find] at HF
  have HU := Lib.hid (fun A c v (h : Exts v A wakeL) => used_any A c wakeL v h (by unfold wakeL; simp))
  rw [wake_used] at HU
  have e3 : wakeL.length = 3 := rfl
  simp only [e3, List.length_cons, List.length_nil, Nat.zero_add, exV] at HS HF HU
  go_enter Try.func10, Try.ntmps10
  go_wp2_with (fail)
  refine HS.out.mono ?_; rintro e w1 ⟨A', c', rfl, hx1, hb1⟩
  have HX1 := Lib.hid hx1
  have HB1 := Lib.hid (HB.out.trans (hb1.mono HB.out.size))
  clear hx1 hb1 h1 h2
  go_wp2_with (fail)
  refine (HF.out A' c' _ HX1.out).mono ?_; rintro e w2 ⟨rfl, hb2⟩
  have HX2 := Lib.hid (HX1.out.below hb2)
  have HB2 := Lib.hid (HB1.out.trans (hb2.mono HB1.out.size))
  clear hb2
  unfold findV
  go_wp2_with (fail)
  refine (HU.out A' c' _ HX2.out).mono ?_; rintro e w3 ⟨rfl, hb3⟩
  have HB3 := Lib.hid (HB2.out.trans (hb3.mono HB2.out.size))
  clear hb3
  go_wp2_with (fail)
  go_ret
  exact ⟨rfl, HB3.out⟩
theorem findV_form (o : Option Int) : ∃ v b, findV o = .tuple #[.int .i64 v, .bool b] := by
  cases o with
  | none => exact ⟨_, _, rfl⟩
  | some v => exact ⟨_, _, rfl⟩
set_option maxRecDepth 100000 in
set_option maxHeartbeats 2000000 in
theorem tells_any (A : Option Addr) (c : Nat) (l : List Ex) (n : Int) (w : World) (hl : Exts w A l) :
    Calls Try.prog 3 #[.slice A l.length c, .int .i64 n] w fun e w' => e = .returned (.bool true) ∧ Below w.heap.size w w' := by
  have HL := Lib.hid hl
  clear hl
  obtain ⟨v, b, hv⟩ := findV_form (findX l n)
  have HV := Lib.hid hv; clear hv
  go_enter Try.func3, Try.ntmps3
  by_cases hlg : (300 < l.length ∧ l.length ≤ 4096) ∨ 5000 < l.length
  · have HLA := Lib.hid (large_any A c l.length w)
    rw [decide_eq_true hlg] at HLA
    clear hlg
    go_wp2_with (fail)
    refine HLA.out.mono ?_; rintro e w1 ⟨rfl, rfl⟩
    go_wp2_with (fail)
    refine (wakes_any _).mono ?_; rintro e w2 ⟨rfl, hb2⟩
    have HB2 := Lib.hid hb2; clear hb2
    go_wp2_with (fail)
    go_ret
    exact ⟨rfl, HB2.out⟩
  · have HLA := Lib.hid (large_any A c l.length w)
    rw [decide_eq_false hlg] at HLA
    have hn : l.length ≤ 100000 := by omega
    clear hlg
    go_wp2_with (fail)
    refine HLA.out.mono ?_; rintro e w1 ⟨rfl, rfl⟩
    go_wp2_with (fail)
    refine (few_any A c l _ HL.out hn).mono ?_; rintro e w2 ⟨A2, c2, rfl, hx2, hb2⟩
    have HX2 := Lib.hid hx2; have HL2 := Lib.hid (HL.out.below hb2); have HB2 := Lib.hid hb2
    clear hx2 hb2
    go_wp2_with (fail)
    refine (find_any A2 c2 l n _ HX2.out hn).mono ?_; rintro e w3 ⟨rfl, hb3⟩
    have HX3 := Lib.hid (HX2.out.below hb3); have HL3 := Lib.hid (HL2.out.below hb3); have HB3 := Lib.hid (HB2.out.trans (hb3.mono HB2.out.size))
    clear hb3
    rw [HV.out]
    go_wp2_with (fail)
    refine (refFind_any A c l n _ HL3.out).mono ?_; rintro e w4 ⟨rfl, hb4⟩
    have HX4 := Lib.hid (HX3.out.below hb4); have HL4 := Lib.hid (HL3.out.below hb4); have HB4 := Lib.hid (HB3.out.trans (hb4.mono HB3.out.size))
    clear hb4
    rw [HV.out]
    go_wp2_with (fail)
    refine (good_any A2 c2 l _ HX4.out (by unfold maxLen; omega)).mono ?_; rintro e w5 ⟨rfl, hb5⟩
    have HX5 := Lib.hid (HX4.out.below hb5); have HL5 := Lib.hid (HL4.out.below hb5); have HB5 := Lib.hid (HB4.out.trans (hb5.mono HB4.out.size))
    clear hb5
    go_wp2_with (fail)
    refine (refGood_any A c l _ HL5.out).mono ?_; rintro e w6 ⟨rfl, hb6⟩
    have HX6 := Lib.hid (HX5.out.below hb6); have HL6 := Lib.hid (HL5.out.below hb6); have HB6 := Lib.hid (HB5.out.trans (hb6.mono HB5.out.size))
    clear hb6
    have t1 : (goodB l == goodB l) = true := by simp
    have t2 : (v == v) = true := by simp
    have t3 : (b == b) = true := by simp
    go_wp2_with (fail)
    refine (used_any A2 c2 l _ HX6.out hn).mono ?_; rintro e w7 ⟨rfl, hb7⟩
    have HX7 := Lib.hid (HX6.out.below hb7); have HL7 := Lib.hid (HL6.out.below hb7); have HB7 := Lib.hid (HB6.out.trans (hb7.mono HB6.out.size))
    clear hb7
    go_wp2_with (fail)
    refine (refUsed_any A c l _ HL7.out hn).mono ?_; rintro e w8 ⟨rfl, hb8⟩
    have HX8 := Lib.hid (HX7.out.below hb8); have HL8 := Lib.hid (HL7.out.below hb8); have HB8 := Lib.hid (HB7.out.trans (hb8.mono HB7.out.size))
    clear hb8
    have t4 : (usedX l == usedX l) = true := by simp
    go_wp2_with (fail)
    refine (same_eq A2 A c2 c l _ HX8.out HL8.out hn).mono ?_; rintro e w9 ⟨rfl, hb9⟩
    have HB9 := Lib.hid (HB8.out.trans (hb9.mono HB8.out.size))
    clear hb9
    go_wp2_with (fail)
    refine (wakes_any _).mono ?_; rintro e wa ⟨rfl, hba⟩
    have HBa := Lib.hid (HB9.out.trans (hba.mono HB9.out.size)); clear hba
    go_wp2_with (fail)
    go_ret
    exact ⟨rfl, HBa.out⟩
end Go.Proofs.Ytdopcliicjmjeaa
