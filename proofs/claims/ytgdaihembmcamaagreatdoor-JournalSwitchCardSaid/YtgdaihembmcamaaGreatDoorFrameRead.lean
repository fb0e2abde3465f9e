/- The steps of a reader: what they give, and where they give up. -/
import Derived.Test.YtgdaihembmcamaaGreatDoorShelf
import Derived.Test.YtgdaihembmcamaaGreatDoorCrc
import Derived.Test.YtgdaihembmcamaaGreatDoorSets
import Derived.Test.YtgdaihembmcamaaGreatDoorDevMem
import Derived.Defers
import Derived.Recover
namespace Go.Proofs.YtgdaihembmcamaaGreatDoor
open Go.RowKit
/-- A step gave up with this error. -/
abbrev up (k : Nat) : Ending := .panicked [{ v := .iface 28 (.int .i64 k), recovered := false }]
def itsR (p : Nat) : Nat → Prop := fun k => k = p
/-- The reader at block b has this before it. -/
def Rd (w : World) (b : Nat) (r : ByteArray) : Prop := Blk w b 154 #[.string r]
theorem Rd.cell {w : World} {b : Nat} {r : ByteArray} (h : Rd w b r) : w.cell? ⟨b, 0, none⟩ = some (.string r) := Blk.cell h 0
theorem Rd.free {w : World} {b : Nat} {r : ByteArray} (h : Rd w b r) : w.frozen? ⟨b, 0, none⟩ = false := Blk.free h 0
theorem Rd.put {w : World} {b : Nat} {r : ByteArray} (h : Rd w b r) (s : ByteArray) : Rd (w.setCell ⟨b, 0, none⟩ (.string s)) b s := Blk.put h 0 (.string s)
theorem must_yes (k : Nat) (w : World) : Calls Tryz.prog 113 #[.bool true, .int .i64 k] w fun e w' => e = .returned (.tuple #[]) ∧ w = w' := by
  go_enter Tryz.func113, Tryz.ntmps113
  go_wp2
  go_end0
  exact ⟨rfl, rfl⟩
theorem must_no (k : Nat) (w : World) : Calls Tryz.prog 113 #[.bool false, .int .i64 k] w fun e w' => e = up k ∧ w = w' := by
  go_enter Tryz.func113, Tryz.ntmps113
  go_wp2
  exact ⟨rfl, rfl, rfl⟩
theorem need_yes (b : Nat) (r : ByteArray) (n : Nat) (w : World) (h : Rd w b r) (hn : n ≤ r.size) :
    Calls Tryz.prog 108 #[.pointer (some ⟨b, 0, none⟩), .int .i64 n] w fun e w' => e = .returned (.tuple #[]) ∧ w = w' := by
  have hc := h.cell
  have hni : (n : Int) ≤ (r.size : Int) := by omega
  clear h
  go_enter Tryz.func108, Tryz.ntmps108
  go_wp2_with (fail)
  refine (must_yes 50 _).mono ?_; rintro e w' ⟨rfl, rfl⟩
  go_wp2
  go_end0
  exact ⟨rfl, rfl⟩
theorem need_no (b : Nat) (r : ByteArray) (n : Nat) (w : World) (h : Rd w b r) (hn : ¬ n ≤ r.size) :
    Calls Tryz.prog 108 #[.pointer (some ⟨b, 0, none⟩), .int .i64 n] w fun e w' => e = up 50 ∧ w = w' := by
  have hc := h.cell
  have hni : ¬ (n : Int) ≤ (r.size : Int) := by omega
  clear h
  go_enter Tryz.func108, Tryz.ntmps108
  go_wp2_with (fail)
  refine (must_no 50 _).mono ?_; rintro e w' ⟨rfl, rfl⟩
  go_wp2
  exact ⟨rfl, rfl, rfl⟩
theorem take_yes (b : Nat) (r : ByteArray) (n : Nat) (w : World) (h : Rd w b r) (hn : n ≤ r.size) :
    Calls Tryz.prog 114 #[.pointer (some ⟨b, 0, none⟩), .int .i64 n] w fun e w' => e = .returned (.string (r.extract 0 n)) ∧ w' = w.setCell ⟨b, 0, none⟩ (.string (r.extract n r.size)) := by
  have hc := h.cell
  have hf := h.free
  have hni : (n : Int) ≤ (r.size : Int) := by omega
  have H := Lib.hid h; clear h
  go_enter Tryz.func114, Tryz.ntmps114
  go_wp2_with (fail)
  refine (need_yes b r n _ H.out hn).mono ?_; rintro e w' ⟨rfl, rfl⟩
  go_wp2
  go_ret
  exact ⟨rfl, rfl⟩
theorem take_no (b : Nat) (r : ByteArray) (n : Nat) (w : World) (h : Rd w b r) (hn : ¬ n ≤ r.size) :
    Calls Tryz.prog 114 #[.pointer (some ⟨b, 0, none⟩), .int .i64 n] w fun e w' => e = up 50 ∧ w = w' := by
  go_enter Tryz.func114, Tryz.ntmps114
  go_wp2_with (fail)
  refine (need_no b r n _ h hn).mono ?_; rintro e w' ⟨rfl, rfl⟩
  go_wp2
  exact ⟨rfl, rfl, rfl⟩
/-- Behind a step: the reader has this before it; of what was there only the reader has turned. -/
def RdOut (b : Nat) (w : World) (r : ByteArray) (w' : World) : Prop := Rd w' b r ∧ Only (itsR b) w w'
theorem only_rd (w : World) (b : Nat) (u : Value) : Only (itsR b) w (w.setCell ⟨b, 0, none⟩ u) := (Only.refl (itsR b) w).setCell (.inl (show itsR b b from rfl)) u
theorem RdOut.of_put {w : World} {b : Nat} {r : ByteArray} (h : Rd w b r) (s : ByteArray) : RdOut b w s (w.setCell ⟨b, 0, none⟩ (.string s)) := ⟨h.put s, only_rd w b _⟩
theorem RdOut.below {b : Nat} {w w1 w2 : World} {r : ByteArray} (h : RdOut b w r w1) (hb : Below w1.heap.size w1 w2) : RdOut b w r w2 :=
  ⟨Blk.below (B := w1.heap.size) h.1 hb (Blk.lt h.1), h.2.below hb⟩
theorem RdOut.trans {b : Nat} {w w1 w2 : World} {r s : ByteArray} (h : RdOut b w r w1) (k : RdOut b w1 s w2) : RdOut b w s w2 := ⟨k.1, h.2.trans k.2 fun _ hi => .inl hi⟩
theorem ext_size (s : ByteArray) (a b : Nat) (h : b ≤ s.size) : (s.extract a b).size = b - a := by rw [ByteArray.size_extract]; omega
set_option maxHeartbeats 400000 in
theorem number_yes (b : Nat) (r : ByteArray) (n v : Nat) (m : Int) (w : World) (h : Rd w b r) (h1 : 1 ≤ n) (h8 : n ≤ 8) (hn : n ≤ r.size) (hv : bigR (r.extract 0 n) 0 n = v) (hmi : (v : Int) ≤ m) :
    Calls Tryz.prog 115 #[.pointer (some ⟨b, 0, none⟩), .int .i64 n, .int .u64 m] w fun e w' => e = .returned (.int .u64 v) ∧ RdOut b w (r.extract n r.size) w' := by
  have hz := ext_size r 0 n hn
  have hok : okB (r.extract 0 n) 0 n = true := okB_yes (by omega)
  have P := Lib.hid (RdOut.of_put h (r.extract n r.size))
  have H := Lib.hid h; clear h
  go_enter Tryz.func115, Tryz.ntmps115
  go_wp2_with (fail)
  refine (take_yes b r n _ H.out hn).mono ?_; rintro e w' ⟨rfl, rfl⟩
  go_wp2_with (fail)
  refine (big_any (r.extract 0 n) 0 n _ (by unfold maxLen; omega)).mono ?_; rintro e w2 ⟨rfl, hb⟩
  have P2 := Lib.hid (P.out.below hb); clear hb
  rw [hv, hok]
  go_wp2_with (fail)
  refine (must_yes 50 _).mono ?_; rintro e w' ⟨rfl, rfl⟩
  go_wp2
  go_ret
  exact ⟨rfl, P2.out⟩
set_option maxHeartbeats 400000 in
theorem number_big (b : Nat) (r : ByteArray) (n v : Nat) (m : Int) (w : World) (h : Rd w b r) (h1 : 1 ≤ n) (h8 : n ≤ 8) (hn : n ≤ r.size) (hv : bigR (r.extract 0 n) 0 n = v) (hmi : ¬ (v : Int) ≤ m) :
    Calls Tryz.prog 115 #[.pointer (some ⟨b, 0, none⟩), .int .i64 n, .int .u64 m] w fun e w' => e = up 50 ∧ Only (itsR b) w w' := by
  have hz := ext_size r 0 n hn
  have hok : okB (r.extract 0 n) 0 n = true := okB_yes (by omega)
  have P := Lib.hid (RdOut.of_put h (r.extract n r.size))
  have H := Lib.hid h; clear h
  go_enter Tryz.func115, Tryz.ntmps115
  go_wp2_with (fail)
  refine (take_yes b r n _ H.out hn).mono ?_; rintro e w' ⟨rfl, rfl⟩
  go_wp2_with (fail)
  refine (big_any (r.extract 0 n) 0 n _ (by unfold maxLen; omega)).mono ?_; rintro e w2 ⟨rfl, hb⟩
  have P2 := Lib.hid (P.out.below hb); clear hb
  rw [hv, hok]
  go_wp2_with (fail)
  rw [decide_eq_false (show ¬ (v : Int) ≤ m by omega)]
  refine (must_no 50 _).mono ?_; rintro e w' ⟨rfl, rfl⟩
  go_wp2
  exact ⟨rfl, rfl, P2.out.2⟩
theorem number_short (b : Nat) (r : ByteArray) (n : Nat) (m : Int) (w : World) (h : Rd w b r) (hn : ¬ n ≤ r.size) :
    Calls Tryz.prog 115 #[.pointer (some ⟨b, 0, none⟩), .int .i64 n, .int .u64 m] w fun e w' => e = up 50 ∧ w = w' := by
  go_enter Tryz.func115, Tryz.ntmps115
  go_wp2_with (fail)
  refine (take_no b r n _ h hn).mono ?_; rintro e w' ⟨rfl, rfl⟩
  go_wp2
  exact ⟨rfl, rfl, rfl⟩
abbrev gTab : Nat := 1
theorem Tab.only {b : Nat} {w w' : World} (h : Tab w) (ho : Only (itsR b) w w') (hb : b ≠ gTab) : Tab w' :=
  ⟨Nat.lt_of_lt_of_le h.pos ho.size, fun i hi => ho.cell (h.cell i hi) (fun e => hb (Eq.symm e))⟩
theorem beqS (a b : ByteArray) : (a.toList == b.toList) = decide (a = b) := by
  by_cases h : a = b
  · subst h; simp
  · rw [decide_eq_false h]
    refine beq_eq_false_iff_ne.2 fun he => h ?_
    rw [ByteArray.toList_eq, ByteArray.toList_eq] at he
    exact bytes_ext he
set_option maxHeartbeats 400000 in
theorem sealed_yes (b : Nat) (r : ByteArray) (n : Nat) (w : World) (h : Rd w b r) (hn : n + 4 ≤ r.size) (hr : r.size ≤ maxLen) (ht : Tab w) (hb : b ≠ gTab) (hd : r.extract n (n + 4) = digV (r.extract 0 n)) :
    Calls Tryz.prog 109 #[.pointer (some ⟨b, 0, none⟩), .int .i64 n] w fun e w' => e = .returned (.string (r.extract 0 n)) ∧ RdOut b w (r.extract (n + 4) r.size) w' := by
  have hz := ext_size r n r.size (Nat.le_refl _)
  have hz0 := ext_size r 0 n (by omega)
  have he : (r.extract n r.size).extract 0 4 = r.extract n (n + 4) := by rw [ByteArray.extract_extract]; congr 1; omega
  have he2 : (r.extract n r.size).extract 4 (r.extract n r.size).size = r.extract (n + 4) r.size := by rw [hz, ByteArray.extract_extract]; congr 1; omega
  have P := Lib.hid (RdOut.of_put h (r.extract n r.size))
  have P2 := Lib.hid (P.out.trans (RdOut.of_put P.out.1 (r.extract (n + 4) r.size)))
  have HE := Lib.hid he; have HE2 := Lib.hid he2; clear he he2
  have HD := Lib.hid hd; clear hd
  have H := Lib.hid h; clear h
  go_enter Tryz.func109, Tryz.ntmps109
  go_wp2_with (fail)
  refine (take_yes b r n _ H.out (by omega)).mono ?_; rintro e w' ⟨rfl, rfl⟩
  go_wp2_with (fail)
  refine (take_yes b _ 4 _ P.out.1 (by omega)).mono ?_; rintro e w' ⟨rfl, rfl⟩
  rw [HE.out, HE2.out]
  go_wp2_with (fail)
  refine (right_any _ _ _ (by unfold maxLen at *; omega) (ht.only P2.out.2 hb)).mono ?_; rintro e w2 ⟨rfl, hb2⟩
  have P3 := Lib.hid (P2.out.below hb2); clear hb2
  rw [beqS, decide_eq_true HD.out]
  go_wp2_with (fail)
  refine (must_yes 51 _).mono ?_; rintro e w' ⟨rfl, rfl⟩
  go_wp2
  go_ret
  exact ⟨rfl, P3.out⟩
set_option maxHeartbeats 400000 in
theorem sealed_bad (b : Nat) (r : ByteArray) (n : Nat) (w : World) (h : Rd w b r) (hn : n + 4 ≤ r.size) (hr : r.size ≤ maxLen) (ht : Tab w) (hb : b ≠ gTab) (hd : ¬ r.extract n (n + 4) = digV (r.extract 0 n)) :
    Calls Tryz.prog 109 #[.pointer (some ⟨b, 0, none⟩), .int .i64 n] w fun e w' => e = up 51 ∧ Only (itsR b) w w' := by
  have hz := ext_size r n r.size (Nat.le_refl _)
  have hz0 := ext_size r 0 n (by omega)
  have he : (r.extract n r.size).extract 0 4 = r.extract n (n + 4) := by rw [ByteArray.extract_extract]; congr 1; omega
  have he2 : (r.extract n r.size).extract 4 (r.extract n r.size).size = r.extract (n + 4) r.size := by rw [hz, ByteArray.extract_extract]; congr 1; omega
  have P := Lib.hid (RdOut.of_put h (r.extract n r.size))
  have P2 := Lib.hid (P.out.trans (RdOut.of_put P.out.1 (r.extract (n + 4) r.size)))
  have HE := Lib.hid he; have HE2 := Lib.hid he2; clear he he2
  have HD := Lib.hid hd; clear hd
  have H := Lib.hid h; clear h
  go_enter Tryz.func109, Tryz.ntmps109
  go_wp2_with (fail)
  refine (take_yes b r n _ H.out (by omega)).mono ?_; rintro e w' ⟨rfl, rfl⟩
  go_wp2_with (fail)
  refine (take_yes b _ 4 _ P.out.1 (by omega)).mono ?_; rintro e w' ⟨rfl, rfl⟩
  rw [HE.out, HE2.out]
  go_wp2_with (fail)
  refine (right_any _ _ _ (by unfold maxLen at *; omega) (ht.only P2.out.2 hb)).mono ?_; rintro e w2 ⟨rfl, hb2⟩
  have P3 := Lib.hid (P2.out.below hb2); clear hb2
  rw [beqS, decide_eq_false HD.out]
  go_wp2_with (fail)
  refine (must_no 51 _).mono ?_; rintro e w' ⟨rfl, rfl⟩
  go_wp2
  exact ⟨rfl, rfl, P3.out.2⟩
theorem sealed_short (b : Nat) (r : ByteArray) (n : Nat) (w : World) (h : Rd w b r) (hn : ¬ n + 4 ≤ r.size) :
    Calls Tryz.prog 109 #[.pointer (some ⟨b, 0, none⟩), .int .i64 n] w fun e w' => e = up 50 ∧ Only (itsR b) w w' := by
  by_cases h1 : n ≤ r.size
  · have h2 := ext_size r n r.size (Nat.le_refl _)
    have H := Lib.hid h; clear h
    go_enter Tryz.func109, Tryz.ntmps109
    go_wp2_with (fail)
    refine (take_yes b r n _ H.out h1).mono ?_; rintro e w' ⟨rfl, rfl⟩
    go_wp2_with (fail)
    refine (take_no b _ 4 _ (H.out.put _) (by omega)).mono ?_; rintro e w' ⟨rfl, rfl⟩
    go_wp2
    exact ⟨rfl, rfl, only_rd _ _ _⟩
  · go_enter Tryz.func109, Tryz.ntmps109
    go_wp2_with (fail)
    refine (take_no b r n _ h h1).mono ?_; rintro e w' ⟨rfl, rfl⟩
    go_wp2
    exact ⟨rfl, rfl, Only.refl _ _⟩
def allZ (s : ByteArray) : Bool := s.data.toList.all (· == 0)
theorem dropZ_all : ∀ l : List UInt8, l.dropWhile (· == 0) = [] → ∀ x ∈ l, (x == 0) = true
  | [], _, x, hx => by cases hx
  | a :: l, h, x, hx => by
    cases ha : (a == 0) with
    | false => simp [List.dropWhile, ha] at h
    | true =>
      rcases List.mem_cons.1 hx with e | e
      · rw [e]; exact ha
      · exact dropZ_all l (by simpa [List.dropWhile, ha] using h) x e
theorem all_dropZ : ∀ l : List UInt8, (∀ x ∈ l, (x == 0) = true) → l.dropWhile (· == 0) = []
  | [], _ => rfl
  | a :: l, h => by
    have ha := h a (List.mem_cons_self ..)
    simp only [List.dropWhile, ha]
    exact all_dropZ l fun x hx => h x (List.mem_cons_of_mem _ hx)
theorem trim_all (l : List UInt8) (h : l.all (· == 0) = true) : Lib.trimB l 0 = [] := by
  have e : l.reverse.dropWhile (· == 0) = [] := by
    refine all_dropZ _ fun x hx => ?_
    exact List.all_eq_true.1 h x (List.mem_reverse.1 hx)
  unfold Lib.trimB Lib.trimRightB
  rw [e]
  rfl
theorem trim_some (l : List UInt8) (h : l.all (· == 0) = false) : 0 < (Lib.trimB l 0).length := by
  refine Nat.pos_of_ne_zero fun h0 => ?_
  have h1 := List.eq_nil_of_length_eq_zero h0
  unfold Lib.trimB Lib.trimLeftB at h1
  have h1 := dropZ_all _ h1
  have e : l.reverse.dropWhile (· == 0) = [] := by
    cases hd : l.reverse.dropWhile (· == 0) with
    | nil => rfl
    | cons y ys =>
      have h2 := h1 y (by unfold Lib.trimRightB; rw [hd]; simp)
      have h3 := List.head_dropWhile_not (· == 0) (l := l.reverse) (by rw [hd]; simp)
      simp only [hd, List.head_cons] at h3
      rw [h3] at h2
      cases h2
  have e := dropZ_all _ e
  have : l.all (· == 0) = true := List.all_eq_true.2 fun x hx => e x (List.mem_reverse.2 hx)
  rw [this] at h
  cases h
set_option maxHeartbeats 400000 in
theorem zeros_yes (b : Nat) (r : ByteArray) (n : Nat) (w : World) (h : Rd w b r) (hn : n ≤ r.size) (hr : r.size ≤ maxLen) (hd : allZ (r.extract 0 n) = true) :
    Calls Tryz.prog 110 #[.pointer (some ⟨b, 0, none⟩), .int .i64 n] w fun e w' => e = .returned (.tuple #[]) ∧ RdOut b w (r.extract n r.size) w' := by
  have hz0 := ext_size r 0 n (by omega)
  have P := Lib.hid (RdOut.of_put h (r.extract n r.size))
  have H := Lib.hid h; clear h
  go_enter Tryz.func110, Tryz.ntmps110
  go_wp2_with (fail)
  refine (take_yes b r n _ H.out hn).mono ?_; rintro e w' ⟨rfl, rfl⟩
  go_wp2_with (fail)
  refine (Tryz.strings_Trim_one (r.extract 0 n) 0 (by decide) _ (by unfold maxLen at *; omega)).mono ?_; rintro e w2 ⟨rfl, hb2⟩
  have hb3 : Below (w.setCell ⟨b, 0, none⟩ (.string (r.extract n r.size))).heap.size (w.setCell ⟨b, 0, none⟩ (.string (r.extract n r.size))) w2 := by
    rcases hb2 with rfl | rfl
    · exact Below.refl _ _
    · exact (Below.refl _ _).drew
  have P3 := Lib.hid (P.out.below hb3); clear hb3 hb2
  rw [trim_all _ hd]
  go_wp2_with (fail)
  refine (must_yes 50 _).mono ?_; rintro e w' ⟨rfl, rfl⟩
  go_wp2
  go_end0
  exact ⟨rfl, P3.out⟩
set_option maxHeartbeats 400000 in
theorem zeros_bad (b : Nat) (r : ByteArray) (n : Nat) (w : World) (h : Rd w b r) (hn : n ≤ r.size) (hr : r.size ≤ maxLen) (hd : allZ (r.extract 0 n) = false) :
    Calls Tryz.prog 110 #[.pointer (some ⟨b, 0, none⟩), .int .i64 n] w fun e w' => e = up 50 ∧ Only (itsR b) w w' := by
  have hz0 := ext_size r 0 n (by omega)
  have P := Lib.hid (RdOut.of_put h (r.extract n r.size))
  have H := Lib.hid h; clear h
  go_enter Tryz.func110, Tryz.ntmps110
  go_wp2_with (fail)
  refine (take_yes b r n _ H.out hn).mono ?_; rintro e w' ⟨rfl, rfl⟩
  go_wp2_with (fail)
  refine (Tryz.strings_Trim_one (r.extract 0 n) 0 (by decide) _ (by unfold maxLen at *; omega)).mono ?_; rintro e w2 ⟨rfl, hb2⟩
  have hb3 : Below (w.setCell ⟨b, 0, none⟩ (.string (r.extract n r.size))).heap.size (w.setCell ⟨b, 0, none⟩ (.string (r.extract n r.size))) w2 := by
    rcases hb2 with rfl | rfl
    · exact Below.refl _ _
    · exact (Below.refl _ _).drew
  have P3 := Lib.hid (P.out.below hb3); clear hb3 hb2
  have hp : 0 < (⟨(Lib.trimB (r.extract 0 n).data.toList 0).toArray⟩ : ByteArray).size := by rw [Lib.size_mk]; exact trim_some _ hd
  generalize (⟨(Lib.trimB (r.extract 0 n).data.toList 0).toArray⟩ : ByteArray) = t at hp ⊢
  have he := isEmpty_no t hp
  clear hp
  go_wp2_with (fail)
  refine (must_no 50 _).mono ?_; rintro e w' ⟨rfl, rfl⟩
  go_wp2
  exact ⟨rfl, rfl, P3.out.2⟩
end Go.Proofs.YtgdaihembmcamaaGreatDoor
