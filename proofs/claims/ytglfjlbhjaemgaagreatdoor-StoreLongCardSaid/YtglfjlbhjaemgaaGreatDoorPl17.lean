/- The steps of a reader: what they give, and where they give up. The head of a frame, as the program's reader has it. A whole frame, as the program's reader has it. What catch makes of steps that give up, and of steps that don't. -/
import Derived.Test.YtglfjlbhjaemgaaGreatDoorPl01
import Derived.Test.YtglfjlbhjaemgaaGreatDoorPl09
import Derived.Test.YtglfjlbhjaemgaaGreatDoorPl16
import Derived.Test.YtglfjlbhjaemgaaGreatDoorPl02
import Derived.Defers
import Derived.Recover
namespace Go.Proofs.YtglfjlbhjaemgaaGreatDoor
open Go.RowKit
/-- A step gave up with this error. -/
abbrev up (k : Nat) : Ending := .panicked [{ v := .iface 30 (.int .i64 k), recovered := false }]
def itsR (p : Nat) : Nat → Prop := fun k => k = p
/-- The reader at block b has this before it. -/
def Rd (w : World) (b : Nat) (r : ByteArray) : Prop := Blk w b 313 #[.string r]
theorem Rd.cell {w : World} {b : Nat} {r : ByteArray} (h : Rd w b r) : w.cell? ⟨b, 0, none⟩ = some (.string r) := Blk.cell h 0
theorem Rd.free {w : World} {b : Nat} {r : ByteArray} (h : Rd w b r) : w.frozen? ⟨b, 0, none⟩ = false := Blk.free h 0
theorem Rd.put {w : World} {b : Nat} {r : ByteArray} (h : Rd w b r) (s : ByteArray) : Rd (w.setCell ⟨b, 0, none⟩ (.string s)) b s := Blk.put h 0 (.string s)
theorem must_yes (k : Nat) (w : World) : Calls Tryz.prog 242 #[.bool true, .int .i64 k] w fun e w' => e = .returned (.tuple #[]) ∧ w = w' := by
  go_enter Tryz.func242, Tryz.ntmps242
  go_wp2
  go_end0
  exact ⟨rfl, rfl⟩
theorem must_no (k : Nat) (w : World) : Calls Tryz.prog 242 #[.bool false, .int .i64 k] w fun e w' => e = up k ∧ w = w' := by
  go_enter Tryz.func242, Tryz.ntmps242
  go_wp2
  exact ⟨rfl, rfl, rfl⟩
theorem need_yes (b : Nat) (r : ByteArray) (n : Nat) (w : World) (h : Rd w b r) (hn : n ≤ r.size) :
    Calls Tryz.prog 227 #[.pointer (some ⟨b, 0, none⟩), .int .i64 n] w fun e w' => e = .returned (.tuple #[]) ∧ w = w' := by
  have hc := h.cell
  have hni : (n : Int) ≤ (r.size : Int) := by omega
  clear h
  go_enter Tryz.func227, Tryz.ntmps227
  go_wp2_with (fail)
  refine (must_yes 50 _).mono ?_; rintro e w' ⟨rfl, rfl⟩
  go_wp2
  go_end0
  exact ⟨rfl, rfl⟩
theorem need_no (b : Nat) (r : ByteArray) (n : Nat) (w : World) (h : Rd w b r) (hn : ¬ n ≤ r.size) :
    Calls Tryz.prog 227 #[.pointer (some ⟨b, 0, none⟩), .int .i64 n] w fun e w' => e = up 50 ∧ w = w' := by
  have hc := h.cell
  have hni : ¬ (n : Int) ≤ (r.size : Int) := by omega
  clear h
  go_enter Tryz.func227, Tryz.ntmps227
  go_wp2_with (fail)
  refine (must_no 50 _).mono ?_; rintro e w' ⟨rfl, rfl⟩
  go_wp2
  exact ⟨rfl, rfl, rfl⟩
theorem take_yes (b : Nat) (r : ByteArray) (n : Nat) (w : World) (h : Rd w b r) (hn : n ≤ r.size) :
    Calls Tryz.prog 243 #[.pointer (some ⟨b, 0, none⟩), .int .i64 n] w fun e w' => e = .returned (.string (r.extract 0 n)) ∧ w' = w.setCell ⟨b, 0, none⟩ (.string (r.extract n r.size)) := by
  have hc := h.cell
  have hf := h.free
  have hni : (n : Int) ≤ (r.size : Int) := by omega
  have H := Lib.hid h; clear h
  go_enter Tryz.func243, Tryz.ntmps243
  go_wp2_with (fail)
  refine (need_yes b r n _ H.out hn).mono ?_; rintro e w' ⟨rfl, rfl⟩
  go_wp2
  go_ret
  exact ⟨rfl, rfl⟩
theorem take_no (b : Nat) (r : ByteArray) (n : Nat) (w : World) (h : Rd w b r) (hn : ¬ n ≤ r.size) :
    Calls Tryz.prog 243 #[.pointer (some ⟨b, 0, none⟩), .int .i64 n] w fun e w' => e = up 50 ∧ w = w' := by
  go_enter Tryz.func243, Tryz.ntmps243
  go_wp2_with (fail)
  refine (need_no b r n _ h hn).mono ?_; rintro e w' ⟨rfl, rfl⟩
  go_wp2
  exact ⟨rfl, rfl, rfl⟩
/-- Behind a step: the reader has this before it; of what was there only the reader has turned. -/
def RdOut (b : Nat) (w : World) (r : ByteArray) (w' : World) : Prop := Rd w' b r ∧ Only (itsR b) w w'
theorem only_rd (w : World) (b : Nat) (u : Value) : Only (itsR b) w (w.setCell ⟨b, 0, none⟩ u) := (Only.refl (itsR b) w).setCell (.inl (show itsR b b from rfl)) u
theorem RdOut.of_put {w : World} {b : Nat} {r : ByteArray} (h : Rd w b r) (s : ByteArray) : RdOut b w s (w.setCell ⟨b, 0, none⟩ (.string s)) := ⟨h.put s, only_rd w b _⟩
theorem RdOut.below {b : Nat} {w w1 w2 : World} {r : ByteArray} (h : RdOut b w r w1) (hb : Below w1.heap.size w1 w2) : RdOut b w r w2 :=
  ⟨Blk.below (B := w1.heap.size) h.1 hb (Blk.lt h.1), h.2.below hb⟩
theorem RdOut.trans {b : Nat} {w w1 w2 : World} {r s : ByteArray} (h : RdOut b w r w1) (k : RdOut b w1 s w2) : RdOut b w s w2 := ⟨k.1, h.2.trans k.2 fun _ hi => .inl hi⟩
theorem ext_size (s : ByteArray) (a b : Nat) (h : b ≤ s.size) : (s.extract a b).size = b - a := by rw [ByteArray.size_extract]; omega
set_option maxHeartbeats 400000 in
theorem number_yes (b : Nat) (r : ByteArray) (n v : Nat) (m : Int) (w : World) (h : Rd w b r) (h1 : 1 ≤ n) (h8 : n ≤ 8) (hn : n ≤ r.size) (hv : bigR (r.extract 0 n) 0 n = v) (hmi : (v : Int) ≤ m) :
    Calls Tryz.prog 244 #[.pointer (some ⟨b, 0, none⟩), .int .i64 n, .int .u64 m] w fun e w' => e = .returned (.int .u64 v) ∧ RdOut b w (r.extract n r.size) w' := by
  have hz := ext_size r 0 n hn
  have hok : okB (r.extract 0 n) 0 n = true := okB_yes (by omega)
  have P := Lib.hid (RdOut.of_put h (r.extract n r.size))
  have H := Lib.hid h; clear h
  go_enter Tryz.func244, Tryz.ntmps244
  go_wp2_with (fail)
  refine (take_yes b r n _ H.out hn).mono ?_; rintro e w' ⟨rfl, rfl⟩
  go_wp2_with (fail)
  refine (big_any (r.extract 0 n) 0 n _ (by unfold maxLen; omega)).mono ?_; rintro e w2 ⟨rfl, hb⟩
  have P2 := Lib.hid (P.out.below hb); clear hb
  rw [hv, hok]
  go_wp2_with (fail)
  refine (must_yes 50 _).mono ?_; rintro e w' ⟨rfl, rfl⟩
  go_wp2
  go_ret
  exact ⟨rfl, P2.out⟩
set_option maxHeartbeats 400000 in
theorem number_big (b : Nat) (r : ByteArray) (n v : Nat) (m : Int) (w : World) (h : Rd w b r) (h1 : 1 ≤ n) (h8 : n ≤ 8) (hn : n ≤ r.size) (hv : bigR (r.extract 0 n) 0 n = v) (hmi : ¬ (v : Int) ≤ m) :
    Calls Tryz.prog 244 #[.pointer (some ⟨b, 0, none⟩), .int .i64 n, .int .u64 m] w fun e w' => e = up 50 ∧ Only (itsR b) w w' := by
  have hz := ext_size r 0 n hn
  have hok : okB (r.extract 0 n) 0 n = true := okB_yes (by omega)
  have P := Lib.hid (RdOut.of_put h (r.extract n r.size))
  have H := Lib.hid h; clear h
  go_enter Tryz.func244, Tryz.ntmps244
  go_wp2_with (fail)
  refine (take_yes b r n _ H.out hn).mono ?_; rintro e w' ⟨rfl, rfl⟩
  go_wp2_with (fail)
  refine (big_any (r.extract 0 n) 0 n _ (by unfold maxLen; omega)).mono ?_; rintro e w2 ⟨rfl, hb⟩
  have P2 := Lib.hid (P.out.below hb); clear hb
  rw [hv, hok]
  go_wp2_with (fail)
  rw [decide_eq_false (show ¬ (v : Int) ≤ m by omega)]
  refine (must_no 50 _).mono ?_; rintro e w' ⟨rfl, rfl⟩
  go_wp2
  exact ⟨rfl, rfl, P2.out.2⟩
abbrev gTab : Nat := 1
theorem Tab.only {b : Nat} {w w' : World} (h : Tab w) (ho : Only (itsR b) w w') (hb : b ≠ gTab) : Tab w' :=
  ⟨Nat.lt_of_lt_of_le h.pos ho.size, fun i hi => ho.cell (h.cell i hi) (fun e => hb (Eq.symm e))⟩
theorem beqS (a b : ByteArray) : (a.toList == b.toList) = decide (a = b) := by
  by_cases h : a = b
  · subst h; simp
  · rw [decide_eq_false h]
    refine beq_eq_false_iff_ne.2 fun he => h ?_
    rw [ByteArray.toList_eq, ByteArray.toList_eq] at he
    exact bytes_ext he
set_option maxHeartbeats 400000 in
theorem sealed_yes (b : Nat) (r : ByteArray) (n : Nat) (w : World) (h : Rd w b r) (hn : n + 4 ≤ r.size) (hr : r.size ≤ maxLen) (ht : Tab w) (hb : b ≠ gTab) (hd : r.extract n (n + 4) = digV (r.extract 0 n)) :
    Calls Tryz.prog 228 #[.pointer (some ⟨b, 0, none⟩), .int .i64 n] w fun e w' => e = .returned (.string (r.extract 0 n)) ∧ RdOut b w (r.extract (n + 4) r.size) w' := by
  have hz := ext_size r n r.size (Nat.le_refl _)
  have hz0 := ext_size r 0 n (by omega)
  have he : (r.extract n r.size).extract 0 4 = r.extract n (n + 4) := by rw [ByteArray.extract_extract]; congr 1; omega
  have he2 : (r.extract n r.size).extract 4 (r.extract n r.size).size = r.extract (n + 4) r.size := by rw [hz, ByteArray.extract_extract]; congr 1; omega
  have P := Lib.hid (RdOut.of_put h (r.extract n r.size))
  have P2 := Lib.hid (P.out.trans (RdOut.of_put P.out.1 (r.extract (n + 4) r.size)))
  have HE := Lib.hid he; have HE2 := Lib.hid he2; clear he he2
  have HD := Lib.hid hd; clear hd
  have H := Lib.hid h; clear h
  go_enter Tryz.func228, Tryz.ntmps228
  go_wp2_with (fail)
  refine (take_yes b r n _ H.out (by omega)).mono ?_; rintro e w' ⟨rfl, rfl⟩
  go_wp2_with (fail)
  refine (take_yes b _ 4 _ P.out.1 (by omega)).mono ?_; rintro e w' ⟨rfl, rfl⟩
  rw [HE.out, HE2.out]
  go_wp2_with (fail)
  refine (right_any _ _ _ (by unfold maxLen at *; omega) (ht.only P2.out.2 hb)).mono ?_; rintro e w2 ⟨rfl, hb2⟩
  have P3 := Lib.hid (P2.out.below hb2); clear hb2
  rw [beqS, decide_eq_true HD.out]
  go_wp2_with (fail)
  refine (must_yes 51 _).mono ?_; rintro e w' ⟨rfl, rfl⟩
  go_wp2
  go_ret
  exact ⟨rfl, P3.out⟩
set_option maxHeartbeats 400000 in
theorem sealed_bad (b : Nat) (r : ByteArray) (n : Nat) (w : World) (h : Rd w b r) (hn : n + 4 ≤ r.size) (hr : r.size ≤ maxLen) (ht : Tab w) (hb : b ≠ gTab) (hd : ¬ r.extract n (n + 4) = digV (r.extract 0 n)) :
    Calls Tryz.prog 228 #[.pointer (some ⟨b, 0, none⟩), .int .i64 n] w fun e w' => e = up 51 ∧ Only (itsR b) w w' := by
  have hz := ext_size r n r.size (Nat.le_refl _)
  have hz0 := ext_size r 0 n (by omega)
  have he : (r.extract n r.size).extract 0 4 = r.extract n (n + 4) := by rw [ByteArray.extract_extract]; congr 1; omega
  have he2 : (r.extract n r.size).extract 4 (r.extract n r.size).size = r.extract (n + 4) r.size := by rw [hz, ByteArray.extract_extract]; congr 1; omega
  have P := Lib.hid (RdOut.of_put h (r.extract n r.size))
  have P2 := Lib.hid (P.out.trans (RdOut.of_put P.out.1 (r.extract (n + 4) r.size)))
  have HE := Lib.hid he; have HE2 := Lib.hid he2; clear he he2
  have HD := Lib.hid hd; clear hd
  have H := Lib.hid h; clear h
  go_enter Tryz.func228, Tryz.ntmps228
  go_wp2_with (fail)
  refine (take_yes b r n _ H.out (by omega)).mono ?_; rintro e w' ⟨rfl, rfl⟩
  go_wp2_with (fail)
  refine (take_yes b _ 4 _ P.out.1 (by omega)).mono ?_; rintro e w' ⟨rfl, rfl⟩
  rw [HE.out, HE2.out]
  go_wp2_with (fail)
  refine (right_any _ _ _ (by unfold maxLen at *; omega) (ht.only P2.out.2 hb)).mono ?_; rintro e w2 ⟨rfl, hb2⟩
  have P3 := Lib.hid (P2.out.below hb2); clear hb2
  rw [beqS, decide_eq_false HD.out]
  go_wp2_with (fail)
  refine (must_no 51 _).mono ?_; rintro e w' ⟨rfl, rfl⟩
  go_wp2
  exact ⟨rfl, rfl, P3.out.2⟩
theorem sealed_short (b : Nat) (r : ByteArray) (n : Nat) (w : World) (h : Rd w b r) (hn : ¬ n + 4 ≤ r.size) :
    Calls Tryz.prog 228 #[.pointer (some ⟨b, 0, none⟩), .int .i64 n] w fun e w' => e = up 50 ∧ Only (itsR b) w w' := by
  by_cases h1 : n ≤ r.size
  · have h2 := ext_size r n r.size (Nat.le_refl _)
    have H := Lib.hid h; clear h
    go_enter Tryz.func228, Tryz.ntmps228
    go_wp2_with (fail)
    refine (take_yes b r n _ H.out h1).mono ?_; rintro e w' ⟨rfl, rfl⟩
    go_wp2_with (fail)
    refine (take_no b _ 4 _ (H.out.put _) (by omega)).mono ?_; rintro e w' ⟨rfl, rfl⟩
    go_wp2
    exact ⟨rfl, rfl, only_rd _ _ _⟩
  · go_enter Tryz.func228, Tryz.ntmps228
    go_wp2_with (fail)
    refine (take_no b r n _ h h1).mono ?_; rintro e w' ⟨rfl, rfl⟩
    go_wp2
    exact ⟨rfl, rfl, Only.refl _ _⟩
def allZ (s : ByteArray) : Bool := s.data.toList.all (· == 0)
theorem dropZ_all : ∀ l : List UInt8, l.dropWhile (· == 0) = [] → ∀ x ∈ l, (x == 0) = true
  | [], _, x, hx => by cases hx
  | a :: l, h, x, hx => by
    cases ha : (a == 0) with
    | false => simp [List.dropWhile, ha] at h
    | true =>
      rcases List.mem_cons.1 hx with e | e
      · rw [e]; exact ha
      · exact dropZ_all l (by simpa [List.dropWhile, ha] using h) x e
theorem all_dropZ : ∀ l : List UInt8, (∀ x ∈ l, (x == 0) = true) → l.dropWhile (· == 0) = []
  | [], _ => rfl
  | a :: l, h => by
    have ha := h a (List.mem_cons_self ..)
    simp only [List.dropWhile, ha]
    exact all_dropZ l fun x hx => h x (List.mem_cons_of_mem _ hx)
theorem trim_all (l : List UInt8) (h : l.all (· == 0) = true) : Lib.trimB l 0 = [] := by
  have e : l.reverse.dropWhile (· == 0) = [] := by
    refine all_dropZ _ fun x hx => ?_
    exact List.all_eq_true.1 h x (List.mem_reverse.1 hx)
  unfold Lib.trimB Lib.trimRightB
  rw [e]
  rfl
theorem trim_some (l : List UInt8) (h : l.all (· == 0) = false) : 0 < (Lib.trimB l 0).length := by
  refine Nat.pos_of_ne_zero fun h0 => ?_
  have h1 := List.eq_nil_of_length_eq_zero h0
  unfold Lib.trimB Lib.trimLeftB at h1
  have h1 := dropZ_all _ h1
  have e : l.reverse.dropWhile (· == 0) = [] := by
    cases hd : l.reverse.dropWhile (· == 0) with
    | nil => rfl
    | cons y ys =>
      have h2 := h1 y (by unfold Lib.trimRightB; rw [hd]; simp)
      have h3 := List.head_dropWhile_not (· == 0) (l := l.reverse) (by rw [hd]; simp)
      simp only [hd, List.head_cons] at h3
      rw [h3] at h2
      cases h2
  have e := dropZ_all _ e
  have : l.all (· == 0) = true := List.all_eq_true.2 fun x hx => e x (List.mem_reverse.2 hx)
  rw [this] at h
  cases h
set_option maxHeartbeats 400000 in
theorem zeros_yes (b : Nat) (r : ByteArray) (n : Nat) (w : World) (h : Rd w b r) (hn : n ≤ r.size) (hr : r.size ≤ maxLen) (hd : allZ (r.extract 0 n) = true) :
    Calls Tryz.prog 229 #[.pointer (some ⟨b, 0, none⟩), .int .i64 n] w fun e w' => e = .returned (.tuple #[]) ∧ RdOut b w (r.extract n r.size) w' := by
  have hz0 := ext_size r 0 n (by omega)
  have P := Lib.hid (RdOut.of_put h (r.extract n r.size))
  have H := Lib.hid h; clear h
  go_enter Tryz.func229, Tryz.ntmps229
  go_wp2_with (fail)
  refine (take_yes b r n _ H.out hn).mono ?_; rintro e w' ⟨rfl, rfl⟩
  go_wp2_with (fail)
  refine (Tryz.strings_Trim_one (r.extract 0 n) 0 (by decide) _ (by unfold maxLen at *; omega)).mono ?_; rintro e w2 ⟨rfl, hb2⟩
  have hb3 : Below (w.setCell ⟨b, 0, none⟩ (.string (r.extract n r.size))).heap.size (w.setCell ⟨b, 0, none⟩ (.string (r.extract n r.size))) w2 := by
    rcases hb2 with rfl | rfl
    · exact Below.refl _ _
    · exact (Below.refl _ _).drew
  have P3 := Lib.hid (P.out.below hb3); clear hb3 hb2
  rw [trim_all _ hd]
  go_wp2_with (fail)
  refine (must_yes 50 _).mono ?_; rintro e w' ⟨rfl, rfl⟩
  go_wp2
  go_end0
  exact ⟨rfl, P3.out⟩
set_option maxHeartbeats 400000 in
theorem zeros_bad (b : Nat) (r : ByteArray) (n : Nat) (w : World) (h : Rd w b r) (hn : n ≤ r.size) (hr : r.size ≤ maxLen) (hd : allZ (r.extract 0 n) = false) :
    Calls Tryz.prog 229 #[.pointer (some ⟨b, 0, none⟩), .int .i64 n] w fun e w' => e = up 50 ∧ Only (itsR b) w w' := by
  have hz0 := ext_size r 0 n (by omega)
  have P := Lib.hid (RdOut.of_put h (r.extract n r.size))
  have H := Lib.hid h; clear h
  go_enter Tryz.func229, Tryz.ntmps229
  go_wp2_with (fail)
  refine (take_yes b r n _ H.out hn).mono ?_; rintro e w' ⟨rfl, rfl⟩
  go_wp2_with (fail)
  refine (Tryz.strings_Trim_one (r.extract 0 n) 0 (by decide) _ (by unfold maxLen at *; omega)).mono ?_; rintro e w2 ⟨rfl, hb2⟩
  have hb3 : Below (w.setCell ⟨b, 0, none⟩ (.string (r.extract n r.size))).heap.size (w.setCell ⟨b, 0, none⟩ (.string (r.extract n r.size))) w2 := by
    rcases hb2 with rfl | rfl
    · exact Below.refl _ _
    · exact (Below.refl _ _).drew
  have P3 := Lib.hid (P.out.below hb3); clear hb3 hb2
  have hp : 0 < (⟨(Lib.trimB (r.extract 0 n).data.toList 0).toArray⟩ : ByteArray).size := by rw [Lib.size_mk]; exact trim_some _ hd
  generalize (⟨(Lib.trimB (r.extract 0 n).data.toList 0).toArray⟩ : ByteArray) = t at hp ⊢
  have he := isEmpty_no t hp
  clear hp
  go_wp2_with (fail)
  refine (must_no 50 _).mono ?_; rintro e w' ⟨rfl, rfl⟩
  go_wp2
  exact ⟨rfl, rfl, P3.out.2⟩
open Go.RowKit
def markS : ByteArray := ⟨#[72, 71, 70, 82]⟩
def numF (s : ByteArray) : Nat := bigV (readV s 4) 8
def lenF (s : ByteArray) : Nat := bigV (readV s 12) 4
theorem numF_lt (s : ByteArray) : numF s < 18446744073709551616 := bigV_u64 _ (readV_lt s 4) 8 (by decide)
/-- A text begins as a frame does. -/
def Begun (s : ByteArray) : Prop := 20 ≤ s.size ∧ s.extract 0 4 = markS
theorem byt_ext (s : ByteArray) (a b i : Nat) (h : a + i < b) : byt (s.extract a b) i = byt s (a + i) := by
  unfold byt
  rw [ext_list, List.getD, List.getD, List.getElem?_drop, List.getElem?_take, if_pos h]
theorem big_ext (s : ByteArray) (a b k n : Nat) (h1 : 1 ≤ n) (h8 : n ≤ 8) (h : a + k + n ≤ b) (hb : b ≤ s.size) : bigR (s.extract a b) k n = bigV (readV s (a + k)) n := by
  have hz := ext_size s a b hb
  rw [bigR_yes (okB_yes (by omega))]
  refine bigV_congr _ _ n fun i hi => ?_
  unfold readV
  rw [byt_ext s a b (k + i) (by omega), Nat.add_assoc]
theorem prefix_mark (s : ByteArray) : Lib.hasPrefix s.data.toList [72, 71, 70, 82] = decide (4 ≤ s.size ∧ s.extract 0 4 = markS) := by
  have := Lib.hasPrefix_raw s markS
  rw [show markS.data.toList = [72, 71, 70, 82] from rfl] at this
  rw [← this, beqS, show markS.size = 4 from rfl]
  by_cases h1 : 4 ≤ s.size <;> by_cases h2 : s.extract 0 4 = markS <;> simp [h1, h2]
set_option maxHeartbeats 400000 in
theorem head_none (b : Nat) (s : ByteArray) (w : World) (h : Rd w b s) (hn : ¬ Begun s) :
    Calls Tryz.prog 226 #[.pointer (some ⟨b, 0, none⟩)] w fun e w' => e = up 50 ∧ Only (itsR b) w w' := by
  have hc := h.cell
  have hp := prefix_mark s
  by_cases hm : 4 ≤ s.size ∧ s.extract 0 4 = markS
  · have h20 : ¬ 16 + 4 ≤ s.size := fun hh => hn ⟨by omega, hm.2⟩
    rw [decide_eq_true hm] at hp
    have H := Lib.hid h; clear h
    clear hm hn
    go_enter Tryz.func226, Tryz.ntmps226
    go_wp2_with (fail)
    refine (Tryz.strings_HasPrefix s _ _).mono ?_; rintro e w' ⟨rfl, rfl⟩
    rw [hp]
    go_wp2_with (fail)
    refine (must_yes 50 _).mono ?_; rintro e w' ⟨rfl, rfl⟩
    go_wp2_with (fail)
    refine (sealed_short b s 16 _ H.out h20).mono ?_; rintro e w' ⟨rfl, ho⟩
    go_wp2
    exact ⟨rfl, rfl, ho⟩
  · rw [decide_eq_false hm] at hp
    have H := Lib.hid h; clear h
    clear hm hn
    go_enter Tryz.func226, Tryz.ntmps226
    go_wp2_with (fail)
    refine (Tryz.strings_HasPrefix s _ _).mono ?_; rintro e w' ⟨rfl, rfl⟩
    rw [hp]
    go_wp2_with (fail)
    refine (must_no 50 _).mono ?_; rintro e w' ⟨rfl, rfl⟩
    go_wp2
    exact ⟨rfl, rfl, Only.refl _ _⟩
set_option maxHeartbeats 400000 in
theorem head_sum (b : Nat) (s : ByteArray) (w : World) (h : Rd w b s) (hn : Begun s) (hs : s.size ≤ maxLen) (ht : Tab w) (hb : b ≠ gTab) (hd : ¬ s.extract 16 20 = digV (s.extract 0 16)) :
    Calls Tryz.prog 226 #[.pointer (some ⟨b, 0, none⟩)] w fun e w' => e = up 51 ∧ Only (itsR b) w w' := by
  have hc := h.cell
  have hp := prefix_mark s
  have h20 := hn.1
  rw [decide_eq_true (show 4 ≤ s.size ∧ s.extract 0 4 = markS from ⟨by omega, hn.2⟩)] at hp
  have H := Lib.hid h; clear h
  have HD := Lib.hid hd; clear hd
  clear hn
  go_enter Tryz.func226, Tryz.ntmps226
  go_wp2_with (fail)
  refine (Tryz.strings_HasPrefix s _ _).mono ?_; rintro e w' ⟨rfl, rfl⟩
  rw [hp]
  go_wp2_with (fail)
  refine (must_yes 50 _).mono ?_; rintro e w' ⟨rfl, rfl⟩
  go_wp2_with (fail)
  refine (sealed_bad b s 16 _ H.out h20 hs ht hb HD.out).mono ?_; rintro e w' ⟨rfl, ho⟩
  go_wp2
  exact ⟨rfl, rfl, ho⟩
theorem RdOut.side {b : Nat} {w w1 w2 : World} {r : ByteArray} (h : RdOut b w r w1) {o : Obj} (k : Only (itsR w1.heap.size) (w1.alloc o) w2) : RdOut b w r w2 := by
  have hlt := Blk.lt h.1
  refine ⟨Blk.only (Blk.alloc h.1 o) k (fun e => by unfold itsR at e; omega), ((h.2.alloc o).trans k fun i hi => ?_)⟩
  unfold itsR at hi
  have := h.2.size
  exact .inr (by omega)
theorem cut2 (s : ByteArray) (a b c d : Nat) (hd : a + d ≤ b) : (s.extract a b).extract c d = s.extract (a + c) (a + d) := by
  rw [ByteArray.extract_extract]; congr 1; omega
set_option maxHeartbeats 400000 in
theorem head_ok (b : Nat) (s : ByteArray) (w : World) (h : Rd w b s) (hn : Begun s) (hs : s.size ≤ maxLen) (ht : Tab w) (hb : b ≠ gTab) (hd : s.extract 16 20 = digV (s.extract 0 16)) (hl : lenF s ≤ 65536) :
    Calls Tryz.prog 226 #[.pointer (some ⟨b, 0, none⟩)] w fun e w' => e = .returned (.tuple #[.int .u64 (numF s), .int .i64 (lenF s)]) ∧ RdOut b w (s.extract 20 s.size) w' := by
  have hc := h.cell
  have hp := prefix_mark s
  have h20 := hn.1
  rw [decide_eq_true (show 4 ≤ s.size ∧ s.extract 0 4 = markS from ⟨by omega, hn.2⟩)] at hp
  have z16 := ext_size s 0 16 (by omega)
  have e1 : (s.extract 0 16).extract 4 (s.extract 0 16).size = s.extract 4 16 := by rw [z16]; exact cut2 s 0 16 4 16 (by omega)
  have z12 := ext_size s 4 16 (by omega)
  have e2 : (s.extract 4 16).extract 8 (s.extract 4 16).size = s.extract 12 16 := by rw [z12]; exact cut2 s 4 16 8 12 (by omega)
  have z4 := ext_size s 12 16 (by omega)
  have n1 : bigR ((s.extract 4 16).extract 0 8) 0 8 = numF s := by
    rw [cut2 s 4 16 0 8 (by omega)]
    exact big_ext s 4 12 0 8 (by omega) (by omega) (by omega) (by omega)
  have n2 : bigR ((s.extract 12 16).extract 0 4) 0 4 = lenF s := by
    rw [cut2 s 12 16 0 4 (by omega)]
    exact big_ext s 12 16 0 4 (by omega) (by omega) (by omega) (by omega)
  have l1 := numF_lt s
  have E1 := Lib.hid e1; have E2 := Lib.hid e2; have N1 := Lib.hid n1; have N2 := Lib.hid n2; clear e1 e2 n1 n2
  have H := Lib.hid h; clear h
  have HD := Lib.hid hd; clear hd
  clear hn
  go_enter Tryz.func226, Tryz.ntmps226
  go_wp2_with (fail)
  refine (Tryz.strings_HasPrefix s _ _).mono ?_; rintro e w' ⟨rfl, rfl⟩
  rw [hp]
  go_wp2_with (fail)
  refine (must_yes 50 _).mono ?_; rintro e w' ⟨rfl, rfl⟩
  go_wp2_with (fail)
  refine (sealed_yes b s 16 _ H.out h20 hs ht hb HD.out).mono ?_; rintro e w1 ⟨rfl, ho⟩
  have P1 := Lib.hid ho; clear ho
  go_wp2_with (fail)
  have R1 : Hid (Rd (w1.alloc (Obj.cells #[Value.string (s.extract 0 16)] 313)) w1.heap.size (s.extract 0 16)) := Lib.hid (Blk.new w1 313 _)
  refine (take_yes _ _ 4 _ R1.out (by omega)).mono ?_; rintro e w' ⟨rfl, rfl⟩
  rw [E1.out]
  have R2 : Hid (Rd (w1.alloc (Obj.cells #[Value.string (s.extract 4 16)] 313)) w1.heap.size (s.extract 4 16)) := Lib.hid (Blk.new w1 313 _)
  go_wp2_with (fail)
  refine (number_yes _ _ 8 _ 18446744073709551615 _ R2.out (by omega) (by omega) (by omega) N1.out (by omega)).mono ?_; rintro e w2 ⟨rfl, ho⟩
  rw [E2.out] at ho
  have R3 := Lib.hid ho; clear ho
  go_wp2_with (fail)
  refine (number_yes _ _ 4 _ 65536 _ R3.out.1 (by omega) (by omega) (by omega) N2.out (by omega)).mono ?_; rintro e w3 ⟨rfl, ho⟩
  have R4 := Lib.hid (P1.out.side (R3.out.2.trans ho.2 fun _ hi => .inl hi)); clear ho
  go_wp2
  go_ret2
  exact ⟨rfl, R4.out⟩
set_option maxHeartbeats 400000 in
theorem head_long (b : Nat) (s : ByteArray) (w : World) (h : Rd w b s) (hn : Begun s) (hs : s.size ≤ maxLen) (ht : Tab w) (hb : b ≠ gTab) (hd : s.extract 16 20 = digV (s.extract 0 16)) (hl : ¬ lenF s ≤ 65536) :
    Calls Tryz.prog 226 #[.pointer (some ⟨b, 0, none⟩)] w fun e w' => e = up 50 ∧ Only (itsR b) w w' := by
  have hc := h.cell
  have hp := prefix_mark s
  have h20 := hn.1
  rw [decide_eq_true (show 4 ≤ s.size ∧ s.extract 0 4 = markS from ⟨by omega, hn.2⟩)] at hp
  have z16 := ext_size s 0 16 (by omega)
  have e1 : (s.extract 0 16).extract 4 (s.extract 0 16).size = s.extract 4 16 := by rw [z16]; exact cut2 s 0 16 4 16 (by omega)
  have z12 := ext_size s 4 16 (by omega)
  have e2 : (s.extract 4 16).extract 8 (s.extract 4 16).size = s.extract 12 16 := by rw [z12]; exact cut2 s 4 16 8 12 (by omega)
  have z4 := ext_size s 12 16 (by omega)
  have n1 : bigR ((s.extract 4 16).extract 0 8) 0 8 = numF s := by
    rw [cut2 s 4 16 0 8 (by omega)]
    exact big_ext s 4 12 0 8 (by omega) (by omega) (by omega) (by omega)
  have n2 : bigR ((s.extract 12 16).extract 0 4) 0 4 = lenF s := by
    rw [cut2 s 12 16 0 4 (by omega)]
    exact big_ext s 12 16 0 4 (by omega) (by omega) (by omega) (by omega)
  have l1 := numF_lt s
  have E1 := Lib.hid e1; have E2 := Lib.hid e2; have N1 := Lib.hid n1; have N2 := Lib.hid n2; clear e1 e2 n1 n2
  have H := Lib.hid h; clear h
  have HD := Lib.hid hd; clear hd
  clear hn
  go_enter Tryz.func226, Tryz.ntmps226
  go_wp2_with (fail)
  refine (Tryz.strings_HasPrefix s _ _).mono ?_; rintro e w' ⟨rfl, rfl⟩
  rw [hp]
  go_wp2_with (fail)
  refine (must_yes 50 _).mono ?_; rintro e w' ⟨rfl, rfl⟩
  go_wp2_with (fail)
  refine (sealed_yes b s 16 _ H.out h20 hs ht hb HD.out).mono ?_; rintro e w1 ⟨rfl, ho⟩
  have P1 := Lib.hid ho; clear ho
  go_wp2_with (fail)
  have R1 : Hid (Rd (w1.alloc (Obj.cells #[Value.string (s.extract 0 16)] 313)) w1.heap.size (s.extract 0 16)) := Lib.hid (Blk.new w1 313 _)
  refine (take_yes _ _ 4 _ R1.out (by omega)).mono ?_; rintro e w' ⟨rfl, rfl⟩
  rw [E1.out]
  have R2 : Hid (Rd (w1.alloc (Obj.cells #[Value.string (s.extract 4 16)] 313)) w1.heap.size (s.extract 4 16)) := Lib.hid (Blk.new w1 313 _)
  go_wp2_with (fail)
  refine (number_yes _ _ 8 _ 18446744073709551615 _ R2.out (by omega) (by omega) (by omega) N1.out (by omega)).mono ?_; rintro e w2 ⟨rfl, ho⟩
  rw [E2.out] at ho
  have R3 := Lib.hid ho; clear ho
  go_wp2_with (fail)
  refine (number_big _ _ 4 _ 65536 _ R3.out.1 (by omega) (by omega) (by omega) N2.out (by omega)).mono ?_; rintro e w3 ⟨rfl, ho⟩
  have R4 := Lib.hid (P1.out.side (R3.out.2.trans ho fun _ hi => .inl hi)); clear ho
  go_wp2
  exact ⟨rfl, rfl, R4.out.2⟩
open Go.RowKit
def secF (k : Nat) : Nat := (k + 535) / 512
def sizeF (s : ByteArray) : Nat := 512 * secF (lenF s)
def textF (s : ByteArray) : ByteArray := s.extract 20 (20 + lenF s)
def padF (s : ByteArray) : ByteArray := s.extract (24 + lenF s) (sizeF s)
theorem sec_room (k : Nat) : k + 24 ≤ 512 * secF k ∧ 512 * secF k < k + 536 := by unfold secF; omega
theorem sectors_in (n : Nat) (w : World) (h : n ≤ 65536) : Calls Tryz.prog 158 #[.int .i64 n] w fun e w' => e = .returned (.int .i64 (secF n : Nat)) ∧ w = w' := by
  have h1 : (n : Int) ≤ 65536 := by omega
  go_enter Tryz.func158, Tryz.ntmps158
  go_wp2
  go_ret
  exact ⟨ret_int (by unfold secF; omega), rfl⟩
theorem ret_three {k q : IntKind} {n a b : Int} {t : ByteArray} (h : a = b) : Ending.returned (.tuple #[.int k n, .string t, .int q a]) = .returned (.tuple #[.int k n, .string t, .int q b]) := by rw [h]
theorem clone_any (s : ByteArray) (w : World) (hs : s.size ≤ 281474976710656) : Calls Tryz.prog 83 #[.string s] w fun e w' => e = .returned (.string s) ∧ Below w.heap.size w w' := by
  go_enter Tryz.func83, Tryz.ntmps83
  go_wp2_with (fail)
  refine (Tryz.stringslite_Clone s _ hs).mono ?_; rintro e w' ⟨rfl, hb⟩
  go_wp2
  go_ret
  exact ⟨rfl, hb⟩
theorem cutTo (s : ByteArray) (a b c d x y : Nat) (hd : a + d ≤ b) (hx : a + c = x) (hy : a + d = y) : (s.extract a b).extract c d = s.extract x y := by
  subst hx; subst hy; exact cut2 s a b c d hd
/-- The head of a frame is right. -/
def HeadOk (s : ByteArray) : Prop := Begun s ∧ s.extract 16 20 = digV (s.extract 0 16) ∧ lenF s ≤ 65536
set_option maxHeartbeats 400000 in
theorem frame_short (b : Nat) (s : ByteArray) (w : World) (h : Rd w b s) (hn : HeadOk s) (hs : s.size ≤ maxLen) (ht : Tab w) (hb : b ≠ gTab) (hz : ¬ sizeF s ≤ s.size) :
    Calls Tryz.prog 214 #[.pointer (some ⟨b, 0, none⟩)] w fun e w' => e = up 50 ∧ Only (itsR b) w w' := by
  have h20 := hn.1.1
  have hr := sec_room (lenF s)
  have hL := hn.2.2
  have hq : secF (lenF s) ≤ 129 := by unfold secF; omega
  have z20 := ext_size s 20 s.size (Nat.le_refl _)
  have N := Lib.hid hn; clear hn
  obtain ⟨p, hp⟩ : ∃ p : Nat, (↑(secF (lenF s)) * 512 - 24 - ↑(lenF s) : Int) = p := ⟨512 * secF (lenF s) - 24 - lenF s, by omega⟩
  have hsz : sizeF s = lenF s + 24 + p := by unfold sizeF; omega
  have HP := Lib.hid hp
  have hadd : (↑(lenF s) + 4 + ↑p : Int) = ((lenF s + 4 + p : Nat) : Int) := by omega
  have HA := Lib.hid hadd; clear hadd
  go_enter Tryz.func214, Tryz.ntmps214
  go_wp2_with (fail)
  refine (head_ok b s _ h N.out.1 hs ht hb N.out.2.1 N.out.2.2).mono ?_; rintro e w1 ⟨rfl, ho⟩
  have P1 := Lib.hid ho; clear ho
  go_wp2_with (fail)
  refine (sectors_in (lenF s) _ hL).mono ?_; rintro e w' ⟨rfl, rfl⟩
  clear hp
  go_wp2_with (fail)
  rw [HP.out, HA.out]
  refine (need_no b (s.extract 20 s.size) _ _ P1.out.1 (by omega)).mono ?_; rintro e w' ⟨rfl, rfl⟩
  go_wp2
  exact ⟨rfl, rfl, P1.out.2⟩
set_option maxHeartbeats 400000 in
theorem frame_sum (b : Nat) (s : ByteArray) (w : World) (h : Rd w b s) (hn : HeadOk s) (hs : s.size ≤ maxLen) (ht : Tab w) (hb : b ≠ gTab) (hz : sizeF s ≤ s.size) (hd : ¬ s.extract (20 + lenF s) (24 + lenF s) = digV (textF s)) :
    Calls Tryz.prog 214 #[.pointer (some ⟨b, 0, none⟩)] w fun e w' => e = up 51 ∧ Only (itsR b) w w' := by
  have h20 := hn.1.1
  have hr := sec_room (lenF s)
  have hL := hn.2.2
  have hq : secF (lenF s) ≤ 129 := by unfold secF; omega
  have z20 := ext_size s 20 s.size (Nat.le_refl _)
  have N := Lib.hid hn; clear hn
  obtain ⟨p, hp⟩ : ∃ p : Nat, (↑(secF (lenF s)) * 512 - 24 - ↑(lenF s) : Int) = p := ⟨512 * secF (lenF s) - 24 - lenF s, by omega⟩
  have hsz : sizeF s = lenF s + 24 + p := by unfold sizeF; omega
  have HP := Lib.hid hp
  have hadd : (↑(lenF s) + 4 + ↑p : Int) = ((lenF s + 4 + p : Nat) : Int) := by omega
  have HA := Lib.hid hadd; clear hadd
  have e1 : (s.extract 20 s.size).extract 0 (lenF s) = textF s := cutTo s 20 s.size 0 (lenF s) _ _ (by omega) rfl rfl
  have e2 : (s.extract 20 s.size).extract (lenF s) (lenF s + 4) = s.extract (20 + lenF s) (24 + lenF s) := cutTo s 20 s.size _ _ _ _ (by omega) rfl (by omega)
  have e3 : (s.extract 20 s.size).extract (lenF s + 4) (s.extract 20 s.size).size = s.extract (24 + lenF s) s.size := by rw [z20]; exact cutTo s 20 s.size _ _ _ _ (by omega) (by omega) (by omega)
  have e4 : (s.extract (24 + lenF s) s.size).extract 0 p = padF s := by unfold padF; exact cutTo s (24 + lenF s) s.size 0 p _ _ (by omega) rfl (by omega)
  have z4 := ext_size s (24 + lenF s) s.size (Nat.le_refl _)
  have E1 := Lib.hid e1; have E2 := Lib.hid e2; have E3 := Lib.hid e3; have E4 := Lib.hid e4; clear e1 e2 e3 e4
  have HD := Lib.hid hd; clear hd
  go_enter Tryz.func214, Tryz.ntmps214
  go_wp2_with (fail)
  refine (head_ok b s _ h N.out.1 hs ht hb N.out.2.1 N.out.2.2).mono ?_; rintro e w1 ⟨rfl, ho⟩
  have P1 := Lib.hid ho; clear ho
  go_wp2_with (fail)
  refine (sectors_in (lenF s) _ hL).mono ?_; rintro e w' ⟨rfl, rfl⟩
  clear hp
  go_wp2_with (fail)
  rw [HP.out, HA.out]
  refine (need_yes b (s.extract 20 s.size) _ _ P1.out.1 (by omega)).mono ?_; rintro e w' ⟨rfl, rfl⟩
  go_wp2_with (fail)
  refine (sealed_bad b (s.extract 20 s.size) (lenF s) _ P1.out.1 (by omega) (by omega) (ht.only P1.out.2 hb) hb (by rw [E1.out, E2.out]; exact HD.out)).mono ?_; rintro e w2 ⟨rfl, ho⟩
  have P2 := Lib.hid (P1.out.2.trans ho fun _ hi => .inl hi); clear ho
  go_wp2
  exact ⟨rfl, rfl, P2.out⟩
set_option maxHeartbeats 400000 in
theorem frame_pad (b : Nat) (s : ByteArray) (w : World) (h : Rd w b s) (hn : HeadOk s) (hs : s.size ≤ maxLen) (ht : Tab w) (hb : b ≠ gTab) (hz : sizeF s ≤ s.size) (hd : s.extract (20 + lenF s) (24 + lenF s) = digV (textF s)) (hq0 : allZ (padF s) = false) :
    Calls Tryz.prog 214 #[.pointer (some ⟨b, 0, none⟩)] w fun e w' => e = up 50 ∧ Only (itsR b) w w' := by
  have h20 := hn.1.1
  have hr := sec_room (lenF s)
  have hL := hn.2.2
  have hq : secF (lenF s) ≤ 129 := by unfold secF; omega
  have z20 := ext_size s 20 s.size (Nat.le_refl _)
  have N := Lib.hid hn; clear hn
  obtain ⟨p, hp⟩ : ∃ p : Nat, (↑(secF (lenF s)) * 512 - 24 - ↑(lenF s) : Int) = p := ⟨512 * secF (lenF s) - 24 - lenF s, by omega⟩
  have hsz : sizeF s = lenF s + 24 + p := by unfold sizeF; omega
  have HP := Lib.hid hp
  have hadd : (↑(lenF s) + 4 + ↑p : Int) = ((lenF s + 4 + p : Nat) : Int) := by omega
  have HA := Lib.hid hadd; clear hadd
  have e1 : (s.extract 20 s.size).extract 0 (lenF s) = textF s := cutTo s 20 s.size 0 (lenF s) _ _ (by omega) rfl rfl
  have e2 : (s.extract 20 s.size).extract (lenF s) (lenF s + 4) = s.extract (20 + lenF s) (24 + lenF s) := cutTo s 20 s.size _ _ _ _ (by omega) rfl (by omega)
  have e3 : (s.extract 20 s.size).extract (lenF s + 4) (s.extract 20 s.size).size = s.extract (24 + lenF s) s.size := by rw [z20]; exact cutTo s 20 s.size _ _ _ _ (by omega) (by omega) (by omega)
  have e4 : (s.extract (24 + lenF s) s.size).extract 0 p = padF s := by unfold padF; exact cutTo s (24 + lenF s) s.size 0 p _ _ (by omega) rfl (by omega)
  have z4 := ext_size s (24 + lenF s) s.size (Nat.le_refl _)
  have E1 := Lib.hid e1; have E2 := Lib.hid e2; have E3 := Lib.hid e3; have E4 := Lib.hid e4; clear e1 e2 e3 e4
  have HD := Lib.hid hd; clear hd
  go_enter Tryz.func214, Tryz.ntmps214
  go_wp2_with (fail)
  refine (head_ok b s _ h N.out.1 hs ht hb N.out.2.1 N.out.2.2).mono ?_; rintro e w1 ⟨rfl, ho⟩
  have P1 := Lib.hid ho; clear ho
  go_wp2_with (fail)
  refine (sectors_in (lenF s) _ hL).mono ?_; rintro e w' ⟨rfl, rfl⟩
  clear hp
  go_wp2_with (fail)
  rw [HP.out, HA.out]
  refine (need_yes b (s.extract 20 s.size) _ _ P1.out.1 (by omega)).mono ?_; rintro e w' ⟨rfl, rfl⟩
  go_wp2_with (fail)
  refine (sealed_yes b (s.extract 20 s.size) (lenF s) _ P1.out.1 (by omega) (by omega) (ht.only P1.out.2 hb) hb (by rw [E1.out, E2.out]; exact HD.out)).mono ?_; rintro e w2 ⟨rfl, ho⟩
  rw [E3.out] at ho
  rw [E1.out]
  have P2 := Lib.hid (P1.out.trans ho); clear ho
  go_wp2_with (fail)
  refine (zeros_bad b (s.extract (24 + lenF s) s.size) p _ P2.out.1 (by omega) (by omega) (by rw [E4.out]; exact hq0)).mono ?_; rintro e w3 ⟨rfl, ho⟩
  have P3 := Lib.hid (P2.out.2.trans ho fun _ hi => .inl hi); clear ho
  go_wp2
  exact ⟨rfl, rfl, P3.out⟩
set_option maxHeartbeats 400000 in
theorem frame_ok (b : Nat) (s : ByteArray) (w : World) (h : Rd w b s) (hn : HeadOk s) (hs : s.size ≤ maxLen) (ht : Tab w) (hb : b ≠ gTab) (hz : sizeF s ≤ s.size) (hd : s.extract (20 + lenF s) (24 + lenF s) = digV (textF s)) (hq0 : allZ (padF s) = true) :
    Calls Tryz.prog 214 #[.pointer (some ⟨b, 0, none⟩)] w fun e w' => e = .returned (.tuple #[.int .u64 (numF s), .string (textF s), .int .i64 (sizeF s)]) ∧ Only (itsR b) w w' := by
  have h20 := hn.1.1
  have hr := sec_room (lenF s)
  have hL := hn.2.2
  have hq : secF (lenF s) ≤ 129 := by unfold secF; omega
  have z20 := ext_size s 20 s.size (Nat.le_refl _)
  have N := Lib.hid hn; clear hn
  obtain ⟨p, hp⟩ : ∃ p : Nat, (↑(secF (lenF s)) * 512 - 24 - ↑(lenF s) : Int) = p := ⟨512 * secF (lenF s) - 24 - lenF s, by omega⟩
  have hsz : sizeF s = lenF s + 24 + p := by unfold sizeF; omega
  have HP := Lib.hid hp
  have hadd : (↑(lenF s) + 4 + ↑p : Int) = ((lenF s + 4 + p : Nat) : Int) := by omega
  have HA := Lib.hid hadd; clear hadd
  have e1 : (s.extract 20 s.size).extract 0 (lenF s) = textF s := cutTo s 20 s.size 0 (lenF s) _ _ (by omega) rfl rfl
  have e2 : (s.extract 20 s.size).extract (lenF s) (lenF s + 4) = s.extract (20 + lenF s) (24 + lenF s) := cutTo s 20 s.size _ _ _ _ (by omega) rfl (by omega)
  have e3 : (s.extract 20 s.size).extract (lenF s + 4) (s.extract 20 s.size).size = s.extract (24 + lenF s) s.size := by rw [z20]; exact cutTo s 20 s.size _ _ _ _ (by omega) (by omega) (by omega)
  have e4 : (s.extract (24 + lenF s) s.size).extract 0 p = padF s := by unfold padF; exact cutTo s (24 + lenF s) s.size 0 p _ _ (by omega) rfl (by omega)
  have z4 := ext_size s (24 + lenF s) s.size (Nat.le_refl _)
  have E1 := Lib.hid e1; have E2 := Lib.hid e2; have E3 := Lib.hid e3; have E4 := Lib.hid e4; clear e1 e2 e3 e4
  have HD := Lib.hid hd; clear hd
  have zt : (textF s).size = lenF s := by unfold textF; rw [ext_size s _ _ (by omega)]; omega
  go_enter Tryz.func214, Tryz.ntmps214
  go_wp2_with (fail)
  refine (head_ok b s _ h N.out.1 hs ht hb N.out.2.1 N.out.2.2).mono ?_; rintro e w1 ⟨rfl, ho⟩
  have P1 := Lib.hid ho; clear ho
  go_wp2_with (fail)
  refine (sectors_in (lenF s) _ hL).mono ?_; rintro e w' ⟨rfl, rfl⟩
  clear hp
  go_wp2_with (fail)
  rw [HP.out, HA.out]
  refine (need_yes b (s.extract 20 s.size) _ _ P1.out.1 (by omega)).mono ?_; rintro e w' ⟨rfl, rfl⟩
  go_wp2_with (fail)
  refine (sealed_yes b (s.extract 20 s.size) (lenF s) _ P1.out.1 (by omega) (by omega) (ht.only P1.out.2 hb) hb (by rw [E1.out, E2.out]; exact HD.out)).mono ?_; rintro e w2 ⟨rfl, ho⟩
  rw [E3.out] at ho
  rw [E1.out]
  have P2 := Lib.hid (P1.out.trans ho); clear ho
  go_wp2_with (fail)
  refine (zeros_yes b (s.extract (24 + lenF s) s.size) p _ P2.out.1 (by omega) (by omega) (by rw [E4.out]; exact hq0)).mono ?_; rintro e w3 ⟨rfl, ho⟩
  have P3 := Lib.hid (P2.out.trans ho); clear ho
  go_wp2_with (fail)
  refine (clone_any (textF s) _ (by omega)).mono ?_; rintro e w4 ⟨rfl, hb4⟩
  have P4 := Lib.hid (P3.out.2.below hb4); clear hb4
  go_wp2
  go_ret3
  exact ⟨ret_three (by unfold sizeF; omega), P4.out⟩
theorem frame_up (b k : Nat) (w : World) (h : Calls Tryz.prog 226 #[.pointer (some ⟨b, 0, none⟩)] w fun e w' => e = up k ∧ Only (itsR b) w w') :
    Calls Tryz.prog 214 #[.pointer (some ⟨b, 0, none⟩)] w fun e w' => e = up k ∧ Only (itsR b) w w' := by
  go_enter Tryz.func214, Tryz.ntmps214
  go_wp2_with (fail)
  refine h.mono ?_; rintro e w1 ⟨rfl, ho⟩
  have P1 := Lib.hid ho; clear ho
  go_wp2
  exact ⟨rfl, rfl, P1.out⟩
instance (s : ByteArray) : Decidable (Begun s) := by unfold Begun; infer_instance
/-- The error with which a reading of this text ends (0: it is a frame). -/
def getE (s : ByteArray) : Nat :=
  if ¬ Begun s then 50 else if ¬ s.extract 16 20 = digV (s.extract 0 16) then 51 else if ¬ lenF s ≤ 65536 then 50 else if ¬ sizeF s ≤ s.size then 50
  else if ¬ s.extract (20 + lenF s) (24 + lenF s) = digV (textF s) then 51 else if allZ (padF s) = false then 50 else 0
def FrameOut (s : ByteArray) (e : Ending) : Prop :=
  (getE s = 0 ∧ e = .returned (.tuple #[.int .u64 (numF s), .string (textF s), .int .i64 (sizeF s)])) ∨ (0 < getE s ∧ e = up (getE s))
theorem frame_any (b : Nat) (s : ByteArray) (w : World) (h : Rd w b s) (hs : s.size ≤ maxLen) (ht : Tab w) (hb : b ≠ gTab) :
    Calls Tryz.prog 214 #[.pointer (some ⟨b, 0, none⟩)] w fun e w' => FrameOut s e ∧ Only (itsR b) w w' := by
  have up_of : ∀ k, 0 < k → getE s = k → (Calls Tryz.prog 214 #[.pointer (some ⟨b, 0, none⟩)] w fun e w' => e = up k ∧ Only (itsR b) w w') →
      Calls Tryz.prog 214 #[.pointer (some ⟨b, 0, none⟩)] w fun e w' => FrameOut s e ∧ Only (itsR b) w w' :=
    fun k hk hg c => c.mono fun e w' ⟨he, ho⟩ => ⟨.inr ⟨by omega, by rw [hg]; exact he⟩, ho⟩
  by_cases h1 : Begun s
  · by_cases h2 : s.extract 16 20 = digV (s.extract 0 16)
    · by_cases h3 : lenF s ≤ 65536
      · have hn : HeadOk s := ⟨h1, h2, h3⟩
        by_cases h4 : sizeF s ≤ s.size
        · by_cases h5 : s.extract (20 + lenF s) (24 + lenF s) = digV (textF s)
          · cases h6 : allZ (padF s) with
            | false => exact up_of 50 (by omega) (by simp [getE, h1, h2, h3, h4, h5, h6]) (frame_pad b s w h hn hs ht hb h4 h5 h6)
            | true => exact (frame_ok b s w h hn hs ht hb h4 h5 h6).mono fun e w' ⟨he, ho⟩ => ⟨.inl ⟨by simp [getE, h1, h2, h3, h4, h5, h6], he⟩, ho⟩
          · exact up_of 51 (by omega) (by simp [getE, h1, h2, h3, h4, h5]) (frame_sum b s w h hn hs ht hb h4 h5)
        · exact up_of 50 (by omega) (by simp [getE, h1, h2, h3, h4]) (frame_short b s w h hn hs ht hb h4)
      · exact up_of 50 (by omega) (by simp [getE, h1, h2, h3]) (frame_up b 50 w (head_long b s w h h1 hs ht hb h2 h3))
    · exact up_of 51 (by omega) (by simp [getE, h1, h2]) (frame_up b 51 w (head_sum b s w h h1 hs ht hb h2))
  · exact up_of 50 (by omega) (by simp [getE, h1]) (frame_up b 50 w (head_none b s w h h1))
open Go.RowKit
set_option maxRecDepth 100000 in
theorem caught (c k : Nat) (older : List PanicEntry) (w : World) (hc : Blk w c 30 #[.int .i64 0]) :
    CallsD Tryz.prog 225 #[.pointer (some ⟨c, 0, none⟩)] (.panicking ({ v := .iface 30 (.int .i64 k), recovered := false } :: older)) w fun e u' w' =>
      e = .returned (.tuple #[]) ∧ u' = .panicking ({ v := .iface 30 (.int .i64 k), recovered := true } :: older) ∧ w' = w.setCell ⟨c, 0, none⟩ (.int .i64 k) := by
  have h0 : w.cell? ⟨c, 0, none⟩ = some (.int .i64 0) := hc.cell 0
  have f0 := hc.free 0
  have hta : Sem.run Tryz.prog (Instr.typeAssert (Value.iface 30 (Value.int IntKind.i64 (k : Int))) 20 30 true) w = .ok (.tuple #[.int .i64 k, .bool true]) w := by kernel_rfl
  refine callsD_of_wpS Tryz.func225 rfl fun c₀ cs hu => ?_
  apply wpS_seq
  apply wpS_region
  simp [wpOpsS, go_sem, recoverD, hu, Tryz.ntmps225, Exit.thenS]
  refine wpS_of_wp ?_
  change Code.wp Tryz.prog _ _ ⟨#[.pointer (some ⟨c, 0, none⟩), undef, undef, undef, .iface 30 (.int .i64 k), undef, undef, undef, undef, undef, undef], []⟩ w
  clear hc
  go_wp2
  simp [bodyPostS, results, Tryz.results225]
theorem idle (c : Nat) (w : World) :
    CallsD Tryz.prog 225 #[.pointer (some ⟨c, 0, none⟩)] .returning w fun e u' w' => e = .returned (.tuple #[]) ∧ u' = .returning ∧ w' = w := by
  refine callsD_of_wpS Tryz.func225 rfl fun c₀ cs hu => ?_
  apply wpS_seq
  apply wpS_region
  simp [wpOpsS, go_sem, recoverD, hu, Tryz.ntmps225, Exit.thenS]
  refine wpS_of_wp ?_
  change Code.wp Tryz.prog _ _ ⟨#[.pointer (some ⟨c, 0, none⟩), undef, undef, undef, .nilIface, undef, undef, undef, undef, undef, undef], []⟩ w
  go_wp2
  cases c₀
  simp_all [bodyPostS, results, Tryz.results225]
theorem set_same {w : World} {b : Nat} {t : TypeId} {v : Value} (h : Blk w b t #[v]) : w.setCell ⟨b, 0, none⟩ v = w := by
  have e : (w.setCell ⟨b, 0, none⟩ v).heap = w.heap := by
    apply Array.ext_getElem?
    intro k
    by_cases hk : k = b
    · subst hk
      exact (Blk.put h 0 v).trans h.symm
    · exact Below.heap_setCell w ⟨b, 0, none⟩ v k hk
  have e2 : w.setCell ⟨b, 0, none⟩ v = { w with heap := (w.setCell ⟨b, 0, none⟩ v).heap } := rfl
  rw [e2, e]
theorem catch_get_ok (a b c d : Value) (w : World) (Q : World → Prop) (hk : ∀ w', Q w' → Blk w' w.heap.size 30 #[.int .i64 0])
    (h : Calls Tryz.prog 213 #[a, b, c, d] (w.alloc (.cells #[.int .i64 0] 30)) fun e w' => e = .returned (.tuple #[]) ∧ Q w') :
    Calls Tryz.prog 212 #[.func (.func 213) #[] #[a, b, c, d]] w fun e w' => e = .returned (.int .i64 0) ∧ Q w' := by
  have hmf : ∀ (fn : Fn) (first cap : Array Value) (w : World), (Instr.makeFunc fn first cap).run Tryz.prog w = .ok (.func fn first cap) w := fun _ _ _ _ => rfl
  go_enter_defers Tryz.func212, Tryz.ntmps212
  go_wp2_with (fail)
  refine h.mono ?_; rintro e w1 ⟨rfl, hq⟩
  have hb := hk w1 hq
  have h0 : w1.cell? ⟨w.heap.size, 0, none⟩ = some (.int .i64 0) := hb.cell 0
  have f0 := hb.free 0
  have e1 : w1.setCell ⟨w.heap.size, 0, none⟩ (.int .i64 0) = w1 := set_same hb
  have Q1 := Lib.hid hq; clear hq hb
  go_wp2
  refine leaves_cons (f := 225) (args := #[.pointer (some ⟨w.heap.size, 0, none⟩)]) (by simp) (by simp [go_sem]) ?_
  refine (idle w.heap.size _).mono ?_
  rintro e u' w'' ⟨rfl, rfl, rfl⟩
  simp [Leaves, settle, results, Tryz.results212, go_sem]
  rw [h0]
  exact ⟨_, rfl, rfl, Q1.out⟩
theorem catch_get_up (a b c d : Value) (w : World) (k : Nat) (Q : World → Prop) (hk : ∀ w', Q w' → Blk w' w.heap.size 30 #[.int .i64 0])
    (h : Calls Tryz.prog 213 #[a, b, c, d] (w.alloc (.cells #[.int .i64 0] 30)) fun e w' => e = up k ∧ Q w') :
    Calls Tryz.prog 212 #[.func (.func 213) #[] #[a, b, c, d]] w fun e w' => e = .returned (.int .i64 k) ∧ ∃ w2, Q w2 ∧ w' = w2.setCell ⟨w.heap.size, 0, none⟩ (.int .i64 k) := by
  have hmf : ∀ (fn : Fn) (first cap : Array Value) (w : World), (Instr.makeFunc fn first cap).run Tryz.prog w = .ok (.func fn first cap) w := fun _ _ _ _ => rfl
  go_enter_defers Tryz.func212, Tryz.ntmps212
  go_wp2_with (fail)
  refine h.mono ?_; rintro e w1 ⟨rfl, hq⟩
  have hb := hk w1 hq
  have h0 : w1.cell? ⟨w.heap.size, 0, none⟩ = some (.int .i64 0) := hb.cell 0
  have Q1 := Lib.hid hq; clear hq
  have B1 := Lib.hid hb; clear hb
  go_wp2
  refine leaves_cons (f := 225) (args := #[.pointer (some ⟨w.heap.size, 0, none⟩)]) (by simp) (by simp [go_sem]) ?_
  refine (caught w.heap.size k [] _ B1.out).mono ?_
  rintro e u' w'' ⟨rfl, rfl, rfl⟩
  simp [Leaves, settle, results, Tryz.results212, go_sem, h0]
  exact ⟨_, Q1.out, rfl⟩
end Go.Proofs.YtglfjlbhjaemgaaGreatDoor
