/- A whole frame, as the program's reader has it. -/
import Derived.Test.YtgdaihembmcamaaGreatDoorFrameHead
namespace Go.Proofs.YtgdaihembmcamaaGreatDoor
open Go.RowKit
def secF (k : Nat) : Nat := (k + 535) / 512
def secI (n : Int) : Int := if 0 ≤ n ∧ n ≤ 65536 then ((secF n.toNat : Nat) : Int) else 0
theorem secI_nat (k : Nat) (h : k ≤ 65536) : secI k = (secF k : Nat) := by unfold secI; rw [if_pos (by omega)]; rfl
def sizeF (s : ByteArray) : Nat := 512 * secF (lenF s)
def textF (s : ByteArray) : ByteArray := s.extract 20 (20 + lenF s)
def padF (s : ByteArray) : ByteArray := s.extract (24 + lenF s) (sizeF s)
theorem sec_room (k : Nat) : k + 24 ≤ 512 * secF k ∧ 512 * secF k < k + 536 := by unfold secF; omega
theorem sectors_in (n : Nat) (w : World) (h : n ≤ 65536) : Calls Tryz.prog 53 #[.int .i64 n] w fun e w' => e = .returned (.int .i64 (secF n : Nat)) ∧ w = w' := by
  have h1 : (n : Int) ≤ 65536 := by omega
  go_enter Tryz.func53, Tryz.ntmps53
  go_wp2
  go_ret
  exact ⟨ret_int (by unfold secF; omega), rfl⟩
theorem sectors_out (n : Int) (w : World) (h : ¬ (0 ≤ n ∧ n ≤ 65536)) : Calls Tryz.prog 53 #[.int .i64 n] w fun e w' => e = .returned (.int .i64 0) ∧ w = w' := by
  by_cases h0 : 0 ≤ n
  · have h1 : ¬ n ≤ 65536 := by omega
    clear h
    go_enter Tryz.func53, Tryz.ntmps53
    go_wp2
    go_ret
    exact ⟨rfl, rfl⟩
  · clear h
    go_enter Tryz.func53, Tryz.ntmps53
    go_wp2
    go_ret
    exact ⟨rfl, rfl⟩
theorem sectors_any (n : Int) (w : World) : Calls Tryz.prog 53 #[.int .i64 n] w fun e w' => e = .returned (.int .i64 (secI n)) ∧ w = w' := by
  by_cases h : 0 ≤ n ∧ n ≤ 65536
  · obtain ⟨k, rfl⟩ := Int.eq_ofNat_of_zero_le h.1
    have h' : k ≤ 65536 := by omega
    rw [show secI (k : Int) = (secF k : Nat) from secI_nat k h']
    exact sectors_in k w h'
  · unfold secI
    rw [if_neg h]
    exact sectors_out n w h
theorem ret_three {k q : IntKind} {n a b : Int} {t : ByteArray} (h : a = b) : Ending.returned (.tuple #[.int k n, .string t, .int q a]) = .returned (.tuple #[.int k n, .string t, .int q b]) := by rw [h]
theorem clone_any (s : ByteArray) (w : World) (hs : s.size ≤ 281474976710656) : Calls Tryz.prog 44 #[.string s] w fun e w' => e = .returned (.string s) ∧ Below w.heap.size w w' := by
  go_enter Tryz.func44, Tryz.ntmps44
  go_wp2_with (fail)
  refine (Tryz.stringslite_Clone s _ hs).mono ?_; rintro e w' ⟨rfl, hb⟩
  go_wp2
  go_ret
  exact ⟨rfl, hb⟩
theorem cutTo (s : ByteArray) (a b c d x y : Nat) (hd : a + d ≤ b) (hx : a + c = x) (hy : a + d = y) : (s.extract a b).extract c d = s.extract x y := by
  subst hx; subst hy; exact cut2 s a b c d hd
/-- The head of a frame is right. -/
def HeadOk (s : ByteArray) : Prop := Begun s ∧ s.extract 16 20 = digV (s.extract 0 16) ∧ lenF s ≤ 65536
set_option maxHeartbeats 400000 in
theorem frame_short (b : Nat) (s : ByteArray) (w : World) (h : Rd w b s) (hn : HeadOk s) (hs : s.size ≤ maxLen) (ht : Tab w) (hb : b ≠ gTab) (hz : ¬ sizeF s ≤ s.size) :
    Calls Tryz.prog 98 #[.pointer (some ⟨b, 0, none⟩)] w fun e w' => e = up 50 ∧ Only (itsR b) w w' := by
  have h20 := hn.1.1
  have hr := sec_room (lenF s)
  have hL := hn.2.2
  have hq : secF (lenF s) ≤ 129 := by unfold secF; omega
  have z20 := ext_size s 20 s.size (Nat.le_refl _)
  have N := Lib.hid hn; clear hn
  obtain ⟨p, hp⟩ : ∃ p : Nat, (↑(secF (lenF s)) * 512 - 24 - ↑(lenF s) : Int) = p := ⟨512 * secF (lenF s) - 24 - lenF s, by omega⟩
  have hsz : sizeF s = lenF s + 24 + p := by unfold sizeF; omega
  have HP := Lib.hid hp
  have hadd : (↑(lenF s) + 4 + ↑p : Int) = ((lenF s + 4 + p : Nat) : Int) := by omega
  have HA := Lib.hid hadd; clear hadd
  go_enter Tryz.func98, Tryz.ntmps98
  go_wp2_with (fail)
  refine (head_ok b s _ h N.out.1 hs ht hb N.out.2.1 N.out.2.2).mono ?_; rintro e w1 ⟨rfl, ho⟩
  have P1 := Lib.hid ho; clear ho
  go_wp2_with (fail)
  refine (sectors_in (lenF s) _ hL).mono ?_; rintro e w' ⟨rfl, rfl⟩
  clear hp
  go_wp2_with (fail)
  rw [HP.out, HA.out]
  refine (need_no b (s.extract 20 s.size) _ _ P1.out.1 (by omega)).mono ?_; rintro e w' ⟨rfl, rfl⟩
  go_wp2
  exact ⟨rfl, rfl, P1.out.2⟩
set_option maxHeartbeats 400000 in
theorem frame_sum (b : Nat) (s : ByteArray) (w : World) (h : Rd w b s) (hn : HeadOk s) (hs : s.size ≤ maxLen) (ht : Tab w) (hb : b ≠ gTab) (hz : sizeF s ≤ s.size) (hd : ¬ s.extract (20 + lenF s) (24 + lenF s) = digV (textF s)) :
    Calls Tryz.prog 98 #[.pointer (some ⟨b, 0, none⟩)] w fun e w' => e = up 51 ∧ Only (itsR b) w w' := by
  have h20 := hn.1.1
  have hr := sec_room (lenF s)
  have hL := hn.2.2
  have hq : secF (lenF s) ≤ 129 := by unfold secF; omega
  have z20 := ext_size s 20 s.size (Nat.le_refl _)
  have N := Lib.hid hn; clear hn
  obtain ⟨p, hp⟩ : ∃ p : Nat, (↑(secF (lenF s)) * 512 - 24 - ↑(lenF s) : Int) = p := ⟨512 * secF (lenF s) - 24 - lenF s, by omega⟩
  have hsz : sizeF s = lenF s + 24 + p := by unfold sizeF; omega
  have HP := Lib.hid hp
  have hadd : (↑(lenF s) + 4 + ↑p : Int) = ((lenF s + 4 + p : Nat) : Int) := by omega
  have HA := Lib.hid hadd; clear hadd
  have e1 : (s.extract 20 s.size).extract 0 (lenF s) = textF s := cutTo s 20 s.size 0 (lenF s) _ _ (by omega) rfl rfl
  have e2 : (s.extract 20 s.size).extract (lenF s) (lenF s + 4) = s.extract (20 + lenF s) (24 + lenF s) := cutTo s 20 s.size _ _ _ _ (by omega) rfl (by omega)
  have e3 : (s.extract 20 s.size).extract (lenF s + 4) (s.extract 20 s.size).size = s.extract (24 + lenF s) s.size := by rw [z20]; exact cutTo s 20 s.size _ _ _ _ (by omega) (by omega) (by omega)
  have e4 : (s.extract (24 + lenF s) s.size).extract 0 p = padF s := by unfold padF; exact cutTo s (24 + lenF s) s.size 0 p _ _ (by omega) rfl (by omega)
  have z4 := ext_size s (24 + lenF s) s.size (Nat.le_refl _)
  have E1 := Lib.hid e1; have E2 := Lib.hid e2; have E3 := Lib.hid e3; have E4 := Lib.hid e4; clear e1 e2 e3 e4
  have HD := Lib.hid hd; clear hd
  go_enter Tryz.func98, Tryz.ntmps98
  go_wp2_with (fail)
  refine (head_ok b s _ h N.out.1 hs ht hb N.out.2.1 N.out.2.2).mono ?_; rintro e w1 ⟨rfl, ho⟩
  have P1 := Lib.hid ho; clear ho
  go_wp2_with (fail)
  refine (sectors_in (lenF s) _ hL).mono ?_; rintro e w' ⟨rfl, rfl⟩
  clear hp
  go_wp2_with (fail)
  rw [HP.out, HA.out]
  refine (need_yes b (s.extract 20 s.size) _ _ P1.out.1 (by omega)).mono ?_; rintro e w' ⟨rfl, rfl⟩
  go_wp2_with (fail)
  refine (sealed_bad b (s.extract 20 s.size) (lenF s) _ P1.out.1 (by omega) (by omega) (ht.only P1.out.2 hb) hb (by rw [E1.out, E2.out]; exact HD.out)).mono ?_; rintro e w2 ⟨rfl, ho⟩
  have P2 := Lib.hid (P1.out.2.trans ho fun _ hi => .inl hi); clear ho
  go_wp2
  exact ⟨rfl, rfl, P2.out⟩
set_option maxHeartbeats 400000 in
theorem frame_pad (b : Nat) (s : ByteArray) (w : World) (h : Rd w b s) (hn : HeadOk s) (hs : s.size ≤ maxLen) (ht : Tab w) (hb : b ≠ gTab) (hz : sizeF s ≤ s.size) (hd : s.extract (20 + lenF s) (24 + lenF s) = digV (textF s)) (hq0 : allZ (padF s) = false) :
    Calls Tryz.prog 98 #[.pointer (some ⟨b, 0, none⟩)] w fun e w' => e = up 50 ∧ Only (itsR b) w w' := by
  have h20 := hn.1.1
  have hr := sec_room (lenF s)
  have hL := hn.2.2
  have hq : secF (lenF s) ≤ 129 := by unfold secF; omega
  have z20 := ext_size s 20 s.size (Nat.le_refl _)
  have N := Lib.hid hn; clear hn
  obtain ⟨p, hp⟩ : ∃ p : Nat, (↑(secF (lenF s)) * 512 - 24 - ↑(lenF s) : Int) = p := ⟨512 * secF (lenF s) - 24 - lenF s, by omega⟩
  have hsz : sizeF s = lenF s + 24 + p := by unfold sizeF; omega
  have HP := Lib.hid hp
  have hadd : (↑(lenF s) + 4 + ↑p : Int) = ((lenF s + 4 + p : Nat) : Int) := by omega
  have HA := Lib.hid hadd; clear hadd
  have e1 : (s.extract 20 s.size).extract 0 (lenF s) = textF s := cutTo s 20 s.size 0 (lenF s) _ _ (by omega) rfl rfl
  have e2 : (s.extract 20 s.size).extract (lenF s) (lenF s + 4) = s.extract (20 + lenF s) (24 + lenF s) := cutTo s 20 s.size _ _ _ _ (by omega) rfl (by omega)
  have e3 : (s.extract 20 s.size).extract (lenF s + 4) (s.extract 20 s.size).size = s.extract (24 + lenF s) s.size := by rw [z20]; exact cutTo s 20 s.size _ _ _ _ (by omega) (by omega) (by omega)
  have e4 : (s.extract (24 + lenF s) s.size).extract 0 p = padF s := by unfold padF; exact cutTo s (24 + lenF s) s.size 0 p _ _ (by omega) rfl (by omega)
  have z4 := ext_size s (24 + lenF s) s.size (Nat.le_refl _)
  have E1 := Lib.hid e1; have E2 := Lib.hid e2; have E3 := Lib.hid e3; have E4 := Lib.hid e4; clear e1 e2 e3 e4
  have HD := Lib.hid hd; clear hd
  go_enter Tryz.func98, Tryz.ntmps98
  go_wp2_with (fail)
  refine (head_ok b s _ h N.out.1 hs ht hb N.out.2.1 N.out.2.2).mono ?_; rintro e w1 ⟨rfl, ho⟩
  have P1 := Lib.hid ho; clear ho
  go_wp2_with (fail)
  refine (sectors_in (lenF s) _ hL).mono ?_; rintro e w' ⟨rfl, rfl⟩
  clear hp
  go_wp2_with (fail)
  rw [HP.out, HA.out]
  refine (need_yes b (s.extract 20 s.size) _ _ P1.out.1 (by omega)).mono ?_; rintro e w' ⟨rfl, rfl⟩
  go_wp2_with (fail)
  refine (sealed_yes b (s.extract 20 s.size) (lenF s) _ P1.out.1 (by omega) (by omega) (ht.only P1.out.2 hb) hb (by rw [E1.out, E2.out]; exact HD.out)).mono ?_; rintro e w2 ⟨rfl, ho⟩
  rw [E3.out] at ho
  rw [E1.out]
  have P2 := Lib.hid (P1.out.trans ho); clear ho
  go_wp2_with (fail)
  refine (zeros_bad b (s.extract (24 + lenF s) s.size) p _ P2.out.1 (by omega) (by omega) (by rw [E4.out]; exact hq0)).mono ?_; rintro e w3 ⟨rfl, ho⟩
  have P3 := Lib.hid (P2.out.2.trans ho fun _ hi => .inl hi); clear ho
  go_wp2
  exact ⟨rfl, rfl, P3.out⟩
set_option maxHeartbeats 400000 in
theorem frame_ok (b : Nat) (s : ByteArray) (w : World) (h : Rd w b s) (hn : HeadOk s) (hs : s.size ≤ maxLen) (ht : Tab w) (hb : b ≠ gTab) (hz : sizeF s ≤ s.size) (hd : s.extract (20 + lenF s) (24 + lenF s) = digV (textF s)) (hq0 : allZ (padF s) = true) :
    Calls Tryz.prog 98 #[.pointer (some ⟨b, 0, none⟩)] w fun e w' => e = .returned (.tuple #[.int .u64 (numF s), .string (textF s), .int .i64 (sizeF s)]) ∧ Only (itsR b) w w' := by
  have h20 := hn.1.1
  have hr := sec_room (lenF s)
  have hL := hn.2.2
  have hq : secF (lenF s) ≤ 129 := by unfold secF; omega
  have z20 := ext_size s 20 s.size (Nat.le_refl _)
  have N := Lib.hid hn; clear hn
  obtain ⟨p, hp⟩ : ∃ p : Nat, (↑(secF (lenF s)) * 512 - 24 - ↑(lenF s) : Int) = p := ⟨512 * secF (lenF s) - 24 - lenF s, by omega⟩
  have hsz : sizeF s = lenF s + 24 + p := by unfold sizeF; omega
  have HP := Lib.hid hp
  have hadd : (↑(lenF s) + 4 + ↑p : Int) = ((lenF s + 4 + p : Nat) : Int) := by omega
  have HA := Lib.hid hadd; clear hadd
  have e1 : (s.extract 20 s.size).extract 0 (lenF s) = textF s := cutTo s 20 s.size 0 (lenF s) _ _ (by omega) rfl rfl
  have e2 : (s.extract 20 s.size).extract (lenF s) (lenF s + 4) = s.extract (20 + lenF s) (24 + lenF s) := cutTo s 20 s.size _ _ _ _ (by omega) rfl (by omega)
  have e3 : (s.extract 20 s.size).extract (lenF s + 4) (s.extract 20 s.size).size = s.extract (24 + lenF s) s.size := by rw [z20]; exact cutTo s 20 s.size _ _ _ _ (by omega) (by omega) (by omega)
  have e4 : (s.extract (24 + lenF s) s.size).extract 0 p = padF s := by unfold padF; exact cutTo s (24 + lenF s) s.size 0 p _ _ (by omega) rfl (by omega)
  have z4 := ext_size s (24 + lenF s) s.size (Nat.le_refl _)
  have E1 := Lib.hid e1; have E2 := Lib.hid e2; have E3 := Lib.hid e3; have E4 := Lib.hid e4; clear e1 e2 e3 e4
  have HD := Lib.hid hd; clear hd
  have zt : (textF s).size = lenF s := by unfold textF; rw [ext_size s _ _ (by omega)]; omega
  go_enter Tryz.func98, Tryz.ntmps98
  go_wp2_with (fail)
  refine (head_ok b s _ h N.out.1 hs ht hb N.out.2.1 N.out.2.2).mono ?_; rintro e w1 ⟨rfl, ho⟩
  have P1 := Lib.hid ho; clear ho
  go_wp2_with (fail)
  refine (sectors_in (lenF s) _ hL).mono ?_; rintro e w' ⟨rfl, rfl⟩
  clear hp
  go_wp2_with (fail)
  rw [HP.out, HA.out]
  refine (need_yes b (s.extract 20 s.size) _ _ P1.out.1 (by omega)).mono ?_; rintro e w' ⟨rfl, rfl⟩
  go_wp2_with (fail)
  refine (sealed_yes b (s.extract 20 s.size) (lenF s) _ P1.out.1 (by omega) (by omega) (ht.only P1.out.2 hb) hb (by rw [E1.out, E2.out]; exact HD.out)).mono ?_; rintro e w2 ⟨rfl, ho⟩
  rw [E3.out] at ho
  rw [E1.out]
  have P2 := Lib.hid (P1.out.trans ho); clear ho
  go_wp2_with (fail)
  refine (zeros_yes b (s.extract (24 + lenF s) s.size) p _ P2.out.1 (by omega) (by omega) (by rw [E4.out]; exact hq0)).mono ?_; rintro e w3 ⟨rfl, ho⟩
  have P3 := Lib.hid (P2.out.trans ho); clear ho
  go_wp2_with (fail)
  refine (clone_any (textF s) _ (by omega)).mono ?_; rintro e w4 ⟨rfl, hb4⟩
  have P4 := Lib.hid (P3.out.2.below hb4); clear hb4
  go_wp2
  go_ret3
  exact ⟨ret_three (by unfold sizeF; omega), P4.out⟩
theorem frame_up (b k : Nat) (w : World) (h : Calls Tryz.prog 107 #[.pointer (some ⟨b, 0, none⟩)] w fun e w' => e = up k ∧ Only (itsR b) w w') :
    Calls Tryz.prog 98 #[.pointer (some ⟨b, 0, none⟩)] w fun e w' => e = up k ∧ Only (itsR b) w w' := by
  go_enter Tryz.func98, Tryz.ntmps98
  go_wp2_with (fail)
  refine h.mono ?_; rintro e w1 ⟨rfl, ho⟩
  have P1 := Lib.hid ho; clear ho
  go_wp2
  exact ⟨rfl, rfl, P1.out⟩
instance (s : ByteArray) : Decidable (Begun s) := by unfold Begun; infer_instance
/-- The error with which a reading of this text ends (0: it is a frame). -/
def getE (s : ByteArray) : Nat :=
  if ¬ Begun s then 50 else if ¬ s.extract 16 20 = digV (s.extract 0 16) then 51 else if ¬ lenF s ≤ 65536 then 50 else if ¬ sizeF s ≤ s.size then 50
  else if ¬ s.extract (20 + lenF s) (24 + lenF s) = digV (textF s) then 51 else if allZ (padF s) = false then 50 else 0
def FrameOut (s : ByteArray) (e : Ending) : Prop :=
  (getE s = 0 ∧ e = .returned (.tuple #[.int .u64 (numF s), .string (textF s), .int .i64 (sizeF s)])) ∨ (0 < getE s ∧ e = up (getE s))
theorem frame_any (b : Nat) (s : ByteArray) (w : World) (h : Rd w b s) (hs : s.size ≤ maxLen) (ht : Tab w) (hb : b ≠ gTab) :
    Calls Tryz.prog 98 #[.pointer (some ⟨b, 0, none⟩)] w fun e w' => FrameOut s e ∧ Only (itsR b) w w' := by
  have up_of : ∀ k, 0 < k → getE s = k → (Calls Tryz.prog 98 #[.pointer (some ⟨b, 0, none⟩)] w fun e w' => e = up k ∧ Only (itsR b) w w') →
      Calls Tryz.prog 98 #[.pointer (some ⟨b, 0, none⟩)] w fun e w' => FrameOut s e ∧ Only (itsR b) w w' :=
    fun k hk hg c => c.mono fun e w' ⟨he, ho⟩ => ⟨.inr ⟨by omega, by rw [hg]; exact he⟩, ho⟩
  by_cases h1 : Begun s
  · by_cases h2 : s.extract 16 20 = digV (s.extract 0 16)
    · by_cases h3 : lenF s ≤ 65536
      · have hn : HeadOk s := ⟨h1, h2, h3⟩
        by_cases h4 : sizeF s ≤ s.size
        · by_cases h5 : s.extract (20 + lenF s) (24 + lenF s) = digV (textF s)
          · cases h6 : allZ (padF s) with
            | false => exact up_of 50 (by omega) (by simp [getE, h1, h2, h3, h4, h5, h6]) (frame_pad b s w h hn hs ht hb h4 h5 h6)
            | true => exact (frame_ok b s w h hn hs ht hb h4 h5 h6).mono fun e w' ⟨he, ho⟩ => ⟨.inl ⟨by simp [getE, h1, h2, h3, h4, h5, h6], he⟩, ho⟩
          · exact up_of 51 (by omega) (by simp [getE, h1, h2, h3, h4, h5]) (frame_sum b s w h hn hs ht hb h4 h5)
        · exact up_of 50 (by omega) (by simp [getE, h1, h2, h3, h4]) (frame_short b s w h hn hs ht hb h4)
      · exact up_of 50 (by omega) (by simp [getE, h1, h2, h3]) (frame_up b 50 w (head_long b s w h h1 hs ht hb h2 h3))
    · exact up_of 51 (by omega) (by simp [getE, h1, h2]) (frame_up b 51 w (head_sum b s w h h1 hs ht hb h2))
  · exact up_of 50 (by omega) (by simp [getE, h1]) (frame_up b 50 w (head_none b s w h h1))
end Go.Proofs.YtgdaihembmcamaaGreatDoor
