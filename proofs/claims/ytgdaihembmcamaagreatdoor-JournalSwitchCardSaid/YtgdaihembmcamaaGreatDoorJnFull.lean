/- JournalFull: a journal takes records till just their room is used up, and again as many behind a checkpoint. -/
import Derived.Test.YtgdaihembmcamaaGreatDoorJnF
namespace Go.Proofs.YtgdaihembmcamaaGreatDoor
open Go.RowKit
/-- A journal with i times the same record. -/
structure FullJ (n : Nat) (t : ByteArray) (i : Nat) (j : Jn) : Prop where
  fr : j.fr = 0
  se : j.se = n
  half : j.half ≤ 1
  base : j.base = ⟨#[]⟩
  recs : j.recs = List.replicate i t
  used : j.used = 1 + i * secF t.size
  fit : j.unfit = false
theorem full_fits {n i : Nat} {t : ByteArray} {j : Jn} (h : FullJ n t i j) (h8 : 8 ≤ n) (hr : 1 + i * secF t.size ≤ hsz n) : j.Fits n := by
  have h1 : 1 ≤ secF t.size := by unfold secF; omega
  have h2 : i * 1 ≤ i * secF t.size := Nat.mul_le_mul_left _ h1
  refine ⟨by rw [h.se]; exact h8, by rw [h.fr, h.se]; omega, h.half, by rw [h.used]; unfold Jn.size; rw [h.se]; exact hr, ?_⟩
  rw [h.recs, List.length_replicate, h.used]
  omega
theorem full_why {n i : Nat} {t : ByteArray} {j : Jn} (h : FullJ n t i j) (ht : t.size ≤ 65536) (hr : 1 + (i + 1) * secF t.size ≤ hsz n) : j.why t j.room = 0 := by
  rw [Nat.add_mul, Nat.one_mul] at hr
  unfold Jn.why
  rw [if_neg (by simp [h.fit]), if_neg (by omega), if_neg]
  unfold Jn.room Jn.size
  rw [h.se, h.used]
  omega
theorem full_stop {n i : Nat} {t : ByteArray} {j : Jn} (h : FullJ n t i j) (ht : t.size ≤ 65536) (hr : hsz n < 1 + i * secF t.size + secF t.size) : j.why t j.room = 60 := by
  unfold Jn.why
  rw [if_neg (by simp [h.fit]), if_neg (by omega), if_pos]
  unfold Jn.room Jn.size
  rw [h.se, h.used]
  omega
theorem full_more {n i : Nat} {t : ByteArray} {j : Jn} (h : FullJ n t i j) : FullJ n t (i + 1) (j.more t) :=
  ⟨h.fr, h.se, h.half, h.base, by show j.recs ++ [t] = _; rw [h.recs, List.replicate_succ'], by show j.used + secF t.size = _; rw [h.used, Nat.add_mul, Nat.one_mul]; omega, h.fit⟩
theorem full_swap {n i : Nat} {t : ByteArray} {j : Jn} (h : FullJ n t i j) : FullJ n t 0 (j.swap ⟨#[]⟩) :=
  ⟨h.fr, h.se, by show 1 - j.half ≤ 1; omega, rfl, rfl, by show secF 0 = _; rw [Nat.zero_mul]; rfl, rfl⟩
theorem full_check {n i : Nat} {t : ByteArray} {j : Jn} (h : FullJ n t i j) (hr : 1 ≤ hsz n) : j.why ⟨#[]⟩ j.size = 0 := by
  unfold Jn.why
  rw [if_neg (by simp [h.fit]), if_neg (by show ¬ 65536 < 0; omega), if_neg]
  show ¬ ((j.size : Nat) : Int) < ((secF 0 : Nat) : Int)
  unfold Jn.size
  rw [h.se, show secF 0 = 1 from rfl]
  omega
theorem up_check {w0 w : World} {p q n : Nat} {x : St} {j : Jn} (h : Up w0 w p q n x j) (hf : j.Fits n) (t : ByteArray) (hw : j.why t j.size = 0) (hx : x.ops ≤ 100000000000) (hn : j.num ≤ 100000000000) (he : (j.check x t).2 = true) :
    Calls Tryz.prog 19 #[.pointer (some ⟨q, 0, none⟩), .string t] w fun e w' => e = .returned (.int .i64 0) ∧ Up w0 w' p q n (j.check x t).1 (j.swap t) := by
  obtain ⟨S, hj, hs⟩ := h.jd
  obtain ⟨c1, c2, c3⟩ := check_parts he
  refine (check_ok w hj hf t hw hx hn c1 c2).mono ?_
  rintro e w' ⟨h1, S', hj', ho, hg⟩
  exact ⟨h1, ⟨S', hj', grew_lo hg hs h.below.size⟩, below_go h.below ho hs⟩
theorem up_full {w0 w : World} {p q n : Nat} {x : St} {j : Jn} (h : Up w0 w p q n x j) (hf : j.Fits n) (t : ByteArray) (hw : j.why t j.room = 60) :
    Calls Tryz.prog 17 #[.pointer (some ⟨q, 0, none⟩), .string t] w fun e w' => e = .returned (.int .i64 60) ∧ Up w0 w' p q n x j := by
  obtain ⟨S, hj, hs⟩ := h.jd
  refine (append_why w hj hf t (by rw [hw]; decide)).mono ?_
  rintro e w' ⟨h1, S', hj', ho, hg⟩
  rw [hw] at h1
  exact ⟨h1, ⟨S', hj', grew_lo hg hs h.below.size⟩, below_go h.below ho hs⟩
theorem check_ops (j : Jn) (x : St) (t : ByteArray) : (j.check x t).1.ops ≤ x.ops + secF t.size + 3 := by
  have e1 := enter_ops j x t (1 - j.half) 0 0
  have e2 := flsh_ops (j.enter x t (1 - j.half) 0 0).1
  unfold Jn.check
  split <;> omega
/-- On the way: i records stand; few operations were done. -/
def FAt (w0 : World) (p q n : Nat) (t : ByteArray) (i B : Nat) (wr : World) : Prop :=
  ∃ x j, Up w0 wr p q n x j ∧ FullJ n t i j ∧ x.armed = false ∧ x.down = false ∧ x.ops ≤ B ∧ j.num ≤ B
def OutAt (w0 : World) (p q n : Nat) (t : ByteArray) (c : Value) (wr : World) : Prop := ∃ r : Nat, c = .int .i64 (r : Int) ∧ r ≤ 3 ∧ FAt w0 p q n t 0 (1000 + r * 100000) wr
def InAt (w0 : World) (p q n : Nat) (t : ByteArray) (W r : Nat) (c : Value) (wr : World) : Prop := ∃ i : Nat, c = .int .i64 (i : Int) ∧ i ≤ W ∧ FAt w0 p q n t i (1000 + r * 100000 + i * 1000) wr
theorem fat_append {w0 wr : World} {p q n i B W : Nat} {t : ByteArray} (h : FAt w0 p q n t i B wr) (h8 : 8 ≤ n) (ht : t.size ≤ 2000) (hW : 1 + W * secF t.size ≤ hsz n) (hi : i < W) (hB : B ≤ 10000000000) :
    Calls Tryz.prog 17 #[.pointer (some ⟨q, 0, none⟩), .string t] wr fun e w' => e = .returned (.int .i64 0) ∧ FAt w0 p q n t (i + 1) (B + 1000) w' := by
  obtain ⟨x, j, hu, hj, ha, hd, ho, hn⟩ := h
  have hm : (i + 1) * secF t.size ≤ W * secF t.size := Nat.mul_le_mul_right _ hi
  have hm2 : i * secF t.size ≤ W * secF t.size := Nat.mul_le_mul_right _ (by omega)
  obtain ⟨e1, e2, e3⟩ := free_enter ha hd j t j.half j.used (j.recs.length + 1)
  have e4 := enter_ops j x t j.half j.used (j.recs.length + 1)
  have e5 : secF t.size ≤ 10 := by unfold secF; omega
  refine (up_append hu (full_fits hj h8 (by omega)) t (full_why hj (by omega) (by omega)) (by omega) (by omega) e1).mono ?_
  rintro e w' ⟨h1, h2⟩
  exact ⟨h1, _, _, h2, full_more hj, e2, e3, by omega, by show j.num + 1 ≤ _; omega⟩
theorem fat_full {w0 wr : World} {p q n B W : Nat} {t : ByteArray} (h : FAt w0 p q n t W B wr) (h8 : 8 ≤ n) (ht : t.size ≤ 2000) (hW : 1 + W * secF t.size ≤ hsz n) (hW2 : hsz n < 1 + W * secF t.size + secF t.size) :
    Calls Tryz.prog 17 #[.pointer (some ⟨q, 0, none⟩), .string t] wr fun e w' => e = .returned (.int .i64 60) ∧ FAt w0 p q n t W B w' := by
  obtain ⟨x, j, hu, hj, hr⟩ := h
  refine (up_full hu (full_fits hj h8 hW) t (full_stop hj (by omega) hW2)).mono ?_
  rintro e w' ⟨h1, h2⟩
  exact ⟨h1, x, j, h2, hj, hr⟩
theorem fat_records {w0 wr : World} {p q n i B : Nat} {t : ByteArray} (h : FAt w0 p q n t i B wr) (ht : t.size ≤ 2000) (hi : i ≤ 8192) :
    Calls Tryz.prog 35 #[.pointer (some ⟨q, 0, none⟩)] wr fun e w' => ∃ g c, e = .returned (.slice (some ⟨g, 0, none⟩) i c) ∧ FAt w0 p q n t i B w' := by
  obtain ⟨x, j, hu, hj, hr⟩ := h
  refine (up_records hu (by rw [hj.recs, List.length_replicate]; exact hi) (fun s hs => by rw [hj.recs] at hs; rw [(List.mem_replicate.1 hs).2]; omega)).mono ?_
  rintro e w' ⟨g, c, h1, _, h2, _⟩
  rw [hj.recs, List.length_replicate] at h1
  exact ⟨g, c, h1, x, j, h2, hj, hr⟩
theorem fat_room {w0 wr : World} {p q n i B : Nat} {t : ByteArray} (h : FAt w0 p q n t i B wr) (h8 : 8 ≤ n) (hr : 1 + i * secF t.size ≤ hsz n) :
    Calls Tryz.prog 28 #[.pointer (some ⟨q, 0, none⟩)] wr fun e w' => e = .returned (.int .i64 ((hsz n : Int) - 1 - (i : Int) * (secF t.size : Int))) ∧ FAt w0 p q n t i B w' := by
  obtain ⟨x, j, hu, hj, hh⟩ := h
  refine (up_room hu (full_fits hj h8 hr)).mono ?_
  rintro e w' ⟨h1, h2⟩
  refine ⟨?_, x, j, h2, hj, hh⟩
  rw [h1]
  unfold Jn.size
  rw [hj.se, hj.used]
  congr 2
  push_cast
  omega
theorem fat_check {w0 wr : World} {p q n i B : Nat} {t : ByteArray} (h : FAt w0 p q n t i B wr) (h8 : 8 ≤ n) (hr : 1 + i * secF t.size ≤ hsz n) (hB : B ≤ 10000000000) :
    Calls Tryz.prog 19 #[.pointer (some ⟨q, 0, none⟩), .string ⟨#[]⟩] wr fun e w' => e = .returned (.int .i64 0) ∧ FAt w0 p q n t 0 (B + 1000) w' := by
  obtain ⟨x, j, hu, hj, ha, hd, ho, hn⟩ := h
  obtain ⟨e1, e2, e3⟩ := free_check ha hd j ⟨#[]⟩
  have e4 := check_ops j x ⟨#[]⟩
  have e5 : secF (⟨#[]⟩ : ByteArray).size = 1 := rfl
  refine (up_check hu (full_fits hj h8 hr) ⟨#[]⟩ (full_check hj (by omega)) (by omega) (by omega) e1).mono ?_
  rintro e w' ⟨h1, h2⟩
  exact ⟨h1, _, _, h2, full_swap hj, e2, e3, by omega, by show j.num + 1 ≤ _; omega⟩
theorem fat_format {w0 w : World} {F : Nat → Prop} {p n : Nat} (h : Dv w F p n (St.new n)) (ht : Tab w) (h0 : Tab w0) (hlo : ∀ k, F k → w0.heap.size ≤ k) (hb : Below w0.heap.size w0 w) (h8 : 8 ≤ n) (t : ByteArray) :
    Calls Tryz.prog 14 #[.pointer (some ⟨p, 0, none⟩), .int .i64 ((0 : Nat) : Int), .int .i64 (n : Int), .string ⟨#[]⟩] w fun e w' => ∃ q, e = .returned (.tuple #[.pointer (some ⟨q, 0, none⟩), .int .i64 0]) ∧ FAt w0 p q n t 0 1000 w' := by
  obtain ⟨p1, a1, d1⟩ := free_put (x := St.new n) rfl rfl 0 4 zero4
  obtain ⟨p2, a2, d2⟩ := free_check a1 d1 (Jn.blank 0 n) ⟨#[]⟩
  obtain ⟨c1, c2, c3⟩ := check_parts p2
  have q1 := put_ops (St.new n) 0 4 zero4
  have q0 : (St.new n).ops = 0 := rfl
  have q2 := check_ops (Jn.blank 0 n) ((St.new n).put 0 zero4 4).1 ⟨#[]⟩
  have q3 : secF (⟨#[]⟩ : ByteArray).size = 1 := rfl
  have hz : hsz n = (n - 4) / 2 := rfl
  have hw : (Jn.blank 0 n).why ⟨#[]⟩ (Jn.blank 0 n).size = 0 := by
    unfold Jn.why
    rw [if_neg (by simp [Jn.blank]), if_neg (by show ¬ 65536 < 0; omega), if_neg]
    show ¬ ((hsz n : Nat) : Int) < ((secF 0 : Nat) : Int)
    rw [show secF 0 = 1 from rfl]
    omega
  refine (format_ok w h ht (lo_far h0 hlo) 0 n h8 (by omega) ⟨#[]⟩ (by rw [q0]; omega) hw p1 c1 c2).mono ?_
  rintro e w2 hm
  obtain ⟨q, rfl, hu⟩ := up_made hm hlo hb
  exact ⟨q, rfl, _, _, hu, ⟨rfl, rfl, Nat.le_refl 1, rfl, rfl, by show secF 0 = _; rw [Nat.zero_mul]; rfl, rfl⟩, a2, d2, by omega, by show 0 + 1 ≤ 1000; omega⟩
set_option maxRecDepth 100000 in
set_option maxHeartbeats 3200000 in
theorem full_any (sectors size : Int) (w : World) (ht : Tab w) :
    Calls Tryz.prog 7 #[.int .i64 sectors, .int .i64 size] w fun e w' => e = .returned (.bool true) ∧ Below w.heap.size w w' := by
  have HTb := Lib.hid ht
  have HM := Lib.hid (fun v => mod_any sectors 60 (by decide) (by decide) v)
  have HK := Lib.hid (fun v => mod_any size 1200 (by decide) (by decide) v)
  obtain ⟨m, hm⟩ : ∃ m : Nat, sectors % ((60 : Nat) : Int) = m := ⟨(sectors % 60).toNat, by omega⟩
  obtain ⟨k, hk⟩ : ∃ k : Nat, size % ((1200 : Nat) : Int) = k := ⟨(size % 1200).toNat, by omega⟩
  rw [hm] at HM
  rw [hk] at HK
  have hm1 : m < 60 := by omega
  have hk1 : k < 1200 := by omega
  obtain ⟨n, hn⟩ : ∃ n : Nat, n = 8 + m := ⟨_, rfl⟩
  have hw2 : (8 : Int) + (m : Int) = (n : Int) := by omega
  have hw3 : IntKind.i64.wrap (8 + (m : Int)) = (n : Int) := by rw [i64w _ (by omega)]; omega
  have n8 : 8 ≤ n := by omega
  have nm : n ≤ 68 := by omega
  obtain ⟨H, hH⟩ : ∃ H, H = hsz n := ⟨_, rfl⟩
  have hH2 : H = (n - 4) / 2 := hH
  obtain ⟨E, hE⟩ : ∃ E, E = secF k := ⟨_, rfl⟩
  have hE2 : E = (k + 535) / 512 := hE
  obtain ⟨W, hW⟩ : ∃ W, W = (H - 1) / E := ⟨_, rfl⟩
  have hE1 : 1 ≤ E := by omega
  have hWE := Nat.div_add_mod (H - 1) E
  have hWm := Nat.mod_lt (H - 1) (show E > 0 by omega)
  rw [← hW] at hWE
  have hWc : W * E = E * W := Nat.mul_comm _ _
  have hWl : W ≤ W * E := Nat.le_mul_of_pos_right _ (by omega)
  have r1 : 1 + W * E ≤ H := by omega
  have r2 : H < 1 + W * E + E := by omega
  have s1 : IntKind.i64.wrap ((n : Int) - 4) = (n : Int) - 4 := i64w _ (by omega)
  have s2 : ((n : Int) - 4).tdiv 2 = (H : Int) := by rw [Int.tdiv_eq_ediv_of_nonneg (by omega)]; omega
  have s3 : IntKind.i64.wrap (H : Int) = (H : Int) := i64w _ (by omega)
  have s4 : IntKind.i64.wrap ((H : Int) - 1) = (H : Int) - 1 := i64w _ (by omega)
  have s5 : ((H : Int) - 1).tdiv (E : Int) = (W : Int) := by
    rw [Int.tdiv_eq_ediv_of_nonneg (by omega), show (H : Int) - 1 = ((H - 1 : Nat) : Int) by omega, ← Int.natCast_ediv, hW]
  have s6 : IntKind.i64.wrap (W : Int) = (W : Int) := i64w _ (by omega)
  have s7 : IntKind.i64.wrap (24 + (k : Int)) = 24 + (k : Int) := i64w _ (by omega)
  have s8 : IntKind.i64.wrap (24 + (k : Int) + 511) = 24 + (k : Int) + 511 := i64w _ (by omega)
  have s9 : (24 + (k : Int) + 511).tdiv 512 = (E : Int) := by rw [Int.tdiv_eq_ediv_of_nonneg (by omega)]; omega
  have s10 : IntKind.i64.wrap (E : Int) = (E : Int) := i64w _ (by omega)
  have hWEi : (W : Int) * (E : Int) = ((W * E : Nat) : Int) := by simp
  have s11 : IntKind.i64.wrap ((W : Int) * (E : Int)) = (W : Int) * (E : Int) := i64w _ (by omega)
  have s12 : IntKind.i64.wrap ((H : Int) - 1 - (W : Int) * (E : Int)) = (H : Int) - 1 - (W : Int) * (E : Int) := i64w _ (by omega)
  have s13 : ¬ (E : Int) = 0 := by omega
  have s14 : ((E : Int) == 0) = false := by rw [beq_eq_false_iff_ne]; exact s13
  have HH := Lib.hid hH
  have HE := Lib.hid hE
  have R1 := Lib.hid r1
  have R2 := Lib.hid r2
  have HW2 := Lib.hid hw2
  have hWb : W ≤ 40 := by omega
  clear ht hm hk hm1 hn hw2 hH hH2 hE hE2 hW hWE hWm hWc hWl r1 r2 hWEi
  have HKZ := Lib.hid (bytesS_size k 0)
  go_enter Tryz.func7, Tryz.ntmps7
  go_wp2_with (fail)
  refine (HM.out _).mono ?_; rintro e w1 ⟨rfl, rfl⟩
  go_wp2_with (fail)
  refine (HK.out _).mono ?_; rintro e w1 ⟨rfl, rfl⟩
  go_wp2_with (fail)
  refine (new_ok w n (by omega) (by omega)).mono ?_
  rintro e w2 ⟨p, F, rfl, hd, hb2, hlo⟩
  have HD := Lib.hid hd
  have HB2 := Lib.hid hb2
  have HLo := Lib.hid hlo
  clear hd hb2 hlo
  go_wp2_with (fail)
  refine (fat_format HD.out (HTb.out.below HB2.out) HTb.out HLo.out HB2.out n8 (bytesS k 0)).mono ?_
  rintro e w3 ⟨q, rfl, hf⟩
  have F3 := Lib.hid hf
  clear hf HD HB2 HLo
  go_wp2_with (fail)
  refine (zeros_any k (by omega) w3).mono ?_
  rintro e w4 ⟨rfl, hb4⟩
  have F4 := Lib.hid (show FAt w p q n (bytesS k 0) 0 1000 w4 by
    obtain ⟨x, j, hu, hr⟩ := F3.out
    exact ⟨x, j, hu.more hb4, hr⟩)
  clear hb4 F3
  have HT2 := Lib.hid (show (bytesS k 0).size ≤ 2000 by rw [HKZ.out]; omega)
  have HT3 := Lib.hid (show secF (bytesS k 0).size = E by rw [HKZ.out, HE.out])
  generalize bytesS k 0 = t at *
  clear HKZ HE
  go_wp2_with (fail)
  go_loopw [13] (fun c wr => OutAt w p q n t c wr) (fun c _ => 3 - (intOf c).toNat)
  case atStart => exact ⟨0, rfl, by omega, F4.out⟩
  case round =>
    obtain ⟨r, rfl, hr, hf⟩ := hrel
    by_cases hlt : r < 3
    · have hx : (r : Int) < 3 := by omega
      have F5 := Lib.hid hf
      clear hf
      go_wp2_with (fail)
      go_loopw [15] (fun c wr => InAt w p q n t W r c wr) (fun c _ => W - (intOf c).toNat)
      case atStart => exact ⟨0, rfl, Nat.zero_le _, by rw [Nat.zero_mul, Nat.add_zero]; exact F5.out⟩
      case round =>
        obtain ⟨i, rfl, hi, hf⟩ := hrel
        by_cases hil : i < W
        · have hx2 : (i : Int) < W := by omega
          have F6 := Lib.hid hf
          clear hf
          go_wp2_with (fail)
          refine (fat_append F6.out n8 HT2.out (by rw [HT3.out, ← HH.out]; exact R1.out) hil (by omega)).mono ?_
          rintro e w6 ⟨rfl, hf⟩
          have F7 := Lib.hid hf
          clear hf F6
          go_wp2_with (fail)
          go_roundw
          case rel => exact ⟨i + 1, by go_num, by omega, by rw [Nat.add_mul, Nat.one_mul, ← Nat.add_assoc]; exact F7.out⟩
          case measure => simp [intOf]; omega
        · obtain rfl : i = W := by omega
          have F6 := Lib.hid hf
          clear hf
          go_wp2_with (fail)
          refine (fat_full F6.out n8 HT2.out (by rw [HT3.out, ← HH.out]; exact R1.out) (by rw [HT3.out, ← HH.out]; exact R2.out)).mono ?_
          rintro e w6 ⟨rfl, hf⟩
          have F7 := Lib.hid hf
          clear hf F6
          go_wp2_with (fail)
          refine (fat_records F7.out HT2.out (by omega)).mono ?_
          rintro e w7 ⟨g7, c7, rfl, hf⟩
          have F8 := Lib.hid hf
          clear hf F7
          go_wp2_with (fail)
          refine (fat_room F8.out n8 (by rw [HT3.out, ← HH.out]; exact R1.out)).mono ?_
          rintro e w8 ⟨rfl, hf⟩
          rw [HT3.out, ← HH.out]
          have F9 := Lib.hid hf
          clear hf F8
          go_wp2_with (fail)
          refine (fat_check F9.out n8 (by rw [HT3.out, ← HH.out]; exact R1.out) (by omega)).mono ?_
          rintro e w9 ⟨rfl, hf⟩
          have F10 := Lib.hid hf
          clear hf F9
          go_wp2_with (fail)
          refine (fat_records F10.out HT2.out (by omega)).mono ?_
          rintro e w10 ⟨g10, c10, rfl, hf⟩
          have F11 := Lib.hid hf
          clear hf F10
          go_wp2_with (fail)
          go_roundw
          case rel => exact ⟨r + 1, by go_num, by omega, by
            obtain ⟨x, j, h1, h2, h3, h4, h5, h6⟩ := F11.out
            exact ⟨x, j, h1, h2, h3, h4, by omega, by omega⟩⟩
          case measure => simp [intOf]; omega
    · obtain rfl : r = 3 := by omega
      have F5 := Lib.hid hf
      clear hf
      go_wp2_with (fail)
      refine (wakes_any _ (HTb.out.below (by obtain ⟨x, j, hu, _⟩ := F5.out; exact hu.below))).mono ?_
      rintro e w6 ⟨rfl, hb6⟩
      have B6 := Lib.hid (show Below w.heap.size w w6 by obtain ⟨x, j, hu, _⟩ := F5.out; exact hu.below.trans (hb6.mono hu.below.size))
      clear hb6
      go_wp2_with (fail)
      go_ret
      exact ⟨rfl, B6.out⟩
end Go.Proofs.YtgdaihembmcamaaGreatDoor
