/- Who holds, and who may: the document's functions. -/
import Derived.Test.YthedonkjnfeajaaDoorAcC
namespace Go.Proofs.YthedonkjnfeajaaDoor
open Go.RowKit
theorem eqS_comm (a b : ByteArray) : eqS a b = eqS b a := by
  unfold eqS
  rw [Bool.eq_iff_iff]
  simp only [beq_iff_eq]
  exact ⟨Eq.symm, Eq.symm⟩
theorem refType_any (n : Int) (w : World) : Calls Tryd.prog 38 #[.int .i64 n] w fun e w' => e = .returned (.bool (typeB n)) ∧ w = w' := by
  have hf : typeB n = decide (0 < n ∧ n < 7) := rfl
  generalize typeB n = r at hf
  by_cases c1 : 1 ≤ n
  · by_cases c2 : n ≤ 6
    · obtain rfl : r = true := by rw [hf]; exact decide_eq_true (by omega)
      clear hf
      go_enter Tryd.func38, Tryd.ntmps38
      go_wp2_with (fail)
      go_ret
      exact ⟨rfl, rfl⟩
    · obtain rfl : r = false := by rw [hf]; exact decide_eq_false (by omega)
      clear hf
      go_enter Tryd.func38, Tryd.ntmps38
      go_wp2_with (fail)
      go_ret
      exact ⟨rfl, rfl⟩
  · obtain rfl : r = false := by rw [hf]; exact decide_eq_false (by omega)
    clear hf
    go_enter Tryd.func38, Tryd.ntmps38
    go_wp2_with (fail)
    go_ret
    exact ⟨rfl, rfl⟩
set_option maxHeartbeats 1000000 in
theorem refReg_any (A : Option Addr) (c : Nat) (t : Tl) (hs : ByteArray) (w : World) (hl : Rgs w A t.rs) (hm : t.rs.length ≤ maxLen) :
    Calls Tryd.prog 37 #[tlV A c t, .string hs] w fun e w' => e = .returned (.bool (regB t.rs hs)) ∧ Below w.heap.size w w' := by
  unfold maxLen at hm
  obtain ⟨h1, h2, h3⟩ := tl_box w A c t _ rfl
  have HT := Lib.hid h1; have HB := Lib.hid h2
  have HL := Lib.hid hl
  clear h1 h2 h3 hl
  go_enter Tryd.func37, Tryd.ntmps37
  go_upto_region 1 with (fail)
  change Code.wp _ _ _ _ (w.alloc (.cells (tlC A c t) 27))
  generalize w.alloc (.cells (tlC A c t) 27) = w0 at *
  have c0 : w0.cell? ⟨w.heap.size, 0, none⟩ = some (.slice A t.rs.length c) := HT.out.cell 0
  have HLb := Lib.hid (HL.out.below HB.out)
  go_wp2
  go_loop [5] (fun i => ∃ k : Nat, k ≤ t.rs.length ∧ i = .int .i64 k ∧ Hid (regB (t.rs.take k) hs = false)) (fun i => t.rs.length - (intOf i).toNat)
  case atStart => exact ⟨0, Nat.zero_le _, rfl, Lib.hid rfl⟩
  case round =>
    obtain ⟨k, hk, rfl, HR⟩ := hrel
    by_cases hlt : k < t.rs.length
    · obtain ⟨b, o, x, rfl, hx, hz, d0, d1⟩ := HLb.out.at_ hlt
      have HX := Lib.hid hx; clear hx
      cases he : (x.h.toList == hs.toList) with
      | true =>
        go_wp2_with (fail)
        go_ret
        refine ⟨?_, HB.out⟩
        have h1 : regB (t.rs.take (k + 1)) hs = true := by rw [regB_take _ _ _ _ HX.out, HR.out]; exact he
        have : regB t.rs hs = true := by
          unfold regB at h1 ⊢
          obtain ⟨y, hy, hz⟩ := List.any_eq_true.1 h1
          exact List.any_eq_true.2 ⟨y, List.mem_of_mem_take hy, hz⟩
        rw [this]
        rfl
      | false =>
        have HE := Lib.hid (show eqS x.h hs = false from he)
        go_wp2_with (fail)
        go_round
        case rel => exact ⟨k + 1, by omega, by go_num, Lib.hid (by rw [regB_take _ _ _ _ HX.out, HR.out, HE.out]; rfl)⟩
        case measure => simp [intOf]; omega
    · obtain rfl : k = t.rs.length := by omega
      go_wp2_with (fail)
      go_ret
      have := HR.out
      rw [List.take_length] at this
      exact ⟨by rw [this]; rfl, HB.out⟩
theorem mayB_eq (t : Tl) (h : ByteArray) (op : Int) : mayB t h op = (holdsB t h || hasB (othV (kindN t.ty) op) t h) := rfl
theorem oth_reads (k : Nat) (op : Int) (hr : readsB op = true) : othV k op = gR k := by unfold othV; rw [if_pos hr]
theorem oth_changes (k : Nat) (op : Int) (hr : readsB op = false) (hc : changesB op = true) : othV k op = gC k := by unfold othV; rw [if_neg (by rw [hr]; decide), if_pos hc]
theorem oth_else (k : Nat) (op : Int) (hr : readsB op = false) (hc : changesB op = false) : othV k op = 3 := by unfold othV; rw [if_neg (by rw [hr]; decide), if_neg (by rw [hc]; decide)]
theorem oth_zero (op : Int) : othV 0 op = 3 := by
  by_cases hr : readsB op = true
  · unfold othV; rw [if_pos hr]; rfl
  · by_cases hc : changesB op = true
    · unfold othV; rw [if_neg hr, if_pos hc]; rfl
    · unfold othV; rw [if_neg hr, if_neg hc]
theorem has3 (t : Tl) (h : ByteArray) : hasB 3 t h = true := rfl
theorem has2 (t : Tl) (h : ByteArray) : hasB 2 t h = regB t.rs h := rfl
theorem has0 (t : Tl) (h : ByteArray) : hasB 0 t h = false := rfl
theorem mayB_no (t : Tl) (h : ByteArray) (op : Int) (hn : typeB t.ty = false) : mayB t h op = true := by
  rw [mayB_eq, show kindN t.ty = 0 by unfold kindN; rw [if_neg (by rw [hn]; decide)], oth_zero, has3, Bool.or_true]
theorem mayB_else (t : Tl) (h : ByteArray) (op : Int) (hr : readsB op = false) (hc : changesB op = false) : mayB t h op = true := by
  rw [mayB_eq, oth_else _ _ hr hc, has3, Bool.or_true]
theorem mayB_holds (t : Tl) (h : ByteArray) (op : Int) (hh : holdsB t h = true) : mayB t h op = true := by rw [mayB_eq, hh, Bool.true_or]
theorem kindN_of (n : Int) (hn : typeB n = true) : kindN n = n.toNat := by unfold kindN; rw [if_pos hn]
theorem neB {n k : Int} (h : (n == k) = false) : n ≠ k := by rw [int_beq] at h; exact of_decide_eq_false h
theorem eqB {n k : Int} (h : (n == k) = true) : n = k := by rw [int_beq] at h; exact of_decide_eq_true h
theorem mayB_reads (t : Tl) (h : ByteArray) (op : Int) (hr : readsB op = true) (hh : holdsB t h = false) : mayB t h op = hasB (gR (kindN t.ty)) t h := by
  rw [mayB_eq, hh, oth_reads _ _ hr, Bool.false_or]
theorem mayB_changes (t : Tl) (h : ByteArray) (op : Int) (hr : readsB op = false) (hc : changesB op = true) (hh : holdsB t h = false) : mayB t h op = hasB (gC (kindN t.ty)) t h := by
  rw [mayB_eq, hh, oth_changes _ _ hr hc, Bool.false_or]
end Go.Proofs.YthedonkjnfeajaaDoor
