/- Who holds, and who may: the document's functions. -/
import Derived.Test.YtgekadfkokkapaaDoorAcC
namespace Go.Proofs.YtgekadfkokkapaaDoor
open Go.RowKit
theorem eqS_comm (a b : ByteArray) : eqS a b = eqS b a := by
  unfold eqS
  rw [Bool.eq_iff_iff]
  simp only [beq_iff_eq]
  exact ⟨Eq.symm, Eq.symm⟩
theorem refType_any (n : Int) (w : World) : Calls Tryd.prog 34 #[.int .i64 n] w fun e w' => e = .returned (.bool (typeB n)) ∧ w = w' := by
  have hf : typeB n = decide (0 < n ∧ n < 7) := rfl
  generalize typeB n = r at hf
  by_cases c1 : 1 ≤ n
  · by_cases c2 : n ≤ 6
    · obtain rfl : r = true := by rw [hf]; exact decide_eq_true (by omega)
      clear hf
      go_enter Tryd.func34, Tryd.ntmps34
      go_wp2_with (fail)
      go_ret
      exact ⟨rfl, rfl⟩
    · obtain rfl : r = false := by rw [hf]; exact decide_eq_false (by omega)
      clear hf
      go_enter Tryd.func34, Tryd.ntmps34
      go_wp2_with (fail)
      go_ret
      exact ⟨rfl, rfl⟩
  · obtain rfl : r = false := by rw [hf]; exact decide_eq_false (by omega)
    clear hf
    go_enter Tryd.func34, Tryd.ntmps34
    go_wp2_with (fail)
    go_ret
    exact ⟨rfl, rfl⟩
set_option maxHeartbeats 1000000 in
theorem refReg_any (A : Option Addr) (c : Nat) (t : Tl) (hs : ByteArray) (w : World) (hl : Rgs w A t.rs) (hm : t.rs.length ≤ maxLen) :
    Calls Tryd.prog 33 #[tlV A c t, .string hs] w fun e w' => e = .returned (.bool (regB t.rs hs)) ∧ Below w.heap.size w w' := by
  unfold maxLen at hm
  obtain ⟨h1, h2, h3⟩ := tl_box w A c t _ rfl
  have HT := Lib.hid h1; have HB := Lib.hid h2
  have HL := Lib.hid hl
  clear h1 h2 h3 hl
  go_enter Tryd.func33, Tryd.ntmps33
  go_upto_region 1 with (fail)
  change Code.wp _ _ _ _ (w.alloc (.cells (tlC A c t) 27))
  generalize w.alloc (.cells (tlC A c t) 27) = w0 at *
  have c0 : w0.cell? ⟨w.heap.size, 0, none⟩ = some (.slice A t.rs.length c) := HT.out.cell 0
  have HLb := Lib.hid (HL.out.below HB.out)
  go_wp2
  go_loop [5] (fun i => ∃ k : Nat, k ≤ t.rs.length ∧ i = .int .i64 k ∧ Hid (regB (t.rs.take k) hs = false)) (fun i => t.rs.length - (intOf i).toNat)
  case atStart => exact ⟨0, Nat.zero_le _, rfl, Lib.hid rfl⟩
  case round =>
    obtain ⟨k, hk, rfl, HR⟩ := hrel
    by_cases hlt : k < t.rs.length
    · obtain ⟨b, o, x, rfl, hx, hz, d0, d1⟩ := HLb.out.at_ hlt
      have HX := Lib.hid hx; clear hx
      cases he : (x.h.toList == hs.toList) with
      | true =>
        go_wp2_with (fail)
        go_ret
        refine ⟨?_, HB.out⟩
        have h1 : regB (t.rs.take (k + 1)) hs = true := by rw [regB_take _ _ _ _ HX.out, HR.out]; exact he
        have : regB t.rs hs = true := by
          unfold regB at h1 ⊢
          obtain ⟨y, hy, hz⟩ := List.any_eq_true.1 h1
          exact List.any_eq_true.2 ⟨y, List.mem_of_mem_take hy, hz⟩
        rw [this]
        rfl
      | false =>
        have HE := Lib.hid (show eqS x.h hs = false from he)
        go_wp2_with (fail)
        go_round
        case rel => exact ⟨k + 1, by omega, by go_num, Lib.hid (by rw [regB_take _ _ _ _ HX.out, HR.out, HE.out]; rfl)⟩
        case measure => simp [intOf]; omega
    · obtain rfl : k = t.rs.length := by omega
      go_wp2_with (fail)
      go_ret
      have := HR.out
      rw [List.take_length] at this
      exact ⟨by rw [this]; rfl, HB.out⟩
set_option maxHeartbeats 1000000 in
theorem refHolds_1 (A : Option Addr) (c : Nat) (rs : List Rg) (ho : ByteArray) (ge : Int) (ap : Bool) (h : ByteArray) (w : World) (hl : Rgs w A rs) :
    Calls Tryd.prog 63 #[tlV A c ⟨rs, 1, ho, ge, ap⟩, .string h] w fun e w' => e = .returned (.bool (holdsB ⟨rs, 1, ho, ge, ap⟩ h)) ∧ Below w.heap.size w w' := by
  have hf : (ho.toList == h.toList) = holdsB ⟨rs, 1, ho, ge, ap⟩ h := eqS_comm ho h
  generalize holdsB ⟨rs, 1, ho, ge, ap⟩ h = r at *
  obtain ⟨h1, h2, h3⟩ := tl_box w A c ⟨rs, 1, ho, ge, ap⟩ _ rfl
  have HT := Lib.hid h1; have HB := Lib.hid h2
  have HL := Lib.hid hl
  clear h1 h2 h3 hl
  go_enter Tryd.func63, Tryd.ntmps63
  go_upto_region 1 with (fail)
  change Code.wp _ _ _ _ (w.alloc (.cells (tlC A c ⟨rs, 1, ho, ge, ap⟩) 27))
  generalize w.alloc (.cells (tlC A c ⟨rs, 1, ho, ge, ap⟩) 27) = w0 at *
  have c0 : w0.cell? ⟨w.heap.size, 0, none⟩ = some (.slice A rs.length c) := HT.out.cell 0
  have c1 : w0.cell? ⟨w.heap.size, 1, none⟩ = some (.int .i64 1) := HT.out.cell 1
  have c2 : w0.cell? ⟨w.heap.size, 2, none⟩ = some (.string ho) := HT.out.cell 2
  have c3 : w0.cell? ⟨w.heap.size, 3, none⟩ = some (.int .u32 ge) := HT.out.cell 3
  have c4 : w0.cell? ⟨w.heap.size, 4, none⟩ = some (.bool ap) := HT.out.cell 4
  go_wp2_with (fail)
  go_ret
  exact ⟨rfl, HB.out⟩
set_option maxHeartbeats 1000000 in
theorem refHolds_2 (A : Option Addr) (c : Nat) (rs : List Rg) (ho : ByteArray) (ge : Int) (ap : Bool) (h : ByteArray) (w : World) (hl : Rgs w A rs) :
    Calls Tryd.prog 63 #[tlV A c ⟨rs, 2, ho, ge, ap⟩, .string h] w fun e w' => e = .returned (.bool (holdsB ⟨rs, 2, ho, ge, ap⟩ h)) ∧ Below w.heap.size w w' := by
  have hf : (ho.toList == h.toList) = holdsB ⟨rs, 2, ho, ge, ap⟩ h := eqS_comm ho h
  generalize holdsB ⟨rs, 2, ho, ge, ap⟩ h = r at *
  obtain ⟨h1, h2, h3⟩ := tl_box w A c ⟨rs, 2, ho, ge, ap⟩ _ rfl
  have HT := Lib.hid h1; have HB := Lib.hid h2
  have HL := Lib.hid hl
  clear h1 h2 h3 hl
  go_enter Tryd.func63, Tryd.ntmps63
  go_upto_region 1 with (fail)
  change Code.wp _ _ _ _ (w.alloc (.cells (tlC A c ⟨rs, 2, ho, ge, ap⟩) 27))
  generalize w.alloc (.cells (tlC A c ⟨rs, 2, ho, ge, ap⟩) 27) = w0 at *
  have c0 : w0.cell? ⟨w.heap.size, 0, none⟩ = some (.slice A rs.length c) := HT.out.cell 0
  have c1 : w0.cell? ⟨w.heap.size, 1, none⟩ = some (.int .i64 2) := HT.out.cell 1
  have c2 : w0.cell? ⟨w.heap.size, 2, none⟩ = some (.string ho) := HT.out.cell 2
  have c3 : w0.cell? ⟨w.heap.size, 3, none⟩ = some (.int .u32 ge) := HT.out.cell 3
  have c4 : w0.cell? ⟨w.heap.size, 4, none⟩ = some (.bool ap) := HT.out.cell 4
  go_wp2_with (fail)
  go_ret
  exact ⟨rfl, HB.out⟩
set_option maxHeartbeats 1000000 in
theorem refHolds_3 (A : Option Addr) (c : Nat) (rs : List Rg) (ho : ByteArray) (ge : Int) (ap : Bool) (h : ByteArray) (w : World) (hl : Rgs w A rs) :
    Calls Tryd.prog 63 #[tlV A c ⟨rs, 3, ho, ge, ap⟩, .string h] w fun e w' => e = .returned (.bool (holdsB ⟨rs, 3, ho, ge, ap⟩ h)) ∧ Below w.heap.size w w' := by
  have hf : (ho.toList == h.toList) = holdsB ⟨rs, 3, ho, ge, ap⟩ h := eqS_comm ho h
  generalize holdsB ⟨rs, 3, ho, ge, ap⟩ h = r at *
  obtain ⟨h1, h2, h3⟩ := tl_box w A c ⟨rs, 3, ho, ge, ap⟩ _ rfl
  have HT := Lib.hid h1; have HB := Lib.hid h2
  have HL := Lib.hid hl
  clear h1 h2 h3 hl
  go_enter Tryd.func63, Tryd.ntmps63
  go_upto_region 1 with (fail)
  change Code.wp _ _ _ _ (w.alloc (.cells (tlC A c ⟨rs, 3, ho, ge, ap⟩) 27))
  generalize w.alloc (.cells (tlC A c ⟨rs, 3, ho, ge, ap⟩) 27) = w0 at *
  have c0 : w0.cell? ⟨w.heap.size, 0, none⟩ = some (.slice A rs.length c) := HT.out.cell 0
  have c1 : w0.cell? ⟨w.heap.size, 1, none⟩ = some (.int .i64 3) := HT.out.cell 1
  have c2 : w0.cell? ⟨w.heap.size, 2, none⟩ = some (.string ho) := HT.out.cell 2
  have c3 : w0.cell? ⟨w.heap.size, 3, none⟩ = some (.int .u32 ge) := HT.out.cell 3
  have c4 : w0.cell? ⟨w.heap.size, 4, none⟩ = some (.bool ap) := HT.out.cell 4
  go_wp2_with (fail)
  go_ret
  exact ⟨rfl, HB.out⟩
set_option maxHeartbeats 1000000 in
theorem refHolds_4 (A : Option Addr) (c : Nat) (rs : List Rg) (ho : ByteArray) (ge : Int) (ap : Bool) (h : ByteArray) (w : World) (hl : Rgs w A rs) :
    Calls Tryd.prog 63 #[tlV A c ⟨rs, 4, ho, ge, ap⟩, .string h] w fun e w' => e = .returned (.bool (holdsB ⟨rs, 4, ho, ge, ap⟩ h)) ∧ Below w.heap.size w w' := by
  have hf : (ho.toList == h.toList) = holdsB ⟨rs, 4, ho, ge, ap⟩ h := eqS_comm ho h
  generalize holdsB ⟨rs, 4, ho, ge, ap⟩ h = r at *
  obtain ⟨h1, h2, h3⟩ := tl_box w A c ⟨rs, 4, ho, ge, ap⟩ _ rfl
  have HT := Lib.hid h1; have HB := Lib.hid h2
  have HL := Lib.hid hl
  clear h1 h2 h3 hl
  go_enter Tryd.func63, Tryd.ntmps63
  go_upto_region 1 with (fail)
  change Code.wp _ _ _ _ (w.alloc (.cells (tlC A c ⟨rs, 4, ho, ge, ap⟩) 27))
  generalize w.alloc (.cells (tlC A c ⟨rs, 4, ho, ge, ap⟩) 27) = w0 at *
  have c0 : w0.cell? ⟨w.heap.size, 0, none⟩ = some (.slice A rs.length c) := HT.out.cell 0
  have c1 : w0.cell? ⟨w.heap.size, 1, none⟩ = some (.int .i64 4) := HT.out.cell 1
  have c2 : w0.cell? ⟨w.heap.size, 2, none⟩ = some (.string ho) := HT.out.cell 2
  have c3 : w0.cell? ⟨w.heap.size, 3, none⟩ = some (.int .u32 ge) := HT.out.cell 3
  have c4 : w0.cell? ⟨w.heap.size, 4, none⟩ = some (.bool ap) := HT.out.cell 4
  go_wp2_with (fail)
  go_ret
  exact ⟨rfl, HB.out⟩
set_option maxHeartbeats 1000000 in
theorem refHolds_5 (A : Option Addr) (c : Nat) (rs : List Rg) (ho : ByteArray) (ge : Int) (ap : Bool) (h : ByteArray) (w : World) (hl : Rgs w A rs) (hm : rs.length ≤ maxLen) :
    Calls Tryd.prog 63 #[tlV A c ⟨rs, 5, ho, ge, ap⟩, .string h] w fun e w' => e = .returned (.bool (holdsB ⟨rs, 5, ho, ge, ap⟩ h)) ∧ Below w.heap.size w w' := by
  have HI := Lib.hid (fun v (hv : Rgs v A rs) => refReg_any A c ⟨rs, 5, ho, ge, ap⟩ h v hv hm)
  have hf : regB rs h = holdsB ⟨rs, 5, ho, ge, ap⟩ h := rfl
  simp only [hf] at HI
  generalize holdsB ⟨rs, 5, ho, ge, ap⟩ h = r at *
  clear hf
  obtain ⟨h1, h2, h3⟩ := tl_box w A c ⟨rs, 5, ho, ge, ap⟩ _ rfl
  have HT := Lib.hid h1; have HB := Lib.hid h2
  have HL := Lib.hid hl
  clear h1 h2 h3 hl
  go_enter Tryd.func63, Tryd.ntmps63
  go_upto_region 1 with (fail)
  change Code.wp _ _ _ _ (w.alloc (.cells (tlC A c ⟨rs, 5, ho, ge, ap⟩) 27))
  generalize w.alloc (.cells (tlC A c ⟨rs, 5, ho, ge, ap⟩) 27) = w0 at *
  have c0 : w0.cell? ⟨w.heap.size, 0, none⟩ = some (.slice A rs.length c) := HT.out.cell 0
  have c1 : w0.cell? ⟨w.heap.size, 1, none⟩ = some (.int .i64 5) := HT.out.cell 1
  have c2 : w0.cell? ⟨w.heap.size, 2, none⟩ = some (.string ho) := HT.out.cell 2
  have c3 : w0.cell? ⟨w.heap.size, 3, none⟩ = some (.int .u32 ge) := HT.out.cell 3
  have c4 : w0.cell? ⟨w.heap.size, 4, none⟩ = some (.bool ap) := HT.out.cell 4
  go_wp2_with (fail)
  refine (HI.out _ (HL.out.below HB.out)).mono ?_; rintro e w1 ⟨rfl, hb1⟩
  go_wp2_with (fail)
  go_ret
  exact ⟨rfl, HB.out.trans (hb1.mono HB.out.size)⟩
set_option maxHeartbeats 1000000 in
theorem refHolds_6 (A : Option Addr) (c : Nat) (rs : List Rg) (ho : ByteArray) (ge : Int) (ap : Bool) (h : ByteArray) (w : World) (hl : Rgs w A rs) (hm : rs.length ≤ maxLen) :
    Calls Tryd.prog 63 #[tlV A c ⟨rs, 6, ho, ge, ap⟩, .string h] w fun e w' => e = .returned (.bool (holdsB ⟨rs, 6, ho, ge, ap⟩ h)) ∧ Below w.heap.size w w' := by
  have HI := Lib.hid (fun v (hv : Rgs v A rs) => refReg_any A c ⟨rs, 6, ho, ge, ap⟩ h v hv hm)
  have hf : regB rs h = holdsB ⟨rs, 6, ho, ge, ap⟩ h := rfl
  simp only [hf] at HI
  generalize holdsB ⟨rs, 6, ho, ge, ap⟩ h = r at *
  clear hf
  obtain ⟨h1, h2, h3⟩ := tl_box w A c ⟨rs, 6, ho, ge, ap⟩ _ rfl
  have HT := Lib.hid h1; have HB := Lib.hid h2
  have HL := Lib.hid hl
  clear h1 h2 h3 hl
  go_enter Tryd.func63, Tryd.ntmps63
  go_upto_region 1 with (fail)
  change Code.wp _ _ _ _ (w.alloc (.cells (tlC A c ⟨rs, 6, ho, ge, ap⟩) 27))
  generalize w.alloc (.cells (tlC A c ⟨rs, 6, ho, ge, ap⟩) 27) = w0 at *
  have c0 : w0.cell? ⟨w.heap.size, 0, none⟩ = some (.slice A rs.length c) := HT.out.cell 0
  have c1 : w0.cell? ⟨w.heap.size, 1, none⟩ = some (.int .i64 6) := HT.out.cell 1
  have c2 : w0.cell? ⟨w.heap.size, 2, none⟩ = some (.string ho) := HT.out.cell 2
  have c3 : w0.cell? ⟨w.heap.size, 3, none⟩ = some (.int .u32 ge) := HT.out.cell 3
  have c4 : w0.cell? ⟨w.heap.size, 4, none⟩ = some (.bool ap) := HT.out.cell 4
  go_wp2_with (fail)
  refine (HI.out _ (HL.out.below HB.out)).mono ?_; rintro e w1 ⟨rfl, hb1⟩
  go_wp2_with (fail)
  go_ret
  exact ⟨rfl, HB.out.trans (hb1.mono HB.out.size)⟩
set_option maxHeartbeats 1000000 in
theorem refHolds_no (A : Option Addr) (c : Nat) (rs : List Rg) (n : Int) (ho : ByteArray) (ge : Int) (ap : Bool) (h : ByteArray) (w : World) (hl : Rgs w A rs) (hn : typeB n = false) :
    Calls Tryd.prog 63 #[tlV A c ⟨rs, n, ho, ge, ap⟩, .string h] w fun e w' => e = .returned (.bool (holdsB ⟨rs, n, ho, ge, ap⟩ h)) ∧ Below w.heap.size w w' := by
  have hf : holdsB ⟨rs, n, ho, ge, ap⟩ h = false := by unfold holdsB kindN; simp only [hn]; rfl
  rw [hf]
  clear hf
  have hn' := of_decide_eq_false hn
  have e1 : (n == 1) = false := by rw [int_beq]; exact decide_eq_false (by omega)
  have e2 : (n == 2) = false := by rw [int_beq]; exact decide_eq_false (by omega)
  have e3 : (n == 3) = false := by rw [int_beq]; exact decide_eq_false (by omega)
  have e4 : (n == 4) = false := by rw [int_beq]; exact decide_eq_false (by omega)
  have e5 : (n == 5) = false := by rw [int_beq]; exact decide_eq_false (by omega)
  have e6 : (n == 6) = false := by rw [int_beq]; exact decide_eq_false (by omega)
  clear hn hn'
  obtain ⟨h1, h2, h3⟩ := tl_box w A c ⟨rs, n, ho, ge, ap⟩ _ rfl
  have HT := Lib.hid h1; have HB := Lib.hid h2
  have HL := Lib.hid hl
  clear h1 h2 h3 hl
  go_enter Tryd.func63, Tryd.ntmps63
  go_upto_region 1 with (fail)
  change Code.wp _ _ _ _ (w.alloc (.cells (tlC A c ⟨rs, n, ho, ge, ap⟩) 27))
  generalize w.alloc (.cells (tlC A c ⟨rs, n, ho, ge, ap⟩) 27) = w0 at *
  have c0 : w0.cell? ⟨w.heap.size, 0, none⟩ = some (.slice A rs.length c) := HT.out.cell 0
  have c1 : w0.cell? ⟨w.heap.size, 1, none⟩ = some (.int .i64 n) := HT.out.cell 1
  have c2 : w0.cell? ⟨w.heap.size, 2, none⟩ = some (.string ho) := HT.out.cell 2
  have c3 : w0.cell? ⟨w.heap.size, 3, none⟩ = some (.int .u32 ge) := HT.out.cell 3
  have c4 : w0.cell? ⟨w.heap.size, 4, none⟩ = some (.bool ap) := HT.out.cell 4
  go_wp2_with (fail)
  go_ret
  exact ⟨rfl, HB.out⟩
theorem refHolds_any (A : Option Addr) (c : Nat) (t : Tl) (h : ByteArray) (w : World) (hl : Rgs w A t.rs) (hm : t.rs.length ≤ maxLen) :
    Calls Tryd.prog 63 #[tlV A c t, .string h] w fun e w' => e = .returned (.bool (holdsB t h)) ∧ Below w.heap.size w w' := by
  obtain ⟨rs, n, ho, ge, ap⟩ := t
  cases hn : typeB n with
  | false => exact refHolds_no A c rs n ho ge ap h w hl hn
  | true =>
    have := of_decide_eq_true hn
    rcases (show n = 1 ∨ n = 2 ∨ n = 3 ∨ n = 4 ∨ n = 5 ∨ n = 6 by omega) with rfl | rfl | rfl | rfl | rfl | rfl
    · exact refHolds_1 A c rs ho ge ap h w hl
    · exact refHolds_2 A c rs ho ge ap h w hl
    · exact refHolds_3 A c rs ho ge ap h w hl
    · exact refHolds_4 A c rs ho ge ap h w hl
    · exact refHolds_5 A c rs ho ge ap h w hl hm
    · exact refHolds_6 A c rs ho ge ap h w hl hm
theorem mayB_eq (t : Tl) (h : ByteArray) (op : Int) : mayB t h op = (holdsB t h || hasB (othV (kindN t.ty) op) t h) := rfl
theorem oth_reads (k : Nat) (op : Int) (hr : readsB op = true) : othV k op = gR k := by unfold othV; rw [if_pos hr]
theorem oth_changes (k : Nat) (op : Int) (hr : readsB op = false) (hc : changesB op = true) : othV k op = gC k := by unfold othV; rw [if_neg (by rw [hr]; decide), if_pos hc]
theorem oth_else (k : Nat) (op : Int) (hr : readsB op = false) (hc : changesB op = false) : othV k op = 3 := by unfold othV; rw [if_neg (by rw [hr]; decide), if_neg (by rw [hc]; decide)]
theorem oth_zero (op : Int) : othV 0 op = 3 := by
  by_cases hr : readsB op = true
  · unfold othV; rw [if_pos hr]; rfl
  · by_cases hc : changesB op = true
    · unfold othV; rw [if_neg hr, if_pos hc]; rfl
    · unfold othV; rw [if_neg hr, if_neg hc]
theorem has3 (t : Tl) (h : ByteArray) : hasB 3 t h = true := rfl
theorem has2 (t : Tl) (h : ByteArray) : hasB 2 t h = regB t.rs h := rfl
theorem has0 (t : Tl) (h : ByteArray) : hasB 0 t h = false := rfl
theorem mayB_no (t : Tl) (h : ByteArray) (op : Int) (hn : typeB t.ty = false) : mayB t h op = true := by
  rw [mayB_eq, show kindN t.ty = 0 by unfold kindN; rw [if_neg (by rw [hn]; decide)], oth_zero, has3, Bool.or_true]
theorem mayB_else (t : Tl) (h : ByteArray) (op : Int) (hr : readsB op = false) (hc : changesB op = false) : mayB t h op = true := by
  rw [mayB_eq, oth_else _ _ hr hc, has3, Bool.or_true]
theorem mayB_holds (t : Tl) (h : ByteArray) (op : Int) (hh : holdsB t h = true) : mayB t h op = true := by rw [mayB_eq, hh, Bool.true_or]
theorem kindN_of (n : Int) (hn : typeB n = true) : kindN n = n.toNat := by unfold kindN; rw [if_pos hn]
theorem neB {n k : Int} (h : (n == k) = false) : n ≠ k := by rw [int_beq] at h; exact of_decide_eq_false h
theorem eqB {n k : Int} (h : (n == k) = true) : n = k := by rw [int_beq] at h; exact of_decide_eq_true h
theorem mayB_reads (t : Tl) (h : ByteArray) (op : Int) (hr : readsB op = true) (hh : holdsB t h = false) : mayB t h op = hasB (gR (kindN t.ty)) t h := by
  rw [mayB_eq, hh, oth_reads _ _ hr, Bool.false_or]
theorem mayB_changes (t : Tl) (h : ByteArray) (op : Int) (hr : readsB op = false) (hc : changesB op = true) (hh : holdsB t h = false) : mayB t h op = hasB (gC (kindN t.ty)) t h := by
  rw [mayB_eq, hh, oth_changes _ _ hr hc, Bool.false_or]
end Go.Proofs.YtgekadfkokkapaaDoor
