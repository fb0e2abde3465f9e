/- What the document makes of any text: the paths of its Parse. -/
import Derived.Test.YtaachlijpgmjeaaDoorCdH
namespace Go.Proofs.YtaachlijpgmjeaaDoor
open Go.RowKit
theorem numS_lo {s : ByteArray} {a n : Nat} (h : big s a n < 2147483648) : numS s a n = big s a n := by unfold numS; rw [if_neg (by omega)]
theorem numS_hi {s : ByteArray} {a n : Nat} (h : 2147483648 ≤ big s a n) : 2147483648 ≤ numS s a n := by unfold numS; split <;> omega
theorem bitI (y : Nat) : (((y : Int) / 8 % 2) == 1) = (y / 8 % 2 == 1) := by
  rw [beqI]
  by_cases h : y / 8 % 2 = 1
  · rw [decide_eq_true (by omega)]; exact (beq_iff_eq.2 h).symm
  · rw [decide_eq_false (by omega)]; exact (beq_eq_false_iff_ne.2 h).symm
set_option maxRecDepth 100000 in
set_option maxHeartbeats 8000000 in
theorem rp_0 (s : ByteArray) (w : World) (hz : s.size = 6) (hb : byt s 0 = 0) (hl : byt s 5 = 0)  : Calls Tryd.prog 10 #[.string s] w (AskOut (some { zA with op := 0 }) w) := by
  have HLS := Lib.hid (show lenS s = 6 by rw [lenS_yes (by omega), hb]; rfl)
  have HLC := Lib.hid (fun v => refLen_any s v)
  have HN := Lib.hid (fun (a n : Nat) v h1 h8 ha => refNum_any s a n v (by unfold maxLen; omega) h1 h8 ha)
  have HS := Lib.hid (fun (a n : Nat) (h : n ≤ 4) => numS_small (s := s) (a := a) (n := n) h)
  have HZ := Lib.hid hz
  have hzi : (s.size : Int) = 6 := by rw [hz]; rfl
  have i0 := index_byt s 0 0 rfl (by omega)
  have i1 := index_byt s 1 1 rfl (by omega)
  have i2 := index_byt s 2 2 rfl (by omega)
  have il := index_byt s 5 5 rfl (by omega)
  have b1 := byt_lt s 1
  have b2 := byt_lt s 2
  rw [hb] at i0
  rw [hl] at il
  generalize byt s 1 = y at *
  generalize byt s 2 = z at *
  skip
  clear hb hz hl
  have h0 := Blk.new w 28 (akC zA)
  have hbl := (Below.refl w.heap.size w).alloc (Nat.le_refl _) (.cells (akC zA) 28)
  go_enter Tryd.func10, Tryd.ntmps10
  go_upto_region 1 with (fail)
  change Code.wp _ _ _ _ (w.alloc (.cells (akC zA) 28))
  obtain ⟨pr, hpr⟩ : ∃ pr, pr = w.heap.size := ⟨_, rfl⟩
  have HR := Lib.hid h0; have HBL := Lib.hid hbl; have HPR := Lib.hid hpr
  clear h0 hbl
  generalize w.alloc (.cells (akC zA) 28) = va at *
  rw [← hpr] at HR ⊢
  clear hpr
  go_wp2_with (fail)
  refine (HLC.out va).mono ?_; rintro e vb ⟨rfl, hb⟩
  rw [HLS.out]
  have HR1 := Lib.hid (HR.out.below hb HR.out.lt); have HB1 := Lib.hid (HBL.out.trans (hb.mono HBL.out.size))
  clear hb HR HBL HLC
  go_upto_region 5 with (fail)
  change Code.wp _ _ _ _ (vb.alloc (.cells (akC { zA with op := 0 }) 28))
  have hal := (Below.refl vb.heap.size vb).alloc (Nat.le_refl _) (.cells (akC { zA with op := 0 }) 28)
  obtain ⟨x0, hx0⟩ : ∃ x : Ak, x = { zA with op := 0 } := ⟨_, rfl⟩
  obtain ⟨pa, hpa⟩ : ∃ pa, pa = vb.heap.size := ⟨_, rfl⟩
  have H0 := Lib.hid (PaAt.mk (Blk.new vb 28 (akC { zA with op := 0 })) (HR1.out.alloc _) (HB1.out.trans (hal.mono HB1.out.size)) HB1.out.size (by rw [HPR.out]; exact Nat.le_refl _) (Nat.ne_of_gt HR1.out.lt))
  generalize vb.alloc (.cells (akC { zA with op := 0 }) 28) = v0 at *
  rw [← hx0] at H0
  rw [← hpa] at H0 ⊢
  have HX0 := Lib.hid hx0
  clear hal hpa hx0 HR1 HB1
  have c0 : v0.cell? ⟨pa, 0, none⟩ = some (.int .i64 x0.op) := H0.out.a.cell 0
  have c1 : v0.cell? ⟨pa, 1, none⟩ = some (.int .i64 x0.lba) := H0.out.a.cell 1
  have c2 : v0.cell? ⟨pa, 2, none⟩ = some (.int .i64 x0.blk) := H0.out.a.cell 2
  have c3 : v0.cell? ⟨pa, 3, none⟩ = some (.bool x0.fu) := H0.out.a.cell 3
  have c4 : v0.cell? ⟨pa, 4, none⟩ = some (.int .i64 x0.page) := H0.out.a.cell 4
  have c5 : v0.cell? ⟨pa, 5, none⟩ = some (.int .i64 x0.want) := H0.out.a.cell 5
  have c6 : v0.cell? ⟨pa, 6, none⟩ = some (.int .i64 x0.ty) := H0.out.a.cell 6
  have r0 : v0.cell? ⟨pr, 0, none⟩ = some (.int .i64 0) := H0.out.r.cell 0
  have g0 := H0.out.r.free 0
  have r1 : v0.cell? ⟨pr, 1, none⟩ = some (.int .i64 0) := H0.out.r.cell 1
  have g1 := H0.out.r.free 1
  have r2 : v0.cell? ⟨pr, 2, none⟩ = some (.int .i64 0) := H0.out.r.cell 2
  have g2 := H0.out.r.free 2
  have r3 : v0.cell? ⟨pr, 3, none⟩ = some (.bool false) := H0.out.r.cell 3
  have g3 := H0.out.r.free 3
  have r4 : v0.cell? ⟨pr, 4, none⟩ = some (.int .i64 0) := H0.out.r.cell 4
  have g4 := H0.out.r.free 4
  have r5 : v0.cell? ⟨pr, 5, none⟩ = some (.int .i64 0) := H0.out.r.cell 5
  have g5 := H0.out.r.free 5
  have r6 : v0.cell? ⟨pr, 6, none⟩ = some (.int .i64 0) := H0.out.r.cell 6
  have g6 := H0.out.r.free 6
  go_wp2_with (fail)
  obtain ⟨hK, hO⟩ := ak_put H0.out.r x0 _ rfl
  refine bodyPost_ret_by (results_row1 rfl _ _ pr 28 (akC x0) (0, 0) _ rfl hK Tryd.underlying28 rfl sizeR) rfl ?_
  have hfin : x0 = { zA with op := 0 } := by
    rw [HX0.out]
    skip
  exact ⟨by rw [hfin]; rfl, H0.out.fin hO⟩
set_option maxRecDepth 100000 in
set_option maxHeartbeats 8000000 in
theorem rp_37 (s : ByteArray) (w : World) (hz : s.size = 10) (hb : byt s 0 = 37) (hl : byt s 9 = 0)  : Calls Tryd.prog 10 #[.string s] w (AskOut (some { zA with op := 37 }) w) := by
  have HLS := Lib.hid (show lenS s = 10 by rw [lenS_yes (by omega), hb]; rfl)
  have HLC := Lib.hid (fun v => refLen_any s v)
  have HN := Lib.hid (fun (a n : Nat) v h1 h8 ha => refNum_any s a n v (by unfold maxLen; omega) h1 h8 ha)
  have HS := Lib.hid (fun (a n : Nat) (h : n ≤ 4) => numS_small (s := s) (a := a) (n := n) h)
  have HZ := Lib.hid hz
  have hzi : (s.size : Int) = 10 := by rw [hz]; rfl
  have i0 := index_byt s 0 0 rfl (by omega)
  have i1 := index_byt s 1 1 rfl (by omega)
  have i2 := index_byt s 2 2 rfl (by omega)
  have il := index_byt s 9 9 rfl (by omega)
  have b1 := byt_lt s 1
  have b2 := byt_lt s 2
  rw [hb] at i0
  rw [hl] at il
  generalize byt s 1 = y at *
  generalize byt s 2 = z at *
  skip
  clear hb hz hl
  have h0 := Blk.new w 28 (akC zA)
  have hbl := (Below.refl w.heap.size w).alloc (Nat.le_refl _) (.cells (akC zA) 28)
  go_enter Tryd.func10, Tryd.ntmps10
  go_upto_region 1 with (fail)
  change Code.wp _ _ _ _ (w.alloc (.cells (akC zA) 28))
  obtain ⟨pr, hpr⟩ : ∃ pr, pr = w.heap.size := ⟨_, rfl⟩
  have HR := Lib.hid h0; have HBL := Lib.hid hbl; have HPR := Lib.hid hpr
  clear h0 hbl
  generalize w.alloc (.cells (akC zA) 28) = va at *
  rw [← hpr] at HR ⊢
  clear hpr
  go_wp2_with (fail)
  refine (HLC.out va).mono ?_; rintro e vb ⟨rfl, hb⟩
  rw [HLS.out]
  have HR1 := Lib.hid (HR.out.below hb HR.out.lt); have HB1 := Lib.hid (HBL.out.trans (hb.mono HBL.out.size))
  clear hb HR HBL HLC
  go_upto_region 5 with (fail)
  change Code.wp _ _ _ _ (vb.alloc (.cells (akC { zA with op := 37 }) 28))
  have hal := (Below.refl vb.heap.size vb).alloc (Nat.le_refl _) (.cells (akC { zA with op := 37 }) 28)
  obtain ⟨x0, hx0⟩ : ∃ x : Ak, x = { zA with op := 37 } := ⟨_, rfl⟩
  obtain ⟨pa, hpa⟩ : ∃ pa, pa = vb.heap.size := ⟨_, rfl⟩
  have H0 := Lib.hid (PaAt.mk (Blk.new vb 28 (akC { zA with op := 37 })) (HR1.out.alloc _) (HB1.out.trans (hal.mono HB1.out.size)) HB1.out.size (by rw [HPR.out]; exact Nat.le_refl _) (Nat.ne_of_gt HR1.out.lt))
  generalize vb.alloc (.cells (akC { zA with op := 37 }) 28) = v0 at *
  rw [← hx0] at H0
  rw [← hpa] at H0 ⊢
  have HX0 := Lib.hid hx0
  clear hal hpa hx0 HR1 HB1
  have c0 : v0.cell? ⟨pa, 0, none⟩ = some (.int .i64 x0.op) := H0.out.a.cell 0
  have c1 : v0.cell? ⟨pa, 1, none⟩ = some (.int .i64 x0.lba) := H0.out.a.cell 1
  have c2 : v0.cell? ⟨pa, 2, none⟩ = some (.int .i64 x0.blk) := H0.out.a.cell 2
  have c3 : v0.cell? ⟨pa, 3, none⟩ = some (.bool x0.fu) := H0.out.a.cell 3
  have c4 : v0.cell? ⟨pa, 4, none⟩ = some (.int .i64 x0.page) := H0.out.a.cell 4
  have c5 : v0.cell? ⟨pa, 5, none⟩ = some (.int .i64 x0.want) := H0.out.a.cell 5
  have c6 : v0.cell? ⟨pa, 6, none⟩ = some (.int .i64 x0.ty) := H0.out.a.cell 6
  have r0 : v0.cell? ⟨pr, 0, none⟩ = some (.int .i64 0) := H0.out.r.cell 0
  have g0 := H0.out.r.free 0
  have r1 : v0.cell? ⟨pr, 1, none⟩ = some (.int .i64 0) := H0.out.r.cell 1
  have g1 := H0.out.r.free 1
  have r2 : v0.cell? ⟨pr, 2, none⟩ = some (.int .i64 0) := H0.out.r.cell 2
  have g2 := H0.out.r.free 2
  have r3 : v0.cell? ⟨pr, 3, none⟩ = some (.bool false) := H0.out.r.cell 3
  have g3 := H0.out.r.free 3
  have r4 : v0.cell? ⟨pr, 4, none⟩ = some (.int .i64 0) := H0.out.r.cell 4
  have g4 := H0.out.r.free 4
  have r5 : v0.cell? ⟨pr, 5, none⟩ = some (.int .i64 0) := H0.out.r.cell 5
  have g5 := H0.out.r.free 5
  have r6 : v0.cell? ⟨pr, 6, none⟩ = some (.int .i64 0) := H0.out.r.cell 6
  have g6 := H0.out.r.free 6
  go_wp2_with (fail)
  obtain ⟨hK, hO⟩ := ak_put H0.out.r x0 _ rfl
  refine bodyPost_ret_by (results_row1 rfl _ _ pr 28 (akC x0) (0, 0) _ rfl hK Tryd.underlying28 rfl sizeR) rfl ?_
  have hfin : x0 = { zA with op := 37 } := by
    rw [HX0.out]
    skip
  exact ⟨by rw [hfin]; rfl, H0.out.fin hO⟩
set_option maxRecDepth 100000 in
set_option maxHeartbeats 8000000 in
theorem rp_53 (s : ByteArray) (w : World) (hz : s.size = 10) (hb : byt s 0 = 53) (hl : byt s 9 = 0)  : Calls Tryd.prog 10 #[.string s] w (AskOut (some { zA with op := 53 }) w) := by
  have HLS := Lib.hid (show lenS s = 10 by rw [lenS_yes (by omega), hb]; rfl)
  have HLC := Lib.hid (fun v => refLen_any s v)
  have HN := Lib.hid (fun (a n : Nat) v h1 h8 ha => refNum_any s a n v (by unfold maxLen; omega) h1 h8 ha)
  have HS := Lib.hid (fun (a n : Nat) (h : n ≤ 4) => numS_small (s := s) (a := a) (n := n) h)
  have HZ := Lib.hid hz
  have hzi : (s.size : Int) = 10 := by rw [hz]; rfl
  have i0 := index_byt s 0 0 rfl (by omega)
  have i1 := index_byt s 1 1 rfl (by omega)
  have i2 := index_byt s 2 2 rfl (by omega)
  have il := index_byt s 9 9 rfl (by omega)
  have b1 := byt_lt s 1
  have b2 := byt_lt s 2
  rw [hb] at i0
  rw [hl] at il
  generalize byt s 1 = y at *
  generalize byt s 2 = z at *
  skip
  clear hb hz hl
  have h0 := Blk.new w 28 (akC zA)
  have hbl := (Below.refl w.heap.size w).alloc (Nat.le_refl _) (.cells (akC zA) 28)
  go_enter Tryd.func10, Tryd.ntmps10
  go_upto_region 1 with (fail)
  change Code.wp _ _ _ _ (w.alloc (.cells (akC zA) 28))
  obtain ⟨pr, hpr⟩ : ∃ pr, pr = w.heap.size := ⟨_, rfl⟩
  have HR := Lib.hid h0; have HBL := Lib.hid hbl; have HPR := Lib.hid hpr
  clear h0 hbl
  generalize w.alloc (.cells (akC zA) 28) = va at *
  rw [← hpr] at HR ⊢
  clear hpr
  go_wp2_with (fail)
  refine (HLC.out va).mono ?_; rintro e vb ⟨rfl, hb⟩
  rw [HLS.out]
  have HR1 := Lib.hid (HR.out.below hb HR.out.lt); have HB1 := Lib.hid (HBL.out.trans (hb.mono HBL.out.size))
  clear hb HR HBL HLC
  go_upto_region 5 with (fail)
  change Code.wp _ _ _ _ (vb.alloc (.cells (akC { zA with op := 53 }) 28))
  have hal := (Below.refl vb.heap.size vb).alloc (Nat.le_refl _) (.cells (akC { zA with op := 53 }) 28)
  obtain ⟨x0, hx0⟩ : ∃ x : Ak, x = { zA with op := 53 } := ⟨_, rfl⟩
  obtain ⟨pa, hpa⟩ : ∃ pa, pa = vb.heap.size := ⟨_, rfl⟩
  have H0 := Lib.hid (PaAt.mk (Blk.new vb 28 (akC { zA with op := 53 })) (HR1.out.alloc _) (HB1.out.trans (hal.mono HB1.out.size)) HB1.out.size (by rw [HPR.out]; exact Nat.le_refl _) (Nat.ne_of_gt HR1.out.lt))
  generalize vb.alloc (.cells (akC { zA with op := 53 }) 28) = v0 at *
  rw [← hx0] at H0
  rw [← hpa] at H0 ⊢
  have HX0 := Lib.hid hx0
  clear hal hpa hx0 HR1 HB1
  have c0 : v0.cell? ⟨pa, 0, none⟩ = some (.int .i64 x0.op) := H0.out.a.cell 0
  have c1 : v0.cell? ⟨pa, 1, none⟩ = some (.int .i64 x0.lba) := H0.out.a.cell 1
  have c2 : v0.cell? ⟨pa, 2, none⟩ = some (.int .i64 x0.blk) := H0.out.a.cell 2
  have c3 : v0.cell? ⟨pa, 3, none⟩ = some (.bool x0.fu) := H0.out.a.cell 3
  have c4 : v0.cell? ⟨pa, 4, none⟩ = some (.int .i64 x0.page) := H0.out.a.cell 4
  have c5 : v0.cell? ⟨pa, 5, none⟩ = some (.int .i64 x0.want) := H0.out.a.cell 5
  have c6 : v0.cell? ⟨pa, 6, none⟩ = some (.int .i64 x0.ty) := H0.out.a.cell 6
  have r0 : v0.cell? ⟨pr, 0, none⟩ = some (.int .i64 0) := H0.out.r.cell 0
  have g0 := H0.out.r.free 0
  have r1 : v0.cell? ⟨pr, 1, none⟩ = some (.int .i64 0) := H0.out.r.cell 1
  have g1 := H0.out.r.free 1
  have r2 : v0.cell? ⟨pr, 2, none⟩ = some (.int .i64 0) := H0.out.r.cell 2
  have g2 := H0.out.r.free 2
  have r3 : v0.cell? ⟨pr, 3, none⟩ = some (.bool false) := H0.out.r.cell 3
  have g3 := H0.out.r.free 3
  have r4 : v0.cell? ⟨pr, 4, none⟩ = some (.int .i64 0) := H0.out.r.cell 4
  have g4 := H0.out.r.free 4
  have r5 : v0.cell? ⟨pr, 5, none⟩ = some (.int .i64 0) := H0.out.r.cell 5
  have g5 := H0.out.r.free 5
  have r6 : v0.cell? ⟨pr, 6, none⟩ = some (.int .i64 0) := H0.out.r.cell 6
  have g6 := H0.out.r.free 6
  go_wp2_with (fail)
  obtain ⟨hK, hO⟩ := ak_put H0.out.r x0 _ rfl
  refine bodyPost_ret_by (results_row1 rfl _ _ pr 28 (akC x0) (0, 0) _ rfl hK Tryd.underlying28 rfl sizeR) rfl ?_
  have hfin : x0 = { zA with op := 53 } := by
    rw [HX0.out]
    skip
  exact ⟨by rw [hfin]; rfl, H0.out.fin hO⟩
set_option maxRecDepth 100000 in
set_option maxHeartbeats 8000000 in
theorem rp_18a (s : ByteArray) (w : World) (hz : s.size = 6) (hb : byt s 0 = 18) (hl : byt s 5 = 0) (hy : byt s 1 % 2 = 1) : Calls Tryd.prog 10 #[.string s] w (AskOut (some { zA with op := 18, page := ((256 + byt s 2 : Nat) : Int), want := big s 3 2 }) w) := by
  have HLS := Lib.hid (show lenS s = 6 by rw [lenS_yes (by omega), hb]; rfl)
  have HLC := Lib.hid (fun v => refLen_any s v)
  have HN := Lib.hid (fun (a n : Nat) v h1 h8 ha => refNum_any s a n v (by unfold maxLen; omega) h1 h8 ha)
  have HS := Lib.hid (fun (a n : Nat) (h : n ≤ 4) => numS_small (s := s) (a := a) (n := n) h)
  have HZ := Lib.hid hz
  have hzi : (s.size : Int) = 6 := by rw [hz]; rfl
  have i0 := index_byt s 0 0 rfl (by omega)
  have i1 := index_byt s 1 1 rfl (by omega)
  have i2 := index_byt s 2 2 rfl (by omega)
  have il := index_byt s 5 5 rfl (by omega)
  have b1 := byt_lt s 1
  have b2 := byt_lt s 2
  rw [hb] at i0
  rw [hl] at il
  generalize byt s 1 = y at *
  generalize byt s 2 = z at *
  have HY := Lib.hid hy; clear hy
  clear hb hz hl
  have h0 := Blk.new w 28 (akC zA)
  have hbl := (Below.refl w.heap.size w).alloc (Nat.le_refl _) (.cells (akC zA) 28)
  go_enter Tryd.func10, Tryd.ntmps10
  go_upto_region 1 with (fail)
  change Code.wp _ _ _ _ (w.alloc (.cells (akC zA) 28))
  obtain ⟨pr, hpr⟩ : ∃ pr, pr = w.heap.size := ⟨_, rfl⟩
  have HR := Lib.hid h0; have HBL := Lib.hid hbl; have HPR := Lib.hid hpr
  clear h0 hbl
  generalize w.alloc (.cells (akC zA) 28) = va at *
  rw [← hpr] at HR ⊢
  clear hpr
  go_wp2_with (fail)
  refine (HLC.out va).mono ?_; rintro e vb ⟨rfl, hb⟩
  rw [HLS.out]
  have HR1 := Lib.hid (HR.out.below hb HR.out.lt); have HB1 := Lib.hid (HBL.out.trans (hb.mono HBL.out.size))
  clear hb HR HBL HLC
  go_upto_region 5 with (fail)
  change Code.wp _ _ _ _ (vb.alloc (.cells (akC { zA with op := 18 }) 28))
  have hal := (Below.refl vb.heap.size vb).alloc (Nat.le_refl _) (.cells (akC { zA with op := 18 }) 28)
  obtain ⟨x0, hx0⟩ : ∃ x : Ak, x = { zA with op := 18 } := ⟨_, rfl⟩
  obtain ⟨pa, hpa⟩ : ∃ pa, pa = vb.heap.size := ⟨_, rfl⟩
  have H0 := Lib.hid (PaAt.mk (Blk.new vb 28 (akC { zA with op := 18 })) (HR1.out.alloc _) (HB1.out.trans (hal.mono HB1.out.size)) HB1.out.size (by rw [HPR.out]; exact Nat.le_refl _) (Nat.ne_of_gt HR1.out.lt))
  generalize vb.alloc (.cells (akC { zA with op := 18 }) 28) = v0 at *
  rw [← hx0] at H0
  rw [← hpa] at H0 ⊢
  have HX0 := Lib.hid hx0
  clear hal hpa hx0 HR1 HB1
  have q1 : ((y : Int) % 2 == 1) = true := by rw [beqI]; exact decide_eq_true (by have := HY.out; omega)
  have c4 : v0.cell? ⟨pa, 4, none⟩ = some (.int .i64 x0.page) := H0.out.a.cell 4
  have f4 := H0.out.a.free 4
  go_upto_region 9 with (fail)
  obtain ⟨x1, hx1⟩ : ∃ x : Ak, x = { x0 with page := 256 + (z : Int) } := ⟨_, rfl⟩
  have H1 := Lib.hid (H0.out.set 4 (.int .i64 (256 + (z : Int))) x1 (by rw [hx1]; rfl))
  have HX1 := Lib.hid hx1; clear hx1 c4 f4 
  generalize v0.setCell ⟨pa, 4, none⟩ (.int .i64 (256 + (z : Int))) = v1 at *
  go_wp2_with (fail)
  refine (HN.out 3 2 v1 (by decide) (by decide) (by rw [HZ.out]; decide)).mono ?_; rintro e v2 ⟨rfl, hb⟩
  have H2 := Lib.hid (H1.out.below hb); clear hb
  obtain ⟨x2, hx2⟩ : ∃ x : Ak, x = x1 := ⟨_, rfl⟩
  rw [← hx2] at H2
  have HX2 := Lib.hid hx2; clear hx2
  rw [HS.out 3 2 (by decide)]
  have c5 : v2.cell? ⟨pa, 5, none⟩ = some (.int .i64 x2.want) := H2.out.a.cell 5
  have f5 := H2.out.a.free 5
  go_upto_region 30 with (fail)
  obtain ⟨x3, hx3⟩ : ∃ x : Ak, x = { x2 with want := (big s 3 2 : Int) } := ⟨_, rfl⟩
  have H3 := Lib.hid (H2.out.set 5 (.int .i64 (big s 3 2 : Int)) x3 (by rw [hx3]; rfl))
  have HX3 := Lib.hid hx3; clear hx3 c5 f5 
  generalize v2.setCell ⟨pa, 5, none⟩ (.int .i64 (big s 3 2 : Int)) = v3 at *
  have c0 : v3.cell? ⟨pa, 0, none⟩ = some (.int .i64 x3.op) := H3.out.a.cell 0
  have c1 : v3.cell? ⟨pa, 1, none⟩ = some (.int .i64 x3.lba) := H3.out.a.cell 1
  have c2 : v3.cell? ⟨pa, 2, none⟩ = some (.int .i64 x3.blk) := H3.out.a.cell 2
  have c3 : v3.cell? ⟨pa, 3, none⟩ = some (.bool x3.fu) := H3.out.a.cell 3
  have c4 : v3.cell? ⟨pa, 4, none⟩ = some (.int .i64 x3.page) := H3.out.a.cell 4
  have c5 : v3.cell? ⟨pa, 5, none⟩ = some (.int .i64 x3.want) := H3.out.a.cell 5
  have c6 : v3.cell? ⟨pa, 6, none⟩ = some (.int .i64 x3.ty) := H3.out.a.cell 6
  have r0 : v3.cell? ⟨pr, 0, none⟩ = some (.int .i64 0) := H3.out.r.cell 0
  have g0 := H3.out.r.free 0
  have r1 : v3.cell? ⟨pr, 1, none⟩ = some (.int .i64 0) := H3.out.r.cell 1
  have g1 := H3.out.r.free 1
  have r2 : v3.cell? ⟨pr, 2, none⟩ = some (.int .i64 0) := H3.out.r.cell 2
  have g2 := H3.out.r.free 2
  have r3 : v3.cell? ⟨pr, 3, none⟩ = some (.bool false) := H3.out.r.cell 3
  have g3 := H3.out.r.free 3
  have r4 : v3.cell? ⟨pr, 4, none⟩ = some (.int .i64 0) := H3.out.r.cell 4
  have g4 := H3.out.r.free 4
  have r5 : v3.cell? ⟨pr, 5, none⟩ = some (.int .i64 0) := H3.out.r.cell 5
  have g5 := H3.out.r.free 5
  have r6 : v3.cell? ⟨pr, 6, none⟩ = some (.int .i64 0) := H3.out.r.cell 6
  have g6 := H3.out.r.free 6
  go_wp2_with (fail)
  obtain ⟨hK, hO⟩ := ak_put H3.out.r x3 _ rfl
  refine bodyPost_ret_by (results_row1 rfl _ _ pr 28 (akC x3) (0, 0) _ rfl hK Tryd.underlying28 rfl sizeR) rfl ?_
  have hfin : x3 = { zA with op := 18, page := ((256 + z : Nat) : Int), want := big s 3 2 } := by
    rw [HX3.out, HX2.out, HX1.out, HX0.out]
    rw [show ((256 + z : Nat) : Int) = 256 + (z : Int) by omega]
  exact ⟨by rw [hfin]; rfl, H3.out.fin hO⟩
set_option maxRecDepth 100000 in
set_option maxHeartbeats 8000000 in
theorem rp_18b (s : ByteArray) (w : World) (hz : s.size = 6) (hb : byt s 0 = 18) (hl : byt s 5 = 0) (hy : byt s 1 % 2 ≠ 1) : Calls Tryd.prog 10 #[.string s] w (AskOut (some { zA with op := 18, want := big s 3 2 }) w) := by
  have HLS := Lib.hid (show lenS s = 6 by rw [lenS_yes (by omega), hb]; rfl)
  have HLC := Lib.hid (fun v => refLen_any s v)
  have HN := Lib.hid (fun (a n : Nat) v h1 h8 ha => refNum_any s a n v (by unfold maxLen; omega) h1 h8 ha)
  have HS := Lib.hid (fun (a n : Nat) (h : n ≤ 4) => numS_small (s := s) (a := a) (n := n) h)
  have HZ := Lib.hid hz
  have hzi : (s.size : Int) = 6 := by rw [hz]; rfl
  have i0 := index_byt s 0 0 rfl (by omega)
  have i1 := index_byt s 1 1 rfl (by omega)
  have i2 := index_byt s 2 2 rfl (by omega)
  have il := index_byt s 5 5 rfl (by omega)
  have b1 := byt_lt s 1
  have b2 := byt_lt s 2
  rw [hb] at i0
  rw [hl] at il
  generalize byt s 1 = y at *
  generalize byt s 2 = z at *
  have HY := Lib.hid hy; clear hy
  clear hb hz hl
  have h0 := Blk.new w 28 (akC zA)
  have hbl := (Below.refl w.heap.size w).alloc (Nat.le_refl _) (.cells (akC zA) 28)
  go_enter Tryd.func10, Tryd.ntmps10
  go_upto_region 1 with (fail)
  change Code.wp _ _ _ _ (w.alloc (.cells (akC zA) 28))
  obtain ⟨pr, hpr⟩ : ∃ pr, pr = w.heap.size := ⟨_, rfl⟩
  have HR := Lib.hid h0; have HBL := Lib.hid hbl; have HPR := Lib.hid hpr
  clear h0 hbl
  generalize w.alloc (.cells (akC zA) 28) = va at *
  rw [← hpr] at HR ⊢
  clear hpr
  go_wp2_with (fail)
  refine (HLC.out va).mono ?_; rintro e vb ⟨rfl, hb⟩
  rw [HLS.out]
  have HR1 := Lib.hid (HR.out.below hb HR.out.lt); have HB1 := Lib.hid (HBL.out.trans (hb.mono HBL.out.size))
  clear hb HR HBL HLC
  go_upto_region 5 with (fail)
  change Code.wp _ _ _ _ (vb.alloc (.cells (akC { zA with op := 18 }) 28))
  have hal := (Below.refl vb.heap.size vb).alloc (Nat.le_refl _) (.cells (akC { zA with op := 18 }) 28)
  obtain ⟨x0, hx0⟩ : ∃ x : Ak, x = { zA with op := 18 } := ⟨_, rfl⟩
  obtain ⟨pa, hpa⟩ : ∃ pa, pa = vb.heap.size := ⟨_, rfl⟩
  have H0 := Lib.hid (PaAt.mk (Blk.new vb 28 (akC { zA with op := 18 })) (HR1.out.alloc _) (HB1.out.trans (hal.mono HB1.out.size)) HB1.out.size (by rw [HPR.out]; exact Nat.le_refl _) (Nat.ne_of_gt HR1.out.lt))
  generalize vb.alloc (.cells (akC { zA with op := 18 }) 28) = v0 at *
  rw [← hx0] at H0
  rw [← hpa] at H0 ⊢
  have HX0 := Lib.hid hx0
  clear hal hpa hx0 HR1 HB1
  have q1 : ((y : Int) % 2 == 1) = false := by rw [beqI]; exact decide_eq_false (by have := HY.out; omega)
  go_wp2_with (fail)
  refine (HN.out 3 2 v0 (by decide) (by decide) (by rw [HZ.out]; decide)).mono ?_; rintro e v1 ⟨rfl, hb⟩
  have H1 := Lib.hid (H0.out.below hb); clear hb
  obtain ⟨x1, hx1⟩ : ∃ x : Ak, x = x0 := ⟨_, rfl⟩
  rw [← hx1] at H1
  have HX1 := Lib.hid hx1; clear hx1
  rw [HS.out 3 2 (by decide)]
  have c5 : v1.cell? ⟨pa, 5, none⟩ = some (.int .i64 x1.want) := H1.out.a.cell 5
  have f5 := H1.out.a.free 5
  go_upto_region 30 with (fail)
  obtain ⟨x2, hx2⟩ : ∃ x : Ak, x = { x1 with want := (big s 3 2 : Int) } := ⟨_, rfl⟩
  have H2 := Lib.hid (H1.out.set 5 (.int .i64 (big s 3 2 : Int)) x2 (by rw [hx2]; rfl))
  have HX2 := Lib.hid hx2; clear hx2 c5 f5 
  generalize v1.setCell ⟨pa, 5, none⟩ (.int .i64 (big s 3 2 : Int)) = v2 at *
  have c0 : v2.cell? ⟨pa, 0, none⟩ = some (.int .i64 x2.op) := H2.out.a.cell 0
  have c1 : v2.cell? ⟨pa, 1, none⟩ = some (.int .i64 x2.lba) := H2.out.a.cell 1
  have c2 : v2.cell? ⟨pa, 2, none⟩ = some (.int .i64 x2.blk) := H2.out.a.cell 2
  have c3 : v2.cell? ⟨pa, 3, none⟩ = some (.bool x2.fu) := H2.out.a.cell 3
  have c4 : v2.cell? ⟨pa, 4, none⟩ = some (.int .i64 x2.page) := H2.out.a.cell 4
  have c5 : v2.cell? ⟨pa, 5, none⟩ = some (.int .i64 x2.want) := H2.out.a.cell 5
  have c6 : v2.cell? ⟨pa, 6, none⟩ = some (.int .i64 x2.ty) := H2.out.a.cell 6
  have r0 : v2.cell? ⟨pr, 0, none⟩ = some (.int .i64 0) := H2.out.r.cell 0
  have g0 := H2.out.r.free 0
  have r1 : v2.cell? ⟨pr, 1, none⟩ = some (.int .i64 0) := H2.out.r.cell 1
  have g1 := H2.out.r.free 1
  have r2 : v2.cell? ⟨pr, 2, none⟩ = some (.int .i64 0) := H2.out.r.cell 2
  have g2 := H2.out.r.free 2
  have r3 : v2.cell? ⟨pr, 3, none⟩ = some (.bool false) := H2.out.r.cell 3
  have g3 := H2.out.r.free 3
  have r4 : v2.cell? ⟨pr, 4, none⟩ = some (.int .i64 0) := H2.out.r.cell 4
  have g4 := H2.out.r.free 4
  have r5 : v2.cell? ⟨pr, 5, none⟩ = some (.int .i64 0) := H2.out.r.cell 5
  have g5 := H2.out.r.free 5
  have r6 : v2.cell? ⟨pr, 6, none⟩ = some (.int .i64 0) := H2.out.r.cell 6
  have g6 := H2.out.r.free 6
  go_wp2_with (fail)
  obtain ⟨hK, hO⟩ := ak_put H2.out.r x2 _ rfl
  refine bodyPost_ret_by (results_row1 rfl _ _ pr 28 (akC x2) (0, 0) _ rfl hK Tryd.underlying28 rfl sizeR) rfl ?_
  have hfin : x2 = { zA with op := 18, want := big s 3 2 } := by
    rw [HX2.out, HX1.out, HX0.out]
    skip
  exact ⟨by rw [hfin]; rfl, H2.out.fin hO⟩
set_option maxRecDepth 100000 in
set_option maxHeartbeats 8000000 in
theorem rp_40 (s : ByteArray) (w : World) (hz : s.size = 10) (hb : byt s 0 = 40) (hl : byt s 9 = 0)  : Calls Tryd.prog 10 #[.string s] w (AskOut (some { zA with op := 40, lba := big s 2 4, blk := big s 7 2, fu := false }) w) := by
  have HLS := Lib.hid (show lenS s = 10 by rw [lenS_yes (by omega), hb]; rfl)
  have HLC := Lib.hid (fun v => refLen_any s v)
  have HN := Lib.hid (fun (a n : Nat) v h1 h8 ha => refNum_any s a n v (by unfold maxLen; omega) h1 h8 ha)
  have HS := Lib.hid (fun (a n : Nat) (h : n ≤ 4) => numS_small (s := s) (a := a) (n := n) h)
  have HZ := Lib.hid hz
  have hzi : (s.size : Int) = 10 := by rw [hz]; rfl
  have i0 := index_byt s 0 0 rfl (by omega)
  have i1 := index_byt s 1 1 rfl (by omega)
  have i2 := index_byt s 2 2 rfl (by omega)
  have il := index_byt s 9 9 rfl (by omega)
  have b1 := byt_lt s 1
  have b2 := byt_lt s 2
  rw [hb] at i0
  rw [hl] at il
  generalize byt s 1 = y at *
  generalize byt s 2 = z at *
  skip
  clear hb hz hl
  have h0 := Blk.new w 28 (akC zA)
  have hbl := (Below.refl w.heap.size w).alloc (Nat.le_refl _) (.cells (akC zA) 28)
  go_enter Tryd.func10, Tryd.ntmps10
  go_upto_region 1 with (fail)
  change Code.wp _ _ _ _ (w.alloc (.cells (akC zA) 28))
  obtain ⟨pr, hpr⟩ : ∃ pr, pr = w.heap.size := ⟨_, rfl⟩
  have HR := Lib.hid h0; have HBL := Lib.hid hbl; have HPR := Lib.hid hpr
  clear h0 hbl
  generalize w.alloc (.cells (akC zA) 28) = va at *
  rw [← hpr] at HR ⊢
  clear hpr
  go_wp2_with (fail)
  refine (HLC.out va).mono ?_; rintro e vb ⟨rfl, hb⟩
  rw [HLS.out]
  have HR1 := Lib.hid (HR.out.below hb HR.out.lt); have HB1 := Lib.hid (HBL.out.trans (hb.mono HBL.out.size))
  clear hb HR HBL HLC
  go_upto_region 5 with (fail)
  change Code.wp _ _ _ _ (vb.alloc (.cells (akC { zA with op := 40 }) 28))
  have hal := (Below.refl vb.heap.size vb).alloc (Nat.le_refl _) (.cells (akC { zA with op := 40 }) 28)
  obtain ⟨x0, hx0⟩ : ∃ x : Ak, x = { zA with op := 40 } := ⟨_, rfl⟩
  obtain ⟨pa, hpa⟩ : ∃ pa, pa = vb.heap.size := ⟨_, rfl⟩
  have H0 := Lib.hid (PaAt.mk (Blk.new vb 28 (akC { zA with op := 40 })) (HR1.out.alloc _) (HB1.out.trans (hal.mono HB1.out.size)) HB1.out.size (by rw [HPR.out]; exact Nat.le_refl _) (Nat.ne_of_gt HR1.out.lt))
  generalize vb.alloc (.cells (akC { zA with op := 40 }) 28) = v0 at *
  rw [← hx0] at H0
  rw [← hpa] at H0 ⊢
  have HX0 := Lib.hid hx0
  clear hal hpa hx0 HR1 HB1
  go_wp2_with (fail)
  refine (HN.out 2 4 v0 (by decide) (by decide) (by rw [HZ.out]; decide)).mono ?_; rintro e v1 ⟨rfl, hb⟩
  have H1 := Lib.hid (H0.out.below hb); clear hb
  obtain ⟨x1, hx1⟩ : ∃ x : Ak, x = x0 := ⟨_, rfl⟩
  rw [← hx1] at H1
  have HX1 := Lib.hid hx1; clear hx1
  rw [HS.out 2 4 (by decide)]
  go_wp2_with (fail)
  refine (HN.out 7 2 v1 (by decide) (by decide) (by rw [HZ.out]; decide)).mono ?_; rintro e v2 ⟨rfl, hb⟩
  have H2 := Lib.hid (H1.out.below hb); clear hb
  obtain ⟨x2, hx2⟩ : ∃ x : Ak, x = x1 := ⟨_, rfl⟩
  rw [← hx2] at H2
  have HX2 := Lib.hid hx2; clear hx2
  rw [HS.out 7 2 (by decide)]
  have c1 : v2.cell? ⟨pa, 1, none⟩ = some (.int .i64 x2.lba) := H2.out.a.cell 1
  have c2 : v2.cell? ⟨pa, 2, none⟩ = some (.int .i64 x2.blk) := H2.out.a.cell 2
  have f1 := H2.out.a.free 1
  have f2 := H2.out.a.free 2
  go_upto_region 13 with (fail)
  obtain ⟨x3, hx3⟩ : ∃ x : Ak, x = { { x2 with lba := (big s 2 4 : Int) } with blk := (big s 7 2 : Int) } := ⟨_, rfl⟩
  have H3 := Lib.hid ((H2.out.set 1 (.int .i64 (big s 2 4 : Int)) { x2 with lba := (big s 2 4 : Int) } rfl).set 2 (.int .i64 (big s 7 2 : Int)) x3 (by rw [hx3]; rfl))
  have HX3 := Lib.hid hx3; clear hx3 c1 f1 c2 f2
  generalize (v2.setCell ⟨pa, 1, none⟩ (.int .i64 (big s 2 4 : Int))).setCell ⟨pa, 2, none⟩ (.int .i64 (big s 7 2 : Int)) = v3 at *
  have c3 : v3.cell? ⟨pa, 3, none⟩ = some (.bool x3.fu) := H3.out.a.cell 3
  have f3 := H3.out.a.free 3
  go_upto_region 30 with (fail)
  obtain ⟨x4, hx4⟩ : ∃ x : Ak, x = { x3 with fu := false } := ⟨_, rfl⟩
  have H4 := Lib.hid (H3.out.set 3 (.bool false) x4 (by rw [hx4]; rfl))
  have HX4 := Lib.hid hx4; clear hx4 c3 f3 
  generalize v3.setCell ⟨pa, 3, none⟩ (.bool false) = v4 at *
  have c0 : v4.cell? ⟨pa, 0, none⟩ = some (.int .i64 x4.op) := H4.out.a.cell 0
  have c1 : v4.cell? ⟨pa, 1, none⟩ = some (.int .i64 x4.lba) := H4.out.a.cell 1
  have c2 : v4.cell? ⟨pa, 2, none⟩ = some (.int .i64 x4.blk) := H4.out.a.cell 2
  have c3 : v4.cell? ⟨pa, 3, none⟩ = some (.bool x4.fu) := H4.out.a.cell 3
  have c4 : v4.cell? ⟨pa, 4, none⟩ = some (.int .i64 x4.page) := H4.out.a.cell 4
  have c5 : v4.cell? ⟨pa, 5, none⟩ = some (.int .i64 x4.want) := H4.out.a.cell 5
  have c6 : v4.cell? ⟨pa, 6, none⟩ = some (.int .i64 x4.ty) := H4.out.a.cell 6
  have r0 : v4.cell? ⟨pr, 0, none⟩ = some (.int .i64 0) := H4.out.r.cell 0
  have g0 := H4.out.r.free 0
  have r1 : v4.cell? ⟨pr, 1, none⟩ = some (.int .i64 0) := H4.out.r.cell 1
  have g1 := H4.out.r.free 1
  have r2 : v4.cell? ⟨pr, 2, none⟩ = some (.int .i64 0) := H4.out.r.cell 2
  have g2 := H4.out.r.free 2
  have r3 : v4.cell? ⟨pr, 3, none⟩ = some (.bool false) := H4.out.r.cell 3
  have g3 := H4.out.r.free 3
  have r4 : v4.cell? ⟨pr, 4, none⟩ = some (.int .i64 0) := H4.out.r.cell 4
  have g4 := H4.out.r.free 4
  have r5 : v4.cell? ⟨pr, 5, none⟩ = some (.int .i64 0) := H4.out.r.cell 5
  have g5 := H4.out.r.free 5
  have r6 : v4.cell? ⟨pr, 6, none⟩ = some (.int .i64 0) := H4.out.r.cell 6
  have g6 := H4.out.r.free 6
  go_wp2_with (fail)
  obtain ⟨hK, hO⟩ := ak_put H4.out.r x4 _ rfl
  refine bodyPost_ret_by (results_row1 rfl _ _ pr 28 (akC x4) (0, 0) _ rfl hK Tryd.underlying28 rfl sizeR) rfl ?_
  have hfin : x4 = { zA with op := 40, lba := big s 2 4, blk := big s 7 2, fu := false } := by
    rw [HX4.out, HX3.out, HX2.out, HX1.out, HX0.out]
    skip
  exact ⟨by rw [hfin]; rfl, H4.out.fin hO⟩
set_option maxRecDepth 100000 in
set_option maxHeartbeats 8000000 in
theorem rp_42 (s : ByteArray) (w : World) (hz : s.size = 10) (hb : byt s 0 = 42) (hl : byt s 9 = 0)  : Calls Tryd.prog 10 #[.string s] w (AskOut (some { zA with op := 42, lba := big s 2 4, blk := big s 7 2, fu := byt s 1 / 8 % 2 == 1 }) w) := by
  have HLS := Lib.hid (show lenS s = 10 by rw [lenS_yes (by omega), hb]; rfl)
  have HLC := Lib.hid (fun v => refLen_any s v)
  have HN := Lib.hid (fun (a n : Nat) v h1 h8 ha => refNum_any s a n v (by unfold maxLen; omega) h1 h8 ha)
  have HS := Lib.hid (fun (a n : Nat) (h : n ≤ 4) => numS_small (s := s) (a := a) (n := n) h)
  have HZ := Lib.hid hz
  have hzi : (s.size : Int) = 10 := by rw [hz]; rfl
  have i0 := index_byt s 0 0 rfl (by omega)
  have i1 := index_byt s 1 1 rfl (by omega)
  have i2 := index_byt s 2 2 rfl (by omega)
  have il := index_byt s 9 9 rfl (by omega)
  have b1 := byt_lt s 1
  have b2 := byt_lt s 2
  rw [hb] at i0
  rw [hl] at il
  generalize byt s 1 = y at *
  generalize byt s 2 = z at *
  skip
  clear hb hz hl
  have h0 := Blk.new w 28 (akC zA)
  have hbl := (Below.refl w.heap.size w).alloc (Nat.le_refl _) (.cells (akC zA) 28)
  go_enter Tryd.func10, Tryd.ntmps10
  go_upto_region 1 with (fail)
  change Code.wp _ _ _ _ (w.alloc (.cells (akC zA) 28))
  obtain ⟨pr, hpr⟩ : ∃ pr, pr = w.heap.size := ⟨_, rfl⟩
  have HR := Lib.hid h0; have HBL := Lib.hid hbl; have HPR := Lib.hid hpr
  clear h0 hbl
  generalize w.alloc (.cells (akC zA) 28) = va at *
  rw [← hpr] at HR ⊢
  clear hpr
  go_wp2_with (fail)
  refine (HLC.out va).mono ?_; rintro e vb ⟨rfl, hb⟩
  rw [HLS.out]
  have HR1 := Lib.hid (HR.out.below hb HR.out.lt); have HB1 := Lib.hid (HBL.out.trans (hb.mono HBL.out.size))
  clear hb HR HBL HLC
  go_upto_region 5 with (fail)
  change Code.wp _ _ _ _ (vb.alloc (.cells (akC { zA with op := 42 }) 28))
  have hal := (Below.refl vb.heap.size vb).alloc (Nat.le_refl _) (.cells (akC { zA with op := 42 }) 28)
  obtain ⟨x0, hx0⟩ : ∃ x : Ak, x = { zA with op := 42 } := ⟨_, rfl⟩
  obtain ⟨pa, hpa⟩ : ∃ pa, pa = vb.heap.size := ⟨_, rfl⟩
  have H0 := Lib.hid (PaAt.mk (Blk.new vb 28 (akC { zA with op := 42 })) (HR1.out.alloc _) (HB1.out.trans (hal.mono HB1.out.size)) HB1.out.size (by rw [HPR.out]; exact Nat.le_refl _) (Nat.ne_of_gt HR1.out.lt))
  generalize vb.alloc (.cells (akC { zA with op := 42 }) 28) = v0 at *
  rw [← hx0] at H0
  rw [← hpa] at H0 ⊢
  have HX0 := Lib.hid hx0
  clear hal hpa hx0 HR1 HB1
  go_wp2_with (fail)
  refine (HN.out 2 4 v0 (by decide) (by decide) (by rw [HZ.out]; decide)).mono ?_; rintro e v1 ⟨rfl, hb⟩
  have H1 := Lib.hid (H0.out.below hb); clear hb
  obtain ⟨x1, hx1⟩ : ∃ x : Ak, x = x0 := ⟨_, rfl⟩
  rw [← hx1] at H1
  have HX1 := Lib.hid hx1; clear hx1
  rw [HS.out 2 4 (by decide)]
  go_wp2_with (fail)
  refine (HN.out 7 2 v1 (by decide) (by decide) (by rw [HZ.out]; decide)).mono ?_; rintro e v2 ⟨rfl, hb⟩
  have H2 := Lib.hid (H1.out.below hb); clear hb
  obtain ⟨x2, hx2⟩ : ∃ x : Ak, x = x1 := ⟨_, rfl⟩
  rw [← hx2] at H2
  have HX2 := Lib.hid hx2; clear hx2
  rw [HS.out 7 2 (by decide)]
  have c1 : v2.cell? ⟨pa, 1, none⟩ = some (.int .i64 x2.lba) := H2.out.a.cell 1
  have c2 : v2.cell? ⟨pa, 2, none⟩ = some (.int .i64 x2.blk) := H2.out.a.cell 2
  have f1 := H2.out.a.free 1
  have f2 := H2.out.a.free 2
  go_upto_region 13 with (fail)
  obtain ⟨x3, hx3⟩ : ∃ x : Ak, x = { { x2 with lba := (big s 2 4 : Int) } with blk := (big s 7 2 : Int) } := ⟨_, rfl⟩
  have H3 := Lib.hid ((H2.out.set 1 (.int .i64 (big s 2 4 : Int)) { x2 with lba := (big s 2 4 : Int) } rfl).set 2 (.int .i64 (big s 7 2 : Int)) x3 (by rw [hx3]; rfl))
  have HX3 := Lib.hid hx3; clear hx3 c1 f1 c2 f2
  generalize (v2.setCell ⟨pa, 1, none⟩ (.int .i64 (big s 2 4 : Int))).setCell ⟨pa, 2, none⟩ (.int .i64 (big s 7 2 : Int)) = v3 at *
  obtain ⟨fv, hfv⟩ : ∃ fv : Bool, (((y : Int) / 8 % 2) == 1) = fv := ⟨_, rfl⟩
  have c3 : v3.cell? ⟨pa, 3, none⟩ = some (.bool x3.fu) := H3.out.a.cell 3
  have f3 := H3.out.a.free 3
  go_upto_region 30 with (fail)
  obtain ⟨x4, hx4⟩ : ∃ x : Ak, x = { x3 with fu := fv } := ⟨_, rfl⟩
  have H4 := Lib.hid (H3.out.set 3 (.bool fv) x4 (by rw [hx4]; rfl))
  have HX4 := Lib.hid hx4; clear hx4 c3 f3 
  generalize v3.setCell ⟨pa, 3, none⟩ (.bool fv) = v4 at *
  have HFV := Lib.hid hfv; clear hfv
  have c0 : v4.cell? ⟨pa, 0, none⟩ = some (.int .i64 x4.op) := H4.out.a.cell 0
  have c1 : v4.cell? ⟨pa, 1, none⟩ = some (.int .i64 x4.lba) := H4.out.a.cell 1
  have c2 : v4.cell? ⟨pa, 2, none⟩ = some (.int .i64 x4.blk) := H4.out.a.cell 2
  have c3 : v4.cell? ⟨pa, 3, none⟩ = some (.bool x4.fu) := H4.out.a.cell 3
  have c4 : v4.cell? ⟨pa, 4, none⟩ = some (.int .i64 x4.page) := H4.out.a.cell 4
  have c5 : v4.cell? ⟨pa, 5, none⟩ = some (.int .i64 x4.want) := H4.out.a.cell 5
  have c6 : v4.cell? ⟨pa, 6, none⟩ = some (.int .i64 x4.ty) := H4.out.a.cell 6
  have r0 : v4.cell? ⟨pr, 0, none⟩ = some (.int .i64 0) := H4.out.r.cell 0
  have g0 := H4.out.r.free 0
  have r1 : v4.cell? ⟨pr, 1, none⟩ = some (.int .i64 0) := H4.out.r.cell 1
  have g1 := H4.out.r.free 1
  have r2 : v4.cell? ⟨pr, 2, none⟩ = some (.int .i64 0) := H4.out.r.cell 2
  have g2 := H4.out.r.free 2
  have r3 : v4.cell? ⟨pr, 3, none⟩ = some (.bool false) := H4.out.r.cell 3
  have g3 := H4.out.r.free 3
  have r4 : v4.cell? ⟨pr, 4, none⟩ = some (.int .i64 0) := H4.out.r.cell 4
  have g4 := H4.out.r.free 4
  have r5 : v4.cell? ⟨pr, 5, none⟩ = some (.int .i64 0) := H4.out.r.cell 5
  have g5 := H4.out.r.free 5
  have r6 : v4.cell? ⟨pr, 6, none⟩ = some (.int .i64 0) := H4.out.r.cell 6
  have g6 := H4.out.r.free 6
  go_wp2_with (fail)
  obtain ⟨hK, hO⟩ := ak_put H4.out.r x4 _ rfl
  refine bodyPost_ret_by (results_row1 rfl _ _ pr 28 (akC x4) (0, 0) _ rfl hK Tryd.underlying28 rfl sizeR) rfl ?_
  have hfin : x4 = { zA with op := 42, lba := big s 2 4, blk := big s 7 2, fu := y / 8 % 2 == 1 } := by
    rw [HX4.out, HX3.out, HX2.out, HX1.out, HX0.out]
    rw [← HFV.out, bitI]
  exact ⟨by rw [hfin]; rfl, H4.out.fin hO⟩
set_option maxRecDepth 100000 in
set_option maxHeartbeats 8000000 in
theorem rp_66 (s : ByteArray) (w : World) (hz : s.size = 10) (hb : byt s 0 = 66) (hl : byt s 9 = 0)  : Calls Tryd.prog 10 #[.string s] w (AskOut (some { zA with op := 66, want := big s 7 2 }) w) := by
  have HLS := Lib.hid (show lenS s = 10 by rw [lenS_yes (by omega), hb]; rfl)
  have HLC := Lib.hid (fun v => refLen_any s v)
  have HN := Lib.hid (fun (a n : Nat) v h1 h8 ha => refNum_any s a n v (by unfold maxLen; omega) h1 h8 ha)
  have HS := Lib.hid (fun (a n : Nat) (h : n ≤ 4) => numS_small (s := s) (a := a) (n := n) h)
  have HZ := Lib.hid hz
  have hzi : (s.size : Int) = 10 := by rw [hz]; rfl
  have i0 := index_byt s 0 0 rfl (by omega)
  have i1 := index_byt s 1 1 rfl (by omega)
  have i2 := index_byt s 2 2 rfl (by omega)
  have il := index_byt s 9 9 rfl (by omega)
  have b1 := byt_lt s 1
  have b2 := byt_lt s 2
  rw [hb] at i0
  rw [hl] at il
  generalize byt s 1 = y at *
  generalize byt s 2 = z at *
  skip
  clear hb hz hl
  have h0 := Blk.new w 28 (akC zA)
  have hbl := (Below.refl w.heap.size w).alloc (Nat.le_refl _) (.cells (akC zA) 28)
  go_enter Tryd.func10, Tryd.ntmps10
  go_upto_region 1 with (fail)
  change Code.wp _ _ _ _ (w.alloc (.cells (akC zA) 28))
  obtain ⟨pr, hpr⟩ : ∃ pr, pr = w.heap.size := ⟨_, rfl⟩
  have HR := Lib.hid h0; have HBL := Lib.hid hbl; have HPR := Lib.hid hpr
  clear h0 hbl
  generalize w.alloc (.cells (akC zA) 28) = va at *
  rw [← hpr] at HR ⊢
  clear hpr
  go_wp2_with (fail)
  refine (HLC.out va).mono ?_; rintro e vb ⟨rfl, hb⟩
  rw [HLS.out]
  have HR1 := Lib.hid (HR.out.below hb HR.out.lt); have HB1 := Lib.hid (HBL.out.trans (hb.mono HBL.out.size))
  clear hb HR HBL HLC
  go_upto_region 5 with (fail)
  change Code.wp _ _ _ _ (vb.alloc (.cells (akC { zA with op := 66 }) 28))
  have hal := (Below.refl vb.heap.size vb).alloc (Nat.le_refl _) (.cells (akC { zA with op := 66 }) 28)
  obtain ⟨x0, hx0⟩ : ∃ x : Ak, x = { zA with op := 66 } := ⟨_, rfl⟩
  obtain ⟨pa, hpa⟩ : ∃ pa, pa = vb.heap.size := ⟨_, rfl⟩
  have H0 := Lib.hid (PaAt.mk (Blk.new vb 28 (akC { zA with op := 66 })) (HR1.out.alloc _) (HB1.out.trans (hal.mono HB1.out.size)) HB1.out.size (by rw [HPR.out]; exact Nat.le_refl _) (Nat.ne_of_gt HR1.out.lt))
  generalize vb.alloc (.cells (akC { zA with op := 66 }) 28) = v0 at *
  rw [← hx0] at H0
  rw [← hpa] at H0 ⊢
  have HX0 := Lib.hid hx0
  clear hal hpa hx0 HR1 HB1
  go_wp2_with (fail)
  refine (HN.out 7 2 v0 (by decide) (by decide) (by rw [HZ.out]; decide)).mono ?_; rintro e v1 ⟨rfl, hb⟩
  have H1 := Lib.hid (H0.out.below hb); clear hb
  obtain ⟨x1, hx1⟩ : ∃ x : Ak, x = x0 := ⟨_, rfl⟩
  rw [← hx1] at H1
  have HX1 := Lib.hid hx1; clear hx1
  rw [HS.out 7 2 (by decide)]
  have c5 : v1.cell? ⟨pa, 5, none⟩ = some (.int .i64 x1.want) := H1.out.a.cell 5
  have f5 := H1.out.a.free 5
  go_upto_region 30 with (fail)
  obtain ⟨x2, hx2⟩ : ∃ x : Ak, x = { x1 with want := (big s 7 2 : Int) } := ⟨_, rfl⟩
  have H2 := Lib.hid (H1.out.set 5 (.int .i64 (big s 7 2 : Int)) x2 (by rw [hx2]; rfl))
  have HX2 := Lib.hid hx2; clear hx2 c5 f5 
  generalize v1.setCell ⟨pa, 5, none⟩ (.int .i64 (big s 7 2 : Int)) = v2 at *
  have c0 : v2.cell? ⟨pa, 0, none⟩ = some (.int .i64 x2.op) := H2.out.a.cell 0
  have c1 : v2.cell? ⟨pa, 1, none⟩ = some (.int .i64 x2.lba) := H2.out.a.cell 1
  have c2 : v2.cell? ⟨pa, 2, none⟩ = some (.int .i64 x2.blk) := H2.out.a.cell 2
  have c3 : v2.cell? ⟨pa, 3, none⟩ = some (.bool x2.fu) := H2.out.a.cell 3
  have c4 : v2.cell? ⟨pa, 4, none⟩ = some (.int .i64 x2.page) := H2.out.a.cell 4
  have c5 : v2.cell? ⟨pa, 5, none⟩ = some (.int .i64 x2.want) := H2.out.a.cell 5
  have c6 : v2.cell? ⟨pa, 6, none⟩ = some (.int .i64 x2.ty) := H2.out.a.cell 6
  have r0 : v2.cell? ⟨pr, 0, none⟩ = some (.int .i64 0) := H2.out.r.cell 0
  have g0 := H2.out.r.free 0
  have r1 : v2.cell? ⟨pr, 1, none⟩ = some (.int .i64 0) := H2.out.r.cell 1
  have g1 := H2.out.r.free 1
  have r2 : v2.cell? ⟨pr, 2, none⟩ = some (.int .i64 0) := H2.out.r.cell 2
  have g2 := H2.out.r.free 2
  have r3 : v2.cell? ⟨pr, 3, none⟩ = some (.bool false) := H2.out.r.cell 3
  have g3 := H2.out.r.free 3
  have r4 : v2.cell? ⟨pr, 4, none⟩ = some (.int .i64 0) := H2.out.r.cell 4
  have g4 := H2.out.r.free 4
  have r5 : v2.cell? ⟨pr, 5, none⟩ = some (.int .i64 0) := H2.out.r.cell 5
  have g5 := H2.out.r.free 5
  have r6 : v2.cell? ⟨pr, 6, none⟩ = some (.int .i64 0) := H2.out.r.cell 6
  have g6 := H2.out.r.free 6
  go_wp2_with (fail)
  obtain ⟨hK, hO⟩ := ak_put H2.out.r x2 _ rfl
  refine bodyPost_ret_by (results_row1 rfl _ _ pr 28 (akC x2) (0, 0) _ rfl hK Tryd.underlying28 rfl sizeR) rfl ?_
  have hfin : x2 = { zA with op := 66, want := big s 7 2 } := by
    rw [HX2.out, HX1.out, HX0.out]
    skip
  exact ⟨by rw [hfin]; rfl, H2.out.fin hO⟩
set_option maxRecDepth 100000 in
set_option maxHeartbeats 8000000 in
theorem rp_160 (s : ByteArray) (w : World) (hz : s.size = 12) (hb : byt s 0 = 160) (hl : byt s 11 = 0)  : Calls Tryd.prog 10 #[.string s] w (AskOut (some { zA with op := 160, want := big s 6 4 }) w) := by
  have HLS := Lib.hid (show lenS s = 12 by rw [lenS_yes (by omega), hb]; rfl)
  have HLC := Lib.hid (fun v => refLen_any s v)
  have HN := Lib.hid (fun (a n : Nat) v h1 h8 ha => refNum_any s a n v (by unfold maxLen; omega) h1 h8 ha)
  have HS := Lib.hid (fun (a n : Nat) (h : n ≤ 4) => numS_small (s := s) (a := a) (n := n) h)
  have HZ := Lib.hid hz
  have hzi : (s.size : Int) = 12 := by rw [hz]; rfl
  have i0 := index_byt s 0 0 rfl (by omega)
  have i1 := index_byt s 1 1 rfl (by omega)
  have i2 := index_byt s 2 2 rfl (by omega)
  have il := index_byt s 11 11 rfl (by omega)
  have b1 := byt_lt s 1
  have b2 := byt_lt s 2
  rw [hb] at i0
  rw [hl] at il
  generalize byt s 1 = y at *
  generalize byt s 2 = z at *
  skip
  clear hb hz hl
  have h0 := Blk.new w 28 (akC zA)
  have hbl := (Below.refl w.heap.size w).alloc (Nat.le_refl _) (.cells (akC zA) 28)
  go_enter Tryd.func10, Tryd.ntmps10
  go_upto_region 1 with (fail)
  change Code.wp _ _ _ _ (w.alloc (.cells (akC zA) 28))
  obtain ⟨pr, hpr⟩ : ∃ pr, pr = w.heap.size := ⟨_, rfl⟩
  have HR := Lib.hid h0; have HBL := Lib.hid hbl; have HPR := Lib.hid hpr
  clear h0 hbl
  generalize w.alloc (.cells (akC zA) 28) = va at *
  rw [← hpr] at HR ⊢
  clear hpr
  go_wp2_with (fail)
  refine (HLC.out va).mono ?_; rintro e vb ⟨rfl, hb⟩
  rw [HLS.out]
  have HR1 := Lib.hid (HR.out.below hb HR.out.lt); have HB1 := Lib.hid (HBL.out.trans (hb.mono HBL.out.size))
  clear hb HR HBL HLC
  go_upto_region 5 with (fail)
  change Code.wp _ _ _ _ (vb.alloc (.cells (akC { zA with op := 160 }) 28))
  have hal := (Below.refl vb.heap.size vb).alloc (Nat.le_refl _) (.cells (akC { zA with op := 160 }) 28)
  obtain ⟨x0, hx0⟩ : ∃ x : Ak, x = { zA with op := 160 } := ⟨_, rfl⟩
  obtain ⟨pa, hpa⟩ : ∃ pa, pa = vb.heap.size := ⟨_, rfl⟩
  have H0 := Lib.hid (PaAt.mk (Blk.new vb 28 (akC { zA with op := 160 })) (HR1.out.alloc _) (HB1.out.trans (hal.mono HB1.out.size)) HB1.out.size (by rw [HPR.out]; exact Nat.le_refl _) (Nat.ne_of_gt HR1.out.lt))
  generalize vb.alloc (.cells (akC { zA with op := 160 }) 28) = v0 at *
  rw [← hx0] at H0
  rw [← hpa] at H0 ⊢
  have HX0 := Lib.hid hx0
  clear hal hpa hx0 HR1 HB1
  go_wp2_with (fail)
  refine (HN.out 6 4 v0 (by decide) (by decide) (by rw [HZ.out]; decide)).mono ?_; rintro e v1 ⟨rfl, hb⟩
  have H1 := Lib.hid (H0.out.below hb); clear hb
  obtain ⟨x1, hx1⟩ : ∃ x : Ak, x = x0 := ⟨_, rfl⟩
  rw [← hx1] at H1
  have HX1 := Lib.hid hx1; clear hx1
  rw [HS.out 6 4 (by decide)]
  have c5 : v1.cell? ⟨pa, 5, none⟩ = some (.int .i64 x1.want) := H1.out.a.cell 5
  have f5 := H1.out.a.free 5
  go_upto_region 30 with (fail)
  obtain ⟨x2, hx2⟩ : ∃ x : Ak, x = { x1 with want := (big s 6 4 : Int) } := ⟨_, rfl⟩
  have H2 := Lib.hid (H1.out.set 5 (.int .i64 (big s 6 4 : Int)) x2 (by rw [hx2]; rfl))
  have HX2 := Lib.hid hx2; clear hx2 c5 f5 
  generalize v1.setCell ⟨pa, 5, none⟩ (.int .i64 (big s 6 4 : Int)) = v2 at *
  have c0 : v2.cell? ⟨pa, 0, none⟩ = some (.int .i64 x2.op) := H2.out.a.cell 0
  have c1 : v2.cell? ⟨pa, 1, none⟩ = some (.int .i64 x2.lba) := H2.out.a.cell 1
  have c2 : v2.cell? ⟨pa, 2, none⟩ = some (.int .i64 x2.blk) := H2.out.a.cell 2
  have c3 : v2.cell? ⟨pa, 3, none⟩ = some (.bool x2.fu) := H2.out.a.cell 3
  have c4 : v2.cell? ⟨pa, 4, none⟩ = some (.int .i64 x2.page) := H2.out.a.cell 4
  have c5 : v2.cell? ⟨pa, 5, none⟩ = some (.int .i64 x2.want) := H2.out.a.cell 5
  have c6 : v2.cell? ⟨pa, 6, none⟩ = some (.int .i64 x2.ty) := H2.out.a.cell 6
  have r0 : v2.cell? ⟨pr, 0, none⟩ = some (.int .i64 0) := H2.out.r.cell 0
  have g0 := H2.out.r.free 0
  have r1 : v2.cell? ⟨pr, 1, none⟩ = some (.int .i64 0) := H2.out.r.cell 1
  have g1 := H2.out.r.free 1
  have r2 : v2.cell? ⟨pr, 2, none⟩ = some (.int .i64 0) := H2.out.r.cell 2
  have g2 := H2.out.r.free 2
  have r3 : v2.cell? ⟨pr, 3, none⟩ = some (.bool false) := H2.out.r.cell 3
  have g3 := H2.out.r.free 3
  have r4 : v2.cell? ⟨pr, 4, none⟩ = some (.int .i64 0) := H2.out.r.cell 4
  have g4 := H2.out.r.free 4
  have r5 : v2.cell? ⟨pr, 5, none⟩ = some (.int .i64 0) := H2.out.r.cell 5
  have g5 := H2.out.r.free 5
  have r6 : v2.cell? ⟨pr, 6, none⟩ = some (.int .i64 0) := H2.out.r.cell 6
  have g6 := H2.out.r.free 6
  go_wp2_with (fail)
  obtain ⟨hK, hO⟩ := ak_put H2.out.r x2 _ rfl
  refine bodyPost_ret_by (results_row1 rfl _ _ pr 28 (akC x2) (0, 0) _ rfl hK Tryd.underlying28 rfl sizeR) rfl ?_
  have hfin : x2 = { zA with op := 160, want := big s 6 4 } := by
    rw [HX2.out, HX1.out, HX0.out]
    skip
  exact ⟨by rw [hfin]; rfl, H2.out.fin hO⟩
set_option maxRecDepth 100000 in
set_option maxHeartbeats 8000000 in
theorem rp_136 (s : ByteArray) (w : World) (hz : s.size = 16) (hb : byt s 0 = 136) (hl : byt s 15 = 0) (hy : numS s 2 8 < 2147483648 ∧ big s 10 4 < 2147483648) : Calls Tryd.prog 10 #[.string s] w (AskOut (some { zA with op := 136, lba := numS s 2 8, blk := big s 10 4, fu := false }) w) := by
  have HLS := Lib.hid (show lenS s = 16 by rw [lenS_yes (by omega), hb]; rfl)
  have HLC := Lib.hid (fun v => refLen_any s v)
  have HN := Lib.hid (fun (a n : Nat) v h1 h8 ha => refNum_any s a n v (by unfold maxLen; omega) h1 h8 ha)
  have HS := Lib.hid (fun (a n : Nat) (h : n ≤ 4) => numS_small (s := s) (a := a) (n := n) h)
  have HZ := Lib.hid hz
  have hzi : (s.size : Int) = 16 := by rw [hz]; rfl
  have i0 := index_byt s 0 0 rfl (by omega)
  have i1 := index_byt s 1 1 rfl (by omega)
  have i2 := index_byt s 2 2 rfl (by omega)
  have il := index_byt s 15 15 rfl (by omega)
  have b1 := byt_lt s 1
  have b2 := byt_lt s 2
  rw [hb] at i0
  rw [hl] at il
  generalize byt s 1 = y at *
  generalize byt s 2 = z at *
  obtain ⟨l, hgl⟩ : ∃ l, l = numS s 2 8 := ⟨_, rfl⟩
  obtain ⟨k, hgk⟩ : ∃ k, k = big s 10 4 := ⟨_, rfl⟩
  rw [← hgl, ← hgk] at hy
  have HGL := Lib.hid hgl; have HGK := Lib.hid hgk; have HY := Lib.hid hy
  clear hy hgl hgk
  clear hb hz hl
  have h0 := Blk.new w 28 (akC zA)
  have hbl := (Below.refl w.heap.size w).alloc (Nat.le_refl _) (.cells (akC zA) 28)
  go_enter Tryd.func10, Tryd.ntmps10
  go_upto_region 1 with (fail)
  change Code.wp _ _ _ _ (w.alloc (.cells (akC zA) 28))
  obtain ⟨pr, hpr⟩ : ∃ pr, pr = w.heap.size := ⟨_, rfl⟩
  have HR := Lib.hid h0; have HBL := Lib.hid hbl; have HPR := Lib.hid hpr
  clear h0 hbl
  generalize w.alloc (.cells (akC zA) 28) = va at *
  rw [← hpr] at HR ⊢
  clear hpr
  go_wp2_with (fail)
  refine (HLC.out va).mono ?_; rintro e vb ⟨rfl, hb⟩
  rw [HLS.out]
  have HR1 := Lib.hid (HR.out.below hb HR.out.lt); have HB1 := Lib.hid (HBL.out.trans (hb.mono HBL.out.size))
  clear hb HR HBL HLC
  go_upto_region 5 with (fail)
  change Code.wp _ _ _ _ (vb.alloc (.cells (akC { zA with op := 136 }) 28))
  have hal := (Below.refl vb.heap.size vb).alloc (Nat.le_refl _) (.cells (akC { zA with op := 136 }) 28)
  obtain ⟨x0, hx0⟩ : ∃ x : Ak, x = { zA with op := 136 } := ⟨_, rfl⟩
  obtain ⟨pa, hpa⟩ : ∃ pa, pa = vb.heap.size := ⟨_, rfl⟩
  have H0 := Lib.hid (PaAt.mk (Blk.new vb 28 (akC { zA with op := 136 })) (HR1.out.alloc _) (HB1.out.trans (hal.mono HB1.out.size)) HB1.out.size (by rw [HPR.out]; exact Nat.le_refl _) (Nat.ne_of_gt HR1.out.lt))
  generalize vb.alloc (.cells (akC { zA with op := 136 }) 28) = v0 at *
  rw [← hx0] at H0
  rw [← hpa] at H0 ⊢
  have HX0 := Lib.hid hx0
  clear hal hpa hx0 HR1 HB1
  go_wp2_with (fail)
  refine (HN.out 2 8 v0 (by decide) (by decide) (by rw [HZ.out]; decide)).mono ?_; rintro e v1 ⟨rfl, hb⟩
  have H1 := Lib.hid (H0.out.below hb); clear hb
  obtain ⟨x1, hx1⟩ : ∃ x : Ak, x = x0 := ⟨_, rfl⟩
  rw [← hx1] at H1
  have HX1 := Lib.hid hx1; clear hx1
  rw [← HGL.out]
  go_wp2_with (fail)
  refine (HN.out 10 4 v1 (by decide) (by decide) (by rw [HZ.out]; decide)).mono ?_; rintro e v2 ⟨rfl, hb⟩
  have H2 := Lib.hid (H1.out.below hb); clear hb
  obtain ⟨x2, hx2⟩ : ∃ x : Ak, x = x1 := ⟨_, rfl⟩
  rw [← hx2] at H2
  have HX2 := Lib.hid hx2; clear hx2
  rw [HS.out 10 4 (by decide), ← HGK.out]
  have c1 : v2.cell? ⟨pa, 1, none⟩ = some (.int .i64 x2.lba) := H2.out.a.cell 1
  have c2 : v2.cell? ⟨pa, 2, none⟩ = some (.int .i64 x2.blk) := H2.out.a.cell 2
  have f1 := H2.out.a.free 1
  have f2 := H2.out.a.free 2
  go_upto_region 18 with (fail)
  obtain ⟨x3, hx3⟩ : ∃ x : Ak, x = { { x2 with lba := (l : Int) } with blk := (k : Int) } := ⟨_, rfl⟩
  have H3 := Lib.hid ((H2.out.set 1 (.int .i64 (l : Int)) { x2 with lba := (l : Int) } rfl).set 2 (.int .i64 (k : Int)) x3 (by rw [hx3]; rfl))
  have HX3 := Lib.hid hx3; clear hx3 c1 f1 c2 f2
  generalize (v2.setCell ⟨pa, 1, none⟩ (.int .i64 (l : Int))).setCell ⟨pa, 2, none⟩ (.int .i64 (k : Int)) = v3 at *
  have c3 : v3.cell? ⟨pa, 3, none⟩ = some (.bool x3.fu) := H3.out.a.cell 3
  have f3 := H3.out.a.free 3
  go_upto_region 19 with (fail)
  obtain ⟨x4, hx4⟩ : ∃ x : Ak, x = { x3 with fu := false } := ⟨_, rfl⟩
  have H4 := Lib.hid (H3.out.set 3 (.bool false) x4 (by rw [hx4]; rfl))
  have HX4 := Lib.hid hx4; clear hx4 c3 f3 
  generalize v3.setCell ⟨pa, 3, none⟩ (.bool false) = v4 at *
  have hlb : x4.lba = (l : Int) := by rw [HX4.out, HX3.out]
  have hbk : x4.blk = (k : Int) := by rw [HX4.out, HX3.out]
  have q2 : decide ((2147483648 : Int) ≤ x4.lba) = false := by rw [hlb]; exact decide_eq_false (by have := HY.out; omega)
  have q2p : ¬ (2147483648 : Int) ≤ x4.lba := by rw [hlb]; have := HY.out; omega
  have q3 : decide ((2147483648 : Int) ≤ x4.blk) = false := by rw [hbk]; exact decide_eq_false (by have := HY.out; omega)
  have q3p : ¬ (2147483648 : Int) ≤ x4.blk := by rw [hbk]; have := HY.out; omega
  clear hlb hbk
  have c1 : v4.cell? ⟨pa, 1, none⟩ = some (.int .i64 x4.lba) := H4.out.a.cell 1
  have c2 : v4.cell? ⟨pa, 2, none⟩ = some (.int .i64 x4.blk) := H4.out.a.cell 2
  go_upto_region 32 with (fail)
  clear c1 c2
  have c0 : v4.cell? ⟨pa, 0, none⟩ = some (.int .i64 x4.op) := H4.out.a.cell 0
  have c1 : v4.cell? ⟨pa, 1, none⟩ = some (.int .i64 x4.lba) := H4.out.a.cell 1
  have c2 : v4.cell? ⟨pa, 2, none⟩ = some (.int .i64 x4.blk) := H4.out.a.cell 2
  have c3 : v4.cell? ⟨pa, 3, none⟩ = some (.bool x4.fu) := H4.out.a.cell 3
  have c4 : v4.cell? ⟨pa, 4, none⟩ = some (.int .i64 x4.page) := H4.out.a.cell 4
  have c5 : v4.cell? ⟨pa, 5, none⟩ = some (.int .i64 x4.want) := H4.out.a.cell 5
  have c6 : v4.cell? ⟨pa, 6, none⟩ = some (.int .i64 x4.ty) := H4.out.a.cell 6
  have r0 : v4.cell? ⟨pr, 0, none⟩ = some (.int .i64 0) := H4.out.r.cell 0
  have g0 := H4.out.r.free 0
  have r1 : v4.cell? ⟨pr, 1, none⟩ = some (.int .i64 0) := H4.out.r.cell 1
  have g1 := H4.out.r.free 1
  have r2 : v4.cell? ⟨pr, 2, none⟩ = some (.int .i64 0) := H4.out.r.cell 2
  have g2 := H4.out.r.free 2
  have r3 : v4.cell? ⟨pr, 3, none⟩ = some (.bool false) := H4.out.r.cell 3
  have g3 := H4.out.r.free 3
  have r4 : v4.cell? ⟨pr, 4, none⟩ = some (.int .i64 0) := H4.out.r.cell 4
  have g4 := H4.out.r.free 4
  have r5 : v4.cell? ⟨pr, 5, none⟩ = some (.int .i64 0) := H4.out.r.cell 5
  have g5 := H4.out.r.free 5
  have r6 : v4.cell? ⟨pr, 6, none⟩ = some (.int .i64 0) := H4.out.r.cell 6
  have g6 := H4.out.r.free 6
  go_wp2_with (fail)
  obtain ⟨hK, hO⟩ := ak_put H4.out.r x4 _ rfl
  refine bodyPost_ret_by (results_row1 rfl _ _ pr 28 (akC x4) (0, 0) _ rfl hK Tryd.underlying28 rfl sizeR) rfl ?_
  have hfin : x4 = { zA with op := 136, lba := numS s 2 8, blk := big s 10 4, fu := false } := by
    rw [HX4.out, HX3.out, HX2.out, HX1.out, HX0.out]
    rw [HGL.out, HGK.out]
  exact ⟨by rw [hfin]; rfl, H4.out.fin hO⟩
set_option maxRecDepth 100000 in
set_option maxHeartbeats 8000000 in
theorem rp_136l (s : ByteArray) (w : World) (hz : s.size = 16) (hb : byt s 0 = 136) (hl : byt s 15 = 0) (hy : 2147483648 ≤ numS s 2 8 ∧ big s 10 4 = big s 10 4) : Calls Tryd.prog 10 #[.string s] w (AskOut (none) w) := by
  have HLS := Lib.hid (show lenS s = 16 by rw [lenS_yes (by omega), hb]; rfl)
  have HLC := Lib.hid (fun v => refLen_any s v)
  have HN := Lib.hid (fun (a n : Nat) v h1 h8 ha => refNum_any s a n v (by unfold maxLen; omega) h1 h8 ha)
  have HS := Lib.hid (fun (a n : Nat) (h : n ≤ 4) => numS_small (s := s) (a := a) (n := n) h)
  have HZ := Lib.hid hz
  have hzi : (s.size : Int) = 16 := by rw [hz]; rfl
  have i0 := index_byt s 0 0 rfl (by omega)
  have i1 := index_byt s 1 1 rfl (by omega)
  have i2 := index_byt s 2 2 rfl (by omega)
  have il := index_byt s 15 15 rfl (by omega)
  have b1 := byt_lt s 1
  have b2 := byt_lt s 2
  rw [hb] at i0
  rw [hl] at il
  generalize byt s 1 = y at *
  generalize byt s 2 = z at *
  obtain ⟨l, hgl⟩ : ∃ l, l = numS s 2 8 := ⟨_, rfl⟩
  obtain ⟨k, hgk⟩ : ∃ k, k = big s 10 4 := ⟨_, rfl⟩
  rw [← hgl, ← hgk] at hy
  have HGL := Lib.hid hgl; have HGK := Lib.hid hgk; have HY := Lib.hid hy
  clear hy hgl hgk
  clear hb hz hl
  have h0 := Blk.new w 28 (akC zA)
  have hbl := (Below.refl w.heap.size w).alloc (Nat.le_refl _) (.cells (akC zA) 28)
  go_enter Tryd.func10, Tryd.ntmps10
  go_upto_region 1 with (fail)
  change Code.wp _ _ _ _ (w.alloc (.cells (akC zA) 28))
  obtain ⟨pr, hpr⟩ : ∃ pr, pr = w.heap.size := ⟨_, rfl⟩
  have HR := Lib.hid h0; have HBL := Lib.hid hbl; have HPR := Lib.hid hpr
  clear h0 hbl
  generalize w.alloc (.cells (akC zA) 28) = va at *
  rw [← hpr] at HR ⊢
  clear hpr
  go_wp2_with (fail)
  refine (HLC.out va).mono ?_; rintro e vb ⟨rfl, hb⟩
  rw [HLS.out]
  have HR1 := Lib.hid (HR.out.below hb HR.out.lt); have HB1 := Lib.hid (HBL.out.trans (hb.mono HBL.out.size))
  clear hb HR HBL HLC
  go_upto_region 5 with (fail)
  change Code.wp _ _ _ _ (vb.alloc (.cells (akC { zA with op := 136 }) 28))
  have hal := (Below.refl vb.heap.size vb).alloc (Nat.le_refl _) (.cells (akC { zA with op := 136 }) 28)
  obtain ⟨x0, hx0⟩ : ∃ x : Ak, x = { zA with op := 136 } := ⟨_, rfl⟩
  obtain ⟨pa, hpa⟩ : ∃ pa, pa = vb.heap.size := ⟨_, rfl⟩
  have H0 := Lib.hid (PaAt.mk (Blk.new vb 28 (akC { zA with op := 136 })) (HR1.out.alloc _) (HB1.out.trans (hal.mono HB1.out.size)) HB1.out.size (by rw [HPR.out]; exact Nat.le_refl _) (Nat.ne_of_gt HR1.out.lt))
  generalize vb.alloc (.cells (akC { zA with op := 136 }) 28) = v0 at *
  rw [← hx0] at H0
  rw [← hpa] at H0 ⊢
  have HX0 := Lib.hid hx0
  clear hal hpa hx0 HR1 HB1
  go_wp2_with (fail)
  refine (HN.out 2 8 v0 (by decide) (by decide) (by rw [HZ.out]; decide)).mono ?_; rintro e v1 ⟨rfl, hb⟩
  have H1 := Lib.hid (H0.out.below hb); clear hb
  obtain ⟨x1, hx1⟩ : ∃ x : Ak, x = x0 := ⟨_, rfl⟩
  rw [← hx1] at H1
  have HX1 := Lib.hid hx1; clear hx1
  rw [← HGL.out]
  go_wp2_with (fail)
  refine (HN.out 10 4 v1 (by decide) (by decide) (by rw [HZ.out]; decide)).mono ?_; rintro e v2 ⟨rfl, hb⟩
  have H2 := Lib.hid (H1.out.below hb); clear hb
  obtain ⟨x2, hx2⟩ : ∃ x : Ak, x = x1 := ⟨_, rfl⟩
  rw [← hx2] at H2
  have HX2 := Lib.hid hx2; clear hx2
  rw [HS.out 10 4 (by decide), ← HGK.out]
  have c1 : v2.cell? ⟨pa, 1, none⟩ = some (.int .i64 x2.lba) := H2.out.a.cell 1
  have c2 : v2.cell? ⟨pa, 2, none⟩ = some (.int .i64 x2.blk) := H2.out.a.cell 2
  have f1 := H2.out.a.free 1
  have f2 := H2.out.a.free 2
  go_upto_region 18 with (fail)
  obtain ⟨x3, hx3⟩ : ∃ x : Ak, x = { { x2 with lba := (l : Int) } with blk := (k : Int) } := ⟨_, rfl⟩
  have H3 := Lib.hid ((H2.out.set 1 (.int .i64 (l : Int)) { x2 with lba := (l : Int) } rfl).set 2 (.int .i64 (k : Int)) x3 (by rw [hx3]; rfl))
  have HX3 := Lib.hid hx3; clear hx3 c1 f1 c2 f2
  generalize (v2.setCell ⟨pa, 1, none⟩ (.int .i64 (l : Int))).setCell ⟨pa, 2, none⟩ (.int .i64 (k : Int)) = v3 at *
  have c3 : v3.cell? ⟨pa, 3, none⟩ = some (.bool x3.fu) := H3.out.a.cell 3
  have f3 := H3.out.a.free 3
  go_upto_region 19 with (fail)
  obtain ⟨x4, hx4⟩ : ∃ x : Ak, x = { x3 with fu := false } := ⟨_, rfl⟩
  have H4 := Lib.hid (H3.out.set 3 (.bool false) x4 (by rw [hx4]; rfl))
  have HX4 := Lib.hid hx4; clear hx4 c3 f3 
  generalize v3.setCell ⟨pa, 3, none⟩ (.bool false) = v4 at *
  have hlb : x4.lba = (l : Int) := by rw [HX4.out, HX3.out]
  have hbk : x4.blk = (k : Int) := by rw [HX4.out, HX3.out]
  have q2 : decide ((2147483648 : Int) ≤ x4.lba) = true := by rw [hlb]; exact decide_eq_true (by have := HY.out; omega)
  have q2p : (2147483648 : Int) ≤ x4.lba := by rw [hlb]; have := HY.out; omega
  clear hlb hbk
  have c1 : v4.cell? ⟨pa, 1, none⟩ = some (.int .i64 x4.lba) := H4.out.a.cell 1
  have c2 : v4.cell? ⟨pa, 2, none⟩ = some (.int .i64 x4.blk) := H4.out.a.cell 2
  go_upto_region 31 with (fail)
  clear c1 c2
  have r0 : v4.cell? ⟨pr, 0, none⟩ = some (.int .i64 0) := H4.out.r.cell 0
  have g0 := H4.out.r.free 0
  have r1 : v4.cell? ⟨pr, 1, none⟩ = some (.int .i64 0) := H4.out.r.cell 1
  have g1 := H4.out.r.free 1
  have r2 : v4.cell? ⟨pr, 2, none⟩ = some (.int .i64 0) := H4.out.r.cell 2
  have g2 := H4.out.r.free 2
  have r3 : v4.cell? ⟨pr, 3, none⟩ = some (.bool false) := H4.out.r.cell 3
  have g3 := H4.out.r.free 3
  have r4 : v4.cell? ⟨pr, 4, none⟩ = some (.int .i64 0) := H4.out.r.cell 4
  have g4 := H4.out.r.free 4
  have r5 : v4.cell? ⟨pr, 5, none⟩ = some (.int .i64 0) := H4.out.r.cell 5
  have g5 := H4.out.r.free 5
  have r6 : v4.cell? ⟨pr, 6, none⟩ = some (.int .i64 0) := H4.out.r.cell 6
  have g6 := H4.out.r.free 6
  go_wp2_with (fail)
  obtain ⟨hK, hO⟩ := ak_put H4.out.r zA _ rfl
  refine bodyPost_ret_by (results_row1 rfl _ _ pr 28 (akC zA) (0, 0) _ rfl hK Tryd.underlying28 rfl sizeR) rfl ?_
  exact ⟨rfl, H4.out.fin hO⟩
set_option maxRecDepth 100000 in
set_option maxHeartbeats 8000000 in
theorem rp_136k (s : ByteArray) (w : World) (hz : s.size = 16) (hb : byt s 0 = 136) (hl : byt s 15 = 0) (hy : numS s 2 8 < 2147483648 ∧ 2147483648 ≤ big s 10 4) : Calls Tryd.prog 10 #[.string s] w (AskOut (none) w) := by
  have HLS := Lib.hid (show lenS s = 16 by rw [lenS_yes (by omega), hb]; rfl)
  have HLC := Lib.hid (fun v => refLen_any s v)
  have HN := Lib.hid (fun (a n : Nat) v h1 h8 ha => refNum_any s a n v (by unfold maxLen; omega) h1 h8 ha)
  have HS := Lib.hid (fun (a n : Nat) (h : n ≤ 4) => numS_small (s := s) (a := a) (n := n) h)
  have HZ := Lib.hid hz
  have hzi : (s.size : Int) = 16 := by rw [hz]; rfl
  have i0 := index_byt s 0 0 rfl (by omega)
  have i1 := index_byt s 1 1 rfl (by omega)
  have i2 := index_byt s 2 2 rfl (by omega)
  have il := index_byt s 15 15 rfl (by omega)
  have b1 := byt_lt s 1
  have b2 := byt_lt s 2
  rw [hb] at i0
  rw [hl] at il
  generalize byt s 1 = y at *
  generalize byt s 2 = z at *
  obtain ⟨l, hgl⟩ : ∃ l, l = numS s 2 8 := ⟨_, rfl⟩
  obtain ⟨k, hgk⟩ : ∃ k, k = big s 10 4 := ⟨_, rfl⟩
  rw [← hgl, ← hgk] at hy
  have HGL := Lib.hid hgl; have HGK := Lib.hid hgk; have HY := Lib.hid hy
  clear hy hgl hgk
  clear hb hz hl
  have h0 := Blk.new w 28 (akC zA)
  have hbl := (Below.refl w.heap.size w).alloc (Nat.le_refl _) (.cells (akC zA) 28)
  go_enter Tryd.func10, Tryd.ntmps10
  go_upto_region 1 with (fail)
  change Code.wp _ _ _ _ (w.alloc (.cells (akC zA) 28))
  obtain ⟨pr, hpr⟩ : ∃ pr, pr = w.heap.size := ⟨_, rfl⟩
  have HR := Lib.hid h0; have HBL := Lib.hid hbl; have HPR := Lib.hid hpr
  clear h0 hbl
  generalize w.alloc (.cells (akC zA) 28) = va at *
  rw [← hpr] at HR ⊢
  clear hpr
  go_wp2_with (fail)
  refine (HLC.out va).mono ?_; rintro e vb ⟨rfl, hb⟩
  rw [HLS.out]
  have HR1 := Lib.hid (HR.out.below hb HR.out.lt); have HB1 := Lib.hid (HBL.out.trans (hb.mono HBL.out.size))
  clear hb HR HBL HLC
  go_upto_region 5 with (fail)
  change Code.wp _ _ _ _ (vb.alloc (.cells (akC { zA with op := 136 }) 28))
  have hal := (Below.refl vb.heap.size vb).alloc (Nat.le_refl _) (.cells (akC { zA with op := 136 }) 28)
  obtain ⟨x0, hx0⟩ : ∃ x : Ak, x = { zA with op := 136 } := ⟨_, rfl⟩
  obtain ⟨pa, hpa⟩ : ∃ pa, pa = vb.heap.size := ⟨_, rfl⟩
  have H0 := Lib.hid (PaAt.mk (Blk.new vb 28 (akC { zA with op := 136 })) (HR1.out.alloc _) (HB1.out.trans (hal.mono HB1.out.size)) HB1.out.size (by rw [HPR.out]; exact Nat.le_refl _) (Nat.ne_of_gt HR1.out.lt))
  generalize vb.alloc (.cells (akC { zA with op := 136 }) 28) = v0 at *
  rw [← hx0] at H0
  rw [← hpa] at H0 ⊢
  have HX0 := Lib.hid hx0
  clear hal hpa hx0 HR1 HB1
  go_wp2_with (fail)
  refine (HN.out 2 8 v0 (by decide) (by decide) (by rw [HZ.out]; decide)).mono ?_; rintro e v1 ⟨rfl, hb⟩
  have H1 := Lib.hid (H0.out.below hb); clear hb
  obtain ⟨x1, hx1⟩ : ∃ x : Ak, x = x0 := ⟨_, rfl⟩
  rw [← hx1] at H1
  have HX1 := Lib.hid hx1; clear hx1
  rw [← HGL.out]
  go_wp2_with (fail)
  refine (HN.out 10 4 v1 (by decide) (by decide) (by rw [HZ.out]; decide)).mono ?_; rintro e v2 ⟨rfl, hb⟩
  have H2 := Lib.hid (H1.out.below hb); clear hb
  obtain ⟨x2, hx2⟩ : ∃ x : Ak, x = x1 := ⟨_, rfl⟩
  rw [← hx2] at H2
  have HX2 := Lib.hid hx2; clear hx2
  rw [HS.out 10 4 (by decide), ← HGK.out]
  have c1 : v2.cell? ⟨pa, 1, none⟩ = some (.int .i64 x2.lba) := H2.out.a.cell 1
  have c2 : v2.cell? ⟨pa, 2, none⟩ = some (.int .i64 x2.blk) := H2.out.a.cell 2
  have f1 := H2.out.a.free 1
  have f2 := H2.out.a.free 2
  go_upto_region 18 with (fail)
  obtain ⟨x3, hx3⟩ : ∃ x : Ak, x = { { x2 with lba := (l : Int) } with blk := (k : Int) } := ⟨_, rfl⟩
  have H3 := Lib.hid ((H2.out.set 1 (.int .i64 (l : Int)) { x2 with lba := (l : Int) } rfl).set 2 (.int .i64 (k : Int)) x3 (by rw [hx3]; rfl))
  have HX3 := Lib.hid hx3; clear hx3 c1 f1 c2 f2
  generalize (v2.setCell ⟨pa, 1, none⟩ (.int .i64 (l : Int))).setCell ⟨pa, 2, none⟩ (.int .i64 (k : Int)) = v3 at *
  have c3 : v3.cell? ⟨pa, 3, none⟩ = some (.bool x3.fu) := H3.out.a.cell 3
  have f3 := H3.out.a.free 3
  go_upto_region 19 with (fail)
  obtain ⟨x4, hx4⟩ : ∃ x : Ak, x = { x3 with fu := false } := ⟨_, rfl⟩
  have H4 := Lib.hid (H3.out.set 3 (.bool false) x4 (by rw [hx4]; rfl))
  have HX4 := Lib.hid hx4; clear hx4 c3 f3 
  generalize v3.setCell ⟨pa, 3, none⟩ (.bool false) = v4 at *
  have hlb : x4.lba = (l : Int) := by rw [HX4.out, HX3.out]
  have hbk : x4.blk = (k : Int) := by rw [HX4.out, HX3.out]
  have q2 : decide ((2147483648 : Int) ≤ x4.lba) = false := by rw [hlb]; exact decide_eq_false (by have := HY.out; omega)
  have q2p : ¬ (2147483648 : Int) ≤ x4.lba := by rw [hlb]; have := HY.out; omega
  have q3 : decide ((2147483648 : Int) ≤ x4.blk) = true := by rw [hbk]; exact decide_eq_true (by have := HY.out; omega)
  have q3p : (2147483648 : Int) ≤ x4.blk := by rw [hbk]; have := HY.out; omega
  clear hlb hbk
  have c1 : v4.cell? ⟨pa, 1, none⟩ = some (.int .i64 x4.lba) := H4.out.a.cell 1
  have c2 : v4.cell? ⟨pa, 2, none⟩ = some (.int .i64 x4.blk) := H4.out.a.cell 2
  go_upto_region 31 with (fail)
  clear c1 c2
  have r0 : v4.cell? ⟨pr, 0, none⟩ = some (.int .i64 0) := H4.out.r.cell 0
  have g0 := H4.out.r.free 0
  have r1 : v4.cell? ⟨pr, 1, none⟩ = some (.int .i64 0) := H4.out.r.cell 1
  have g1 := H4.out.r.free 1
  have r2 : v4.cell? ⟨pr, 2, none⟩ = some (.int .i64 0) := H4.out.r.cell 2
  have g2 := H4.out.r.free 2
  have r3 : v4.cell? ⟨pr, 3, none⟩ = some (.bool false) := H4.out.r.cell 3
  have g3 := H4.out.r.free 3
  have r4 : v4.cell? ⟨pr, 4, none⟩ = some (.int .i64 0) := H4.out.r.cell 4
  have g4 := H4.out.r.free 4
  have r5 : v4.cell? ⟨pr, 5, none⟩ = some (.int .i64 0) := H4.out.r.cell 5
  have g5 := H4.out.r.free 5
  have r6 : v4.cell? ⟨pr, 6, none⟩ = some (.int .i64 0) := H4.out.r.cell 6
  have g6 := H4.out.r.free 6
  go_wp2_with (fail)
  obtain ⟨hK, hO⟩ := ak_put H4.out.r zA _ rfl
  refine bodyPost_ret_by (results_row1 rfl _ _ pr 28 (akC zA) (0, 0) _ rfl hK Tryd.underlying28 rfl sizeR) rfl ?_
  exact ⟨rfl, H4.out.fin hO⟩
set_option maxRecDepth 100000 in
set_option maxHeartbeats 8000000 in
theorem rp_138 (s : ByteArray) (w : World) (hz : s.size = 16) (hb : byt s 0 = 138) (hl : byt s 15 = 0) (hy : numS s 2 8 < 2147483648 ∧ big s 10 4 < 2147483648) : Calls Tryd.prog 10 #[.string s] w (AskOut (some { zA with op := 138, lba := numS s 2 8, blk := big s 10 4, fu := byt s 1 / 8 % 2 == 1 }) w) := by
  have HLS := Lib.hid (show lenS s = 16 by rw [lenS_yes (by omega), hb]; rfl)
  have HLC := Lib.hid (fun v => refLen_any s v)
  have HN := Lib.hid (fun (a n : Nat) v h1 h8 ha => refNum_any s a n v (by unfold maxLen; omega) h1 h8 ha)
  have HS := Lib.hid (fun (a n : Nat) (h : n ≤ 4) => numS_small (s := s) (a := a) (n := n) h)
  have HZ := Lib.hid hz
  have hzi : (s.size : Int) = 16 := by rw [hz]; rfl
  have i0 := index_byt s 0 0 rfl (by omega)
  have i1 := index_byt s 1 1 rfl (by omega)
  have i2 := index_byt s 2 2 rfl (by omega)
  have il := index_byt s 15 15 rfl (by omega)
  have b1 := byt_lt s 1
  have b2 := byt_lt s 2
  rw [hb] at i0
  rw [hl] at il
  generalize byt s 1 = y at *
  generalize byt s 2 = z at *
  obtain ⟨l, hgl⟩ : ∃ l, l = numS s 2 8 := ⟨_, rfl⟩
  obtain ⟨k, hgk⟩ : ∃ k, k = big s 10 4 := ⟨_, rfl⟩
  rw [← hgl, ← hgk] at hy
  have HGL := Lib.hid hgl; have HGK := Lib.hid hgk; have HY := Lib.hid hy
  clear hy hgl hgk
  clear hb hz hl
  have h0 := Blk.new w 28 (akC zA)
  have hbl := (Below.refl w.heap.size w).alloc (Nat.le_refl _) (.cells (akC zA) 28)
  go_enter Tryd.func10, Tryd.ntmps10
  go_upto_region 1 with (fail)
  change Code.wp _ _ _ _ (w.alloc (.cells (akC zA) 28))
  obtain ⟨pr, hpr⟩ : ∃ pr, pr = w.heap.size := ⟨_, rfl⟩
  have HR := Lib.hid h0; have HBL := Lib.hid hbl; have HPR := Lib.hid hpr
  clear h0 hbl
  generalize w.alloc (.cells (akC zA) 28) = va at *
  rw [← hpr] at HR ⊢
  clear hpr
  go_wp2_with (fail)
  refine (HLC.out va).mono ?_; rintro e vb ⟨rfl, hb⟩
  rw [HLS.out]
  have HR1 := Lib.hid (HR.out.below hb HR.out.lt); have HB1 := Lib.hid (HBL.out.trans (hb.mono HBL.out.size))
  clear hb HR HBL HLC
  go_upto_region 5 with (fail)
  change Code.wp _ _ _ _ (vb.alloc (.cells (akC { zA with op := 138 }) 28))
  have hal := (Below.refl vb.heap.size vb).alloc (Nat.le_refl _) (.cells (akC { zA with op := 138 }) 28)
  obtain ⟨x0, hx0⟩ : ∃ x : Ak, x = { zA with op := 138 } := ⟨_, rfl⟩
  obtain ⟨pa, hpa⟩ : ∃ pa, pa = vb.heap.size := ⟨_, rfl⟩
  have H0 := Lib.hid (PaAt.mk (Blk.new vb 28 (akC { zA with op := 138 })) (HR1.out.alloc _) (HB1.out.trans (hal.mono HB1.out.size)) HB1.out.size (by rw [HPR.out]; exact Nat.le_refl _) (Nat.ne_of_gt HR1.out.lt))
  generalize vb.alloc (.cells (akC { zA with op := 138 }) 28) = v0 at *
  rw [← hx0] at H0
  rw [← hpa] at H0 ⊢
  have HX0 := Lib.hid hx0
  clear hal hpa hx0 HR1 HB1
  go_wp2_with (fail)
  refine (HN.out 2 8 v0 (by decide) (by decide) (by rw [HZ.out]; decide)).mono ?_; rintro e v1 ⟨rfl, hb⟩
  have H1 := Lib.hid (H0.out.below hb); clear hb
  obtain ⟨x1, hx1⟩ : ∃ x : Ak, x = x0 := ⟨_, rfl⟩
  rw [← hx1] at H1
  have HX1 := Lib.hid hx1; clear hx1
  rw [← HGL.out]
  go_wp2_with (fail)
  refine (HN.out 10 4 v1 (by decide) (by decide) (by rw [HZ.out]; decide)).mono ?_; rintro e v2 ⟨rfl, hb⟩
  have H2 := Lib.hid (H1.out.below hb); clear hb
  obtain ⟨x2, hx2⟩ : ∃ x : Ak, x = x1 := ⟨_, rfl⟩
  rw [← hx2] at H2
  have HX2 := Lib.hid hx2; clear hx2
  rw [HS.out 10 4 (by decide), ← HGK.out]
  have c1 : v2.cell? ⟨pa, 1, none⟩ = some (.int .i64 x2.lba) := H2.out.a.cell 1
  have c2 : v2.cell? ⟨pa, 2, none⟩ = some (.int .i64 x2.blk) := H2.out.a.cell 2
  have f1 := H2.out.a.free 1
  have f2 := H2.out.a.free 2
  go_upto_region 18 with (fail)
  obtain ⟨x3, hx3⟩ : ∃ x : Ak, x = { { x2 with lba := (l : Int) } with blk := (k : Int) } := ⟨_, rfl⟩
  have H3 := Lib.hid ((H2.out.set 1 (.int .i64 (l : Int)) { x2 with lba := (l : Int) } rfl).set 2 (.int .i64 (k : Int)) x3 (by rw [hx3]; rfl))
  have HX3 := Lib.hid hx3; clear hx3 c1 f1 c2 f2
  generalize (v2.setCell ⟨pa, 1, none⟩ (.int .i64 (l : Int))).setCell ⟨pa, 2, none⟩ (.int .i64 (k : Int)) = v3 at *
  obtain ⟨fv, hfv⟩ : ∃ fv : Bool, (((y : Int) / 8 % 2) == 1) = fv := ⟨_, rfl⟩
  have c3 : v3.cell? ⟨pa, 3, none⟩ = some (.bool x3.fu) := H3.out.a.cell 3
  have f3 := H3.out.a.free 3
  go_upto_region 19 with (fail)
  obtain ⟨x4, hx4⟩ : ∃ x : Ak, x = { x3 with fu := fv } := ⟨_, rfl⟩
  have H4 := Lib.hid (H3.out.set 3 (.bool fv) x4 (by rw [hx4]; rfl))
  have HX4 := Lib.hid hx4; clear hx4 c3 f3 
  generalize v3.setCell ⟨pa, 3, none⟩ (.bool fv) = v4 at *
  have HFV := Lib.hid hfv; clear hfv
  have hlb : x4.lba = (l : Int) := by rw [HX4.out, HX3.out]
  have hbk : x4.blk = (k : Int) := by rw [HX4.out, HX3.out]
  have q2 : decide ((2147483648 : Int) ≤ x4.lba) = false := by rw [hlb]; exact decide_eq_false (by have := HY.out; omega)
  have q2p : ¬ (2147483648 : Int) ≤ x4.lba := by rw [hlb]; have := HY.out; omega
  have q3 : decide ((2147483648 : Int) ≤ x4.blk) = false := by rw [hbk]; exact decide_eq_false (by have := HY.out; omega)
  have q3p : ¬ (2147483648 : Int) ≤ x4.blk := by rw [hbk]; have := HY.out; omega
  clear hlb hbk
  have c1 : v4.cell? ⟨pa, 1, none⟩ = some (.int .i64 x4.lba) := H4.out.a.cell 1
  have c2 : v4.cell? ⟨pa, 2, none⟩ = some (.int .i64 x4.blk) := H4.out.a.cell 2
  go_upto_region 32 with (fail)
  clear c1 c2
  have c0 : v4.cell? ⟨pa, 0, none⟩ = some (.int .i64 x4.op) := H4.out.a.cell 0
  have c1 : v4.cell? ⟨pa, 1, none⟩ = some (.int .i64 x4.lba) := H4.out.a.cell 1
  have c2 : v4.cell? ⟨pa, 2, none⟩ = some (.int .i64 x4.blk) := H4.out.a.cell 2
  have c3 : v4.cell? ⟨pa, 3, none⟩ = some (.bool x4.fu) := H4.out.a.cell 3
  have c4 : v4.cell? ⟨pa, 4, none⟩ = some (.int .i64 x4.page) := H4.out.a.cell 4
  have c5 : v4.cell? ⟨pa, 5, none⟩ = some (.int .i64 x4.want) := H4.out.a.cell 5
  have c6 : v4.cell? ⟨pa, 6, none⟩ = some (.int .i64 x4.ty) := H4.out.a.cell 6
  have r0 : v4.cell? ⟨pr, 0, none⟩ = some (.int .i64 0) := H4.out.r.cell 0
  have g0 := H4.out.r.free 0
  have r1 : v4.cell? ⟨pr, 1, none⟩ = some (.int .i64 0) := H4.out.r.cell 1
  have g1 := H4.out.r.free 1
  have r2 : v4.cell? ⟨pr, 2, none⟩ = some (.int .i64 0) := H4.out.r.cell 2
  have g2 := H4.out.r.free 2
  have r3 : v4.cell? ⟨pr, 3, none⟩ = some (.bool false) := H4.out.r.cell 3
  have g3 := H4.out.r.free 3
  have r4 : v4.cell? ⟨pr, 4, none⟩ = some (.int .i64 0) := H4.out.r.cell 4
  have g4 := H4.out.r.free 4
  have r5 : v4.cell? ⟨pr, 5, none⟩ = some (.int .i64 0) := H4.out.r.cell 5
  have g5 := H4.out.r.free 5
  have r6 : v4.cell? ⟨pr, 6, none⟩ = some (.int .i64 0) := H4.out.r.cell 6
  have g6 := H4.out.r.free 6
  go_wp2_with (fail)
  obtain ⟨hK, hO⟩ := ak_put H4.out.r x4 _ rfl
  refine bodyPost_ret_by (results_row1 rfl _ _ pr 28 (akC x4) (0, 0) _ rfl hK Tryd.underlying28 rfl sizeR) rfl ?_
  have hfin : x4 = { zA with op := 138, lba := numS s 2 8, blk := big s 10 4, fu := y / 8 % 2 == 1 } := by
    rw [HX4.out, HX3.out, HX2.out, HX1.out, HX0.out]
    rw [← HFV.out, bitI, HGL.out, HGK.out]
  exact ⟨by rw [hfin]; rfl, H4.out.fin hO⟩
set_option maxRecDepth 100000 in
set_option maxHeartbeats 8000000 in
theorem rp_138l (s : ByteArray) (w : World) (hz : s.size = 16) (hb : byt s 0 = 138) (hl : byt s 15 = 0) (hy : 2147483648 ≤ numS s 2 8 ∧ big s 10 4 = big s 10 4) : Calls Tryd.prog 10 #[.string s] w (AskOut (none) w) := by
  have HLS := Lib.hid (show lenS s = 16 by rw [lenS_yes (by omega), hb]; rfl)
  have HLC := Lib.hid (fun v => refLen_any s v)
  have HN := Lib.hid (fun (a n : Nat) v h1 h8 ha => refNum_any s a n v (by unfold maxLen; omega) h1 h8 ha)
  have HS := Lib.hid (fun (a n : Nat) (h : n ≤ 4) => numS_small (s := s) (a := a) (n := n) h)
  have HZ := Lib.hid hz
  have hzi : (s.size : Int) = 16 := by rw [hz]; rfl
  have i0 := index_byt s 0 0 rfl (by omega)
  have i1 := index_byt s 1 1 rfl (by omega)
  have i2 := index_byt s 2 2 rfl (by omega)
  have il := index_byt s 15 15 rfl (by omega)
  have b1 := byt_lt s 1
  have b2 := byt_lt s 2
  rw [hb] at i0
  rw [hl] at il
  generalize byt s 1 = y at *
  generalize byt s 2 = z at *
  obtain ⟨l, hgl⟩ : ∃ l, l = numS s 2 8 := ⟨_, rfl⟩
  obtain ⟨k, hgk⟩ : ∃ k, k = big s 10 4 := ⟨_, rfl⟩
  rw [← hgl, ← hgk] at hy
  have HGL := Lib.hid hgl; have HGK := Lib.hid hgk; have HY := Lib.hid hy
  clear hy hgl hgk
  clear hb hz hl
  have h0 := Blk.new w 28 (akC zA)
  have hbl := (Below.refl w.heap.size w).alloc (Nat.le_refl _) (.cells (akC zA) 28)
  go_enter Tryd.func10, Tryd.ntmps10
  go_upto_region 1 with (fail)
  change Code.wp _ _ _ _ (w.alloc (.cells (akC zA) 28))
  obtain ⟨pr, hpr⟩ : ∃ pr, pr = w.heap.size := ⟨_, rfl⟩
  have HR := Lib.hid h0; have HBL := Lib.hid hbl; have HPR := Lib.hid hpr
  clear h0 hbl
  generalize w.alloc (.cells (akC zA) 28) = va at *
  rw [← hpr] at HR ⊢
  clear hpr
  go_wp2_with (fail)
  refine (HLC.out va).mono ?_; rintro e vb ⟨rfl, hb⟩
  rw [HLS.out]
  have HR1 := Lib.hid (HR.out.below hb HR.out.lt); have HB1 := Lib.hid (HBL.out.trans (hb.mono HBL.out.size))
  clear hb HR HBL HLC
  go_upto_region 5 with (fail)
  change Code.wp _ _ _ _ (vb.alloc (.cells (akC { zA with op := 138 }) 28))
  have hal := (Below.refl vb.heap.size vb).alloc (Nat.le_refl _) (.cells (akC { zA with op := 138 }) 28)
  obtain ⟨x0, hx0⟩ : ∃ x : Ak, x = { zA with op := 138 } := ⟨_, rfl⟩
  obtain ⟨pa, hpa⟩ : ∃ pa, pa = vb.heap.size := ⟨_, rfl⟩
  have H0 := Lib.hid (PaAt.mk (Blk.new vb 28 (akC { zA with op := 138 })) (HR1.out.alloc _) (HB1.out.trans (hal.mono HB1.out.size)) HB1.out.size (by rw [HPR.out]; exact Nat.le_refl _) (Nat.ne_of_gt HR1.out.lt))
  generalize vb.alloc (.cells (akC { zA with op := 138 }) 28) = v0 at *
  rw [← hx0] at H0
  rw [← hpa] at H0 ⊢
  have HX0 := Lib.hid hx0
  clear hal hpa hx0 HR1 HB1
  go_wp2_with (fail)
  refine (HN.out 2 8 v0 (by decide) (by decide) (by rw [HZ.out]; decide)).mono ?_; rintro e v1 ⟨rfl, hb⟩
  have H1 := Lib.hid (H0.out.below hb); clear hb
  obtain ⟨x1, hx1⟩ : ∃ x : Ak, x = x0 := ⟨_, rfl⟩
  rw [← hx1] at H1
  have HX1 := Lib.hid hx1; clear hx1
  rw [← HGL.out]
  go_wp2_with (fail)
  refine (HN.out 10 4 v1 (by decide) (by decide) (by rw [HZ.out]; decide)).mono ?_; rintro e v2 ⟨rfl, hb⟩
  have H2 := Lib.hid (H1.out.below hb); clear hb
  obtain ⟨x2, hx2⟩ : ∃ x : Ak, x = x1 := ⟨_, rfl⟩
  rw [← hx2] at H2
  have HX2 := Lib.hid hx2; clear hx2
  rw [HS.out 10 4 (by decide), ← HGK.out]
  have c1 : v2.cell? ⟨pa, 1, none⟩ = some (.int .i64 x2.lba) := H2.out.a.cell 1
  have c2 : v2.cell? ⟨pa, 2, none⟩ = some (.int .i64 x2.blk) := H2.out.a.cell 2
  have f1 := H2.out.a.free 1
  have f2 := H2.out.a.free 2
  go_upto_region 18 with (fail)
  obtain ⟨x3, hx3⟩ : ∃ x : Ak, x = { { x2 with lba := (l : Int) } with blk := (k : Int) } := ⟨_, rfl⟩
  have H3 := Lib.hid ((H2.out.set 1 (.int .i64 (l : Int)) { x2 with lba := (l : Int) } rfl).set 2 (.int .i64 (k : Int)) x3 (by rw [hx3]; rfl))
  have HX3 := Lib.hid hx3; clear hx3 c1 f1 c2 f2
  generalize (v2.setCell ⟨pa, 1, none⟩ (.int .i64 (l : Int))).setCell ⟨pa, 2, none⟩ (.int .i64 (k : Int)) = v3 at *
  obtain ⟨fv, hfv⟩ : ∃ fv : Bool, (((y : Int) / 8 % 2) == 1) = fv := ⟨_, rfl⟩
  have c3 : v3.cell? ⟨pa, 3, none⟩ = some (.bool x3.fu) := H3.out.a.cell 3
  have f3 := H3.out.a.free 3
  go_upto_region 19 with (fail)
  obtain ⟨x4, hx4⟩ : ∃ x : Ak, x = { x3 with fu := fv } := ⟨_, rfl⟩
  have H4 := Lib.hid (H3.out.set 3 (.bool fv) x4 (by rw [hx4]; rfl))
  have HX4 := Lib.hid hx4; clear hx4 c3 f3 
  generalize v3.setCell ⟨pa, 3, none⟩ (.bool fv) = v4 at *
  have HFV := Lib.hid hfv; clear hfv
  have hlb : x4.lba = (l : Int) := by rw [HX4.out, HX3.out]
  have hbk : x4.blk = (k : Int) := by rw [HX4.out, HX3.out]
  have q2 : decide ((2147483648 : Int) ≤ x4.lba) = true := by rw [hlb]; exact decide_eq_true (by have := HY.out; omega)
  have q2p : (2147483648 : Int) ≤ x4.lba := by rw [hlb]; have := HY.out; omega
  clear hlb hbk
  have c1 : v4.cell? ⟨pa, 1, none⟩ = some (.int .i64 x4.lba) := H4.out.a.cell 1
  have c2 : v4.cell? ⟨pa, 2, none⟩ = some (.int .i64 x4.blk) := H4.out.a.cell 2
  go_upto_region 31 with (fail)
  clear c1 c2
  have r0 : v4.cell? ⟨pr, 0, none⟩ = some (.int .i64 0) := H4.out.r.cell 0
  have g0 := H4.out.r.free 0
  have r1 : v4.cell? ⟨pr, 1, none⟩ = some (.int .i64 0) := H4.out.r.cell 1
  have g1 := H4.out.r.free 1
  have r2 : v4.cell? ⟨pr, 2, none⟩ = some (.int .i64 0) := H4.out.r.cell 2
  have g2 := H4.out.r.free 2
  have r3 : v4.cell? ⟨pr, 3, none⟩ = some (.bool false) := H4.out.r.cell 3
  have g3 := H4.out.r.free 3
  have r4 : v4.cell? ⟨pr, 4, none⟩ = some (.int .i64 0) := H4.out.r.cell 4
  have g4 := H4.out.r.free 4
  have r5 : v4.cell? ⟨pr, 5, none⟩ = some (.int .i64 0) := H4.out.r.cell 5
  have g5 := H4.out.r.free 5
  have r6 : v4.cell? ⟨pr, 6, none⟩ = some (.int .i64 0) := H4.out.r.cell 6
  have g6 := H4.out.r.free 6
  go_wp2_with (fail)
  obtain ⟨hK, hO⟩ := ak_put H4.out.r zA _ rfl
  refine bodyPost_ret_by (results_row1 rfl _ _ pr 28 (akC zA) (0, 0) _ rfl hK Tryd.underlying28 rfl sizeR) rfl ?_
  exact ⟨rfl, H4.out.fin hO⟩
set_option maxRecDepth 100000 in
set_option maxHeartbeats 8000000 in
theorem rp_138k (s : ByteArray) (w : World) (hz : s.size = 16) (hb : byt s 0 = 138) (hl : byt s 15 = 0) (hy : numS s 2 8 < 2147483648 ∧ 2147483648 ≤ big s 10 4) : Calls Tryd.prog 10 #[.string s] w (AskOut (none) w) := by
  have HLS := Lib.hid (show lenS s = 16 by rw [lenS_yes (by omega), hb]; rfl)
  have HLC := Lib.hid (fun v => refLen_any s v)
  have HN := Lib.hid (fun (a n : Nat) v h1 h8 ha => refNum_any s a n v (by unfold maxLen; omega) h1 h8 ha)
  have HS := Lib.hid (fun (a n : Nat) (h : n ≤ 4) => numS_small (s := s) (a := a) (n := n) h)
  have HZ := Lib.hid hz
  have hzi : (s.size : Int) = 16 := by rw [hz]; rfl
  have i0 := index_byt s 0 0 rfl (by omega)
  have i1 := index_byt s 1 1 rfl (by omega)
  have i2 := index_byt s 2 2 rfl (by omega)
  have il := index_byt s 15 15 rfl (by omega)
  have b1 := byt_lt s 1
  have b2 := byt_lt s 2
  rw [hb] at i0
  rw [hl] at il
  generalize byt s 1 = y at *
  generalize byt s 2 = z at *
  obtain ⟨l, hgl⟩ : ∃ l, l = numS s 2 8 := ⟨_, rfl⟩
  obtain ⟨k, hgk⟩ : ∃ k, k = big s 10 4 := ⟨_, rfl⟩
  rw [← hgl, ← hgk] at hy
  have HGL := Lib.hid hgl; have HGK := Lib.hid hgk; have HY := Lib.hid hy
  clear hy hgl hgk
  clear hb hz hl
  have h0 := Blk.new w 28 (akC zA)
  have hbl := (Below.refl w.heap.size w).alloc (Nat.le_refl _) (.cells (akC zA) 28)
  go_enter Tryd.func10, Tryd.ntmps10
  go_upto_region 1 with (fail)
  change Code.wp _ _ _ _ (w.alloc (.cells (akC zA) 28))
  obtain ⟨pr, hpr⟩ : ∃ pr, pr = w.heap.size := ⟨_, rfl⟩
  have HR := Lib.hid h0; have HBL := Lib.hid hbl; have HPR := Lib.hid hpr
  clear h0 hbl
  generalize w.alloc (.cells (akC zA) 28) = va at *
  rw [← hpr] at HR ⊢
  clear hpr
  go_wp2_with (fail)
  refine (HLC.out va).mono ?_; rintro e vb ⟨rfl, hb⟩
  rw [HLS.out]
  have HR1 := Lib.hid (HR.out.below hb HR.out.lt); have HB1 := Lib.hid (HBL.out.trans (hb.mono HBL.out.size))
  clear hb HR HBL HLC
  go_upto_region 5 with (fail)
  change Code.wp _ _ _ _ (vb.alloc (.cells (akC { zA with op := 138 }) 28))
  have hal := (Below.refl vb.heap.size vb).alloc (Nat.le_refl _) (.cells (akC { zA with op := 138 }) 28)
  obtain ⟨x0, hx0⟩ : ∃ x : Ak, x = { zA with op := 138 } := ⟨_, rfl⟩
  obtain ⟨pa, hpa⟩ : ∃ pa, pa = vb.heap.size := ⟨_, rfl⟩
  have H0 := Lib.hid (PaAt.mk (Blk.new vb 28 (akC { zA with op := 138 })) (HR1.out.alloc _) (HB1.out.trans (hal.mono HB1.out.size)) HB1.out.size (by rw [HPR.out]; exact Nat.le_refl _) (Nat.ne_of_gt HR1.out.lt))
  generalize vb.alloc (.cells (akC { zA with op := 138 }) 28) = v0 at *
  rw [← hx0] at H0
  rw [← hpa] at H0 ⊢
  have HX0 := Lib.hid hx0
  clear hal hpa hx0 HR1 HB1
  go_wp2_with (fail)
  refine (HN.out 2 8 v0 (by decide) (by decide) (by rw [HZ.out]; decide)).mono ?_; rintro e v1 ⟨rfl, hb⟩
  have H1 := Lib.hid (H0.out.below hb); clear hb
  obtain ⟨x1, hx1⟩ : ∃ x : Ak, x = x0 := ⟨_, rfl⟩
  rw [← hx1] at H1
  have HX1 := Lib.hid hx1; clear hx1
  rw [← HGL.out]
  go_wp2_with (fail)
  refine (HN.out 10 4 v1 (by decide) (by decide) (by rw [HZ.out]; decide)).mono ?_; rintro e v2 ⟨rfl, hb⟩
  have H2 := Lib.hid (H1.out.below hb); clear hb
  obtain ⟨x2, hx2⟩ : ∃ x : Ak, x = x1 := ⟨_, rfl⟩
  rw [← hx2] at H2
  have HX2 := Lib.hid hx2; clear hx2
  rw [HS.out 10 4 (by decide), ← HGK.out]
  have c1 : v2.cell? ⟨pa, 1, none⟩ = some (.int .i64 x2.lba) := H2.out.a.cell 1
  have c2 : v2.cell? ⟨pa, 2, none⟩ = some (.int .i64 x2.blk) := H2.out.a.cell 2
  have f1 := H2.out.a.free 1
  have f2 := H2.out.a.free 2
  go_upto_region 18 with (fail)
  obtain ⟨x3, hx3⟩ : ∃ x : Ak, x = { { x2 with lba := (l : Int) } with blk := (k : Int) } := ⟨_, rfl⟩
  have H3 := Lib.hid ((H2.out.set 1 (.int .i64 (l : Int)) { x2 with lba := (l : Int) } rfl).set 2 (.int .i64 (k : Int)) x3 (by rw [hx3]; rfl))
  have HX3 := Lib.hid hx3; clear hx3 c1 f1 c2 f2
  generalize (v2.setCell ⟨pa, 1, none⟩ (.int .i64 (l : Int))).setCell ⟨pa, 2, none⟩ (.int .i64 (k : Int)) = v3 at *
  obtain ⟨fv, hfv⟩ : ∃ fv : Bool, (((y : Int) / 8 % 2) == 1) = fv := ⟨_, rfl⟩
  have c3 : v3.cell? ⟨pa, 3, none⟩ = some (.bool x3.fu) := H3.out.a.cell 3
  have f3 := H3.out.a.free 3
  go_upto_region 19 with (fail)
  obtain ⟨x4, hx4⟩ : ∃ x : Ak, x = { x3 with fu := fv } := ⟨_, rfl⟩
  have H4 := Lib.hid (H3.out.set 3 (.bool fv) x4 (by rw [hx4]; rfl))
  have HX4 := Lib.hid hx4; clear hx4 c3 f3 
  generalize v3.setCell ⟨pa, 3, none⟩ (.bool fv) = v4 at *
  have HFV := Lib.hid hfv; clear hfv
  have hlb : x4.lba = (l : Int) := by rw [HX4.out, HX3.out]
  have hbk : x4.blk = (k : Int) := by rw [HX4.out, HX3.out]
  have q2 : decide ((2147483648 : Int) ≤ x4.lba) = false := by rw [hlb]; exact decide_eq_false (by have := HY.out; omega)
  have q2p : ¬ (2147483648 : Int) ≤ x4.lba := by rw [hlb]; have := HY.out; omega
  have q3 : decide ((2147483648 : Int) ≤ x4.blk) = true := by rw [hbk]; exact decide_eq_true (by have := HY.out; omega)
  have q3p : (2147483648 : Int) ≤ x4.blk := by rw [hbk]; have := HY.out; omega
  clear hlb hbk
  have c1 : v4.cell? ⟨pa, 1, none⟩ = some (.int .i64 x4.lba) := H4.out.a.cell 1
  have c2 : v4.cell? ⟨pa, 2, none⟩ = some (.int .i64 x4.blk) := H4.out.a.cell 2
  go_upto_region 31 with (fail)
  clear c1 c2
  have r0 : v4.cell? ⟨pr, 0, none⟩ = some (.int .i64 0) := H4.out.r.cell 0
  have g0 := H4.out.r.free 0
  have r1 : v4.cell? ⟨pr, 1, none⟩ = some (.int .i64 0) := H4.out.r.cell 1
  have g1 := H4.out.r.free 1
  have r2 : v4.cell? ⟨pr, 2, none⟩ = some (.int .i64 0) := H4.out.r.cell 2
  have g2 := H4.out.r.free 2
  have r3 : v4.cell? ⟨pr, 3, none⟩ = some (.bool false) := H4.out.r.cell 3
  have g3 := H4.out.r.free 3
  have r4 : v4.cell? ⟨pr, 4, none⟩ = some (.int .i64 0) := H4.out.r.cell 4
  have g4 := H4.out.r.free 4
  have r5 : v4.cell? ⟨pr, 5, none⟩ = some (.int .i64 0) := H4.out.r.cell 5
  have g5 := H4.out.r.free 5
  have r6 : v4.cell? ⟨pr, 6, none⟩ = some (.int .i64 0) := H4.out.r.cell 6
  have g6 := H4.out.r.free 6
  go_wp2_with (fail)
  obtain ⟨hK, hO⟩ := ak_put H4.out.r zA _ rfl
  refine bodyPost_ret_by (results_row1 rfl _ _ pr 28 (akC zA) (0, 0) _ rfl hK Tryd.underlying28 rfl sizeR) rfl ?_
  exact ⟨rfl, H4.out.fin hO⟩
set_option maxRecDepth 100000 in
set_option maxHeartbeats 8000000 in
theorem rp_147 (s : ByteArray) (w : World) (hz : s.size = 16) (hb : byt s 0 = 147) (hl : byt s 15 = 0) (hy : numS s 2 8 < 2147483648 ∧ big s 10 4 < 2147483648 ∧ byt s 1 % 2 = 1) : Calls Tryd.prog 10 #[.string s] w (AskOut (some { zA with op := 147, lba := numS s 2 8, blk := big s 10 4, fu := false }) w) := by
  have HLS := Lib.hid (show lenS s = 16 by rw [lenS_yes (by omega), hb]; rfl)
  have HLC := Lib.hid (fun v => refLen_any s v)
  have HN := Lib.hid (fun (a n : Nat) v h1 h8 ha => refNum_any s a n v (by unfold maxLen; omega) h1 h8 ha)
  have HS := Lib.hid (fun (a n : Nat) (h : n ≤ 4) => numS_small (s := s) (a := a) (n := n) h)
  have HZ := Lib.hid hz
  have hzi : (s.size : Int) = 16 := by rw [hz]; rfl
  have i0 := index_byt s 0 0 rfl (by omega)
  have i1 := index_byt s 1 1 rfl (by omega)
  have i2 := index_byt s 2 2 rfl (by omega)
  have il := index_byt s 15 15 rfl (by omega)
  have b1 := byt_lt s 1
  have b2 := byt_lt s 2
  rw [hb] at i0
  rw [hl] at il
  generalize byt s 1 = y at *
  generalize byt s 2 = z at *
  obtain ⟨l, hgl⟩ : ∃ l, l = numS s 2 8 := ⟨_, rfl⟩
  obtain ⟨k, hgk⟩ : ∃ k, k = big s 10 4 := ⟨_, rfl⟩
  rw [← hgl, ← hgk] at hy
  have HGL := Lib.hid hgl; have HGK := Lib.hid hgk; have HY := Lib.hid hy
  clear hy hgl hgk
  clear hb hz hl
  have h0 := Blk.new w 28 (akC zA)
  have hbl := (Below.refl w.heap.size w).alloc (Nat.le_refl _) (.cells (akC zA) 28)
  go_enter Tryd.func10, Tryd.ntmps10
  go_upto_region 1 with (fail)
  change Code.wp _ _ _ _ (w.alloc (.cells (akC zA) 28))
  obtain ⟨pr, hpr⟩ : ∃ pr, pr = w.heap.size := ⟨_, rfl⟩
  have HR := Lib.hid h0; have HBL := Lib.hid hbl; have HPR := Lib.hid hpr
  clear h0 hbl
  generalize w.alloc (.cells (akC zA) 28) = va at *
  rw [← hpr] at HR ⊢
  clear hpr
  go_wp2_with (fail)
  refine (HLC.out va).mono ?_; rintro e vb ⟨rfl, hb⟩
  rw [HLS.out]
  have HR1 := Lib.hid (HR.out.below hb HR.out.lt); have HB1 := Lib.hid (HBL.out.trans (hb.mono HBL.out.size))
  clear hb HR HBL HLC
  go_upto_region 5 with (fail)
  change Code.wp _ _ _ _ (vb.alloc (.cells (akC { zA with op := 147 }) 28))
  have hal := (Below.refl vb.heap.size vb).alloc (Nat.le_refl _) (.cells (akC { zA with op := 147 }) 28)
  obtain ⟨x0, hx0⟩ : ∃ x : Ak, x = { zA with op := 147 } := ⟨_, rfl⟩
  obtain ⟨pa, hpa⟩ : ∃ pa, pa = vb.heap.size := ⟨_, rfl⟩
  have H0 := Lib.hid (PaAt.mk (Blk.new vb 28 (akC { zA with op := 147 })) (HR1.out.alloc _) (HB1.out.trans (hal.mono HB1.out.size)) HB1.out.size (by rw [HPR.out]; exact Nat.le_refl _) (Nat.ne_of_gt HR1.out.lt))
  generalize vb.alloc (.cells (akC { zA with op := 147 }) 28) = v0 at *
  rw [← hx0] at H0
  rw [← hpa] at H0 ⊢
  have HX0 := Lib.hid hx0
  clear hal hpa hx0 HR1 HB1
  go_wp2_with (fail)
  refine (HN.out 2 8 v0 (by decide) (by decide) (by rw [HZ.out]; decide)).mono ?_; rintro e v1 ⟨rfl, hb⟩
  have H1 := Lib.hid (H0.out.below hb); clear hb
  obtain ⟨x1, hx1⟩ : ∃ x : Ak, x = x0 := ⟨_, rfl⟩
  rw [← hx1] at H1
  have HX1 := Lib.hid hx1; clear hx1
  rw [← HGL.out]
  go_wp2_with (fail)
  refine (HN.out 10 4 v1 (by decide) (by decide) (by rw [HZ.out]; decide)).mono ?_; rintro e v2 ⟨rfl, hb⟩
  have H2 := Lib.hid (H1.out.below hb); clear hb
  obtain ⟨x2, hx2⟩ : ∃ x : Ak, x = x1 := ⟨_, rfl⟩
  rw [← hx2] at H2
  have HX2 := Lib.hid hx2; clear hx2
  rw [HS.out 10 4 (by decide), ← HGK.out]
  have c1 : v2.cell? ⟨pa, 1, none⟩ = some (.int .i64 x2.lba) := H2.out.a.cell 1
  have c2 : v2.cell? ⟨pa, 2, none⟩ = some (.int .i64 x2.blk) := H2.out.a.cell 2
  have f1 := H2.out.a.free 1
  have f2 := H2.out.a.free 2
  go_upto_region 18 with (fail)
  obtain ⟨x3, hx3⟩ : ∃ x : Ak, x = { { x2 with lba := (l : Int) } with blk := (k : Int) } := ⟨_, rfl⟩
  have H3 := Lib.hid ((H2.out.set 1 (.int .i64 (l : Int)) { x2 with lba := (l : Int) } rfl).set 2 (.int .i64 (k : Int)) x3 (by rw [hx3]; rfl))
  have HX3 := Lib.hid hx3; clear hx3 c1 f1 c2 f2
  generalize (v2.setCell ⟨pa, 1, none⟩ (.int .i64 (l : Int))).setCell ⟨pa, 2, none⟩ (.int .i64 (k : Int)) = v3 at *
  have c3 : v3.cell? ⟨pa, 3, none⟩ = some (.bool x3.fu) := H3.out.a.cell 3
  have f3 := H3.out.a.free 3
  go_upto_region 19 with (fail)
  obtain ⟨x4, hx4⟩ : ∃ x : Ak, x = { x3 with fu := false } := ⟨_, rfl⟩
  have H4 := Lib.hid (H3.out.set 3 (.bool false) x4 (by rw [hx4]; rfl))
  have HX4 := Lib.hid hx4; clear hx4 c3 f3 
  generalize v3.setCell ⟨pa, 3, none⟩ (.bool false) = v4 at *
  have q1 : ((y : Int) % 2 == 0) = false := by rw [beqI]; exact decide_eq_false (by have := HY.out; omega)
  have hlb : x4.lba = (l : Int) := by rw [HX4.out, HX3.out]
  have hbk : x4.blk = (k : Int) := by rw [HX4.out, HX3.out]
  have q2 : decide ((2147483648 : Int) ≤ x4.lba) = false := by rw [hlb]; exact decide_eq_false (by have := HY.out; omega)
  have q2p : ¬ (2147483648 : Int) ≤ x4.lba := by rw [hlb]; have := HY.out; omega
  have q3 : decide ((2147483648 : Int) ≤ x4.blk) = false := by rw [hbk]; exact decide_eq_false (by have := HY.out; omega)
  have q3p : ¬ (2147483648 : Int) ≤ x4.blk := by rw [hbk]; have := HY.out; omega
  clear hlb hbk
  have c1 : v4.cell? ⟨pa, 1, none⟩ = some (.int .i64 x4.lba) := H4.out.a.cell 1
  have c2 : v4.cell? ⟨pa, 2, none⟩ = some (.int .i64 x4.blk) := H4.out.a.cell 2
  go_upto_region 32 with (fail)
  clear c1 c2
  have c0 : v4.cell? ⟨pa, 0, none⟩ = some (.int .i64 x4.op) := H4.out.a.cell 0
  have c1 : v4.cell? ⟨pa, 1, none⟩ = some (.int .i64 x4.lba) := H4.out.a.cell 1
  have c2 : v4.cell? ⟨pa, 2, none⟩ = some (.int .i64 x4.blk) := H4.out.a.cell 2
  have c3 : v4.cell? ⟨pa, 3, none⟩ = some (.bool x4.fu) := H4.out.a.cell 3
  have c4 : v4.cell? ⟨pa, 4, none⟩ = some (.int .i64 x4.page) := H4.out.a.cell 4
  have c5 : v4.cell? ⟨pa, 5, none⟩ = some (.int .i64 x4.want) := H4.out.a.cell 5
  have c6 : v4.cell? ⟨pa, 6, none⟩ = some (.int .i64 x4.ty) := H4.out.a.cell 6
  have r0 : v4.cell? ⟨pr, 0, none⟩ = some (.int .i64 0) := H4.out.r.cell 0
  have g0 := H4.out.r.free 0
  have r1 : v4.cell? ⟨pr, 1, none⟩ = some (.int .i64 0) := H4.out.r.cell 1
  have g1 := H4.out.r.free 1
  have r2 : v4.cell? ⟨pr, 2, none⟩ = some (.int .i64 0) := H4.out.r.cell 2
  have g2 := H4.out.r.free 2
  have r3 : v4.cell? ⟨pr, 3, none⟩ = some (.bool false) := H4.out.r.cell 3
  have g3 := H4.out.r.free 3
  have r4 : v4.cell? ⟨pr, 4, none⟩ = some (.int .i64 0) := H4.out.r.cell 4
  have g4 := H4.out.r.free 4
  have r5 : v4.cell? ⟨pr, 5, none⟩ = some (.int .i64 0) := H4.out.r.cell 5
  have g5 := H4.out.r.free 5
  have r6 : v4.cell? ⟨pr, 6, none⟩ = some (.int .i64 0) := H4.out.r.cell 6
  have g6 := H4.out.r.free 6
  go_wp2_with (fail)
  obtain ⟨hK, hO⟩ := ak_put H4.out.r x4 _ rfl
  refine bodyPost_ret_by (results_row1 rfl _ _ pr 28 (akC x4) (0, 0) _ rfl hK Tryd.underlying28 rfl sizeR) rfl ?_
  have hfin : x4 = { zA with op := 147, lba := numS s 2 8, blk := big s 10 4, fu := false } := by
    rw [HX4.out, HX3.out, HX2.out, HX1.out, HX0.out]
    rw [HGL.out, HGK.out]
  exact ⟨by rw [hfin]; rfl, H4.out.fin hO⟩
set_option maxRecDepth 100000 in
set_option maxHeartbeats 8000000 in
theorem rp_147l (s : ByteArray) (w : World) (hz : s.size = 16) (hb : byt s 0 = 147) (hl : byt s 15 = 0) (hy : 2147483648 ≤ numS s 2 8 ∧ big s 10 4 = big s 10 4 ∧ byt s 1 % 2 = 1) : Calls Tryd.prog 10 #[.string s] w (AskOut (none) w) := by
  have HLS := Lib.hid (show lenS s = 16 by rw [lenS_yes (by omega), hb]; rfl)
  have HLC := Lib.hid (fun v => refLen_any s v)
  have HN := Lib.hid (fun (a n : Nat) v h1 h8 ha => refNum_any s a n v (by unfold maxLen; omega) h1 h8 ha)
  have HS := Lib.hid (fun (a n : Nat) (h : n ≤ 4) => numS_small (s := s) (a := a) (n := n) h)
  have HZ := Lib.hid hz
  have hzi : (s.size : Int) = 16 := by rw [hz]; rfl
  have i0 := index_byt s 0 0 rfl (by omega)
  have i1 := index_byt s 1 1 rfl (by omega)
  have i2 := index_byt s 2 2 rfl (by omega)
  have il := index_byt s 15 15 rfl (by omega)
  have b1 := byt_lt s 1
  have b2 := byt_lt s 2
  rw [hb] at i0
  rw [hl] at il
  generalize byt s 1 = y at *
  generalize byt s 2 = z at *
  obtain ⟨l, hgl⟩ : ∃ l, l = numS s 2 8 := ⟨_, rfl⟩
  obtain ⟨k, hgk⟩ : ∃ k, k = big s 10 4 := ⟨_, rfl⟩
  rw [← hgl, ← hgk] at hy
  have HGL := Lib.hid hgl; have HGK := Lib.hid hgk; have HY := Lib.hid hy
  clear hy hgl hgk
  clear hb hz hl
  have h0 := Blk.new w 28 (akC zA)
  have hbl := (Below.refl w.heap.size w).alloc (Nat.le_refl _) (.cells (akC zA) 28)
  go_enter Tryd.func10, Tryd.ntmps10
  go_upto_region 1 with (fail)
  change Code.wp _ _ _ _ (w.alloc (.cells (akC zA) 28))
  obtain ⟨pr, hpr⟩ : ∃ pr, pr = w.heap.size := ⟨_, rfl⟩
  have HR := Lib.hid h0; have HBL := Lib.hid hbl; have HPR := Lib.hid hpr
  clear h0 hbl
  generalize w.alloc (.cells (akC zA) 28) = va at *
  rw [← hpr] at HR ⊢
  clear hpr
  go_wp2_with (fail)
  refine (HLC.out va).mono ?_; rintro e vb ⟨rfl, hb⟩
  rw [HLS.out]
  have HR1 := Lib.hid (HR.out.below hb HR.out.lt); have HB1 := Lib.hid (HBL.out.trans (hb.mono HBL.out.size))
  clear hb HR HBL HLC
  go_upto_region 5 with (fail)
  change Code.wp _ _ _ _ (vb.alloc (.cells (akC { zA with op := 147 }) 28))
  have hal := (Below.refl vb.heap.size vb).alloc (Nat.le_refl _) (.cells (akC { zA with op := 147 }) 28)
  obtain ⟨x0, hx0⟩ : ∃ x : Ak, x = { zA with op := 147 } := ⟨_, rfl⟩
  obtain ⟨pa, hpa⟩ : ∃ pa, pa = vb.heap.size := ⟨_, rfl⟩
  have H0 := Lib.hid (PaAt.mk (Blk.new vb 28 (akC { zA with op := 147 })) (HR1.out.alloc _) (HB1.out.trans (hal.mono HB1.out.size)) HB1.out.size (by rw [HPR.out]; exact Nat.le_refl _) (Nat.ne_of_gt HR1.out.lt))
  generalize vb.alloc (.cells (akC { zA with op := 147 }) 28) = v0 at *
  rw [← hx0] at H0
  rw [← hpa] at H0 ⊢
  have HX0 := Lib.hid hx0
  clear hal hpa hx0 HR1 HB1
  go_wp2_with (fail)
  refine (HN.out 2 8 v0 (by decide) (by decide) (by rw [HZ.out]; decide)).mono ?_; rintro e v1 ⟨rfl, hb⟩
  have H1 := Lib.hid (H0.out.below hb); clear hb
  obtain ⟨x1, hx1⟩ : ∃ x : Ak, x = x0 := ⟨_, rfl⟩
  rw [← hx1] at H1
  have HX1 := Lib.hid hx1; clear hx1
  rw [← HGL.out]
  go_wp2_with (fail)
  refine (HN.out 10 4 v1 (by decide) (by decide) (by rw [HZ.out]; decide)).mono ?_; rintro e v2 ⟨rfl, hb⟩
  have H2 := Lib.hid (H1.out.below hb); clear hb
  obtain ⟨x2, hx2⟩ : ∃ x : Ak, x = x1 := ⟨_, rfl⟩
  rw [← hx2] at H2
  have HX2 := Lib.hid hx2; clear hx2
  rw [HS.out 10 4 (by decide), ← HGK.out]
  have c1 : v2.cell? ⟨pa, 1, none⟩ = some (.int .i64 x2.lba) := H2.out.a.cell 1
  have c2 : v2.cell? ⟨pa, 2, none⟩ = some (.int .i64 x2.blk) := H2.out.a.cell 2
  have f1 := H2.out.a.free 1
  have f2 := H2.out.a.free 2
  go_upto_region 18 with (fail)
  obtain ⟨x3, hx3⟩ : ∃ x : Ak, x = { { x2 with lba := (l : Int) } with blk := (k : Int) } := ⟨_, rfl⟩
  have H3 := Lib.hid ((H2.out.set 1 (.int .i64 (l : Int)) { x2 with lba := (l : Int) } rfl).set 2 (.int .i64 (k : Int)) x3 (by rw [hx3]; rfl))
  have HX3 := Lib.hid hx3; clear hx3 c1 f1 c2 f2
  generalize (v2.setCell ⟨pa, 1, none⟩ (.int .i64 (l : Int))).setCell ⟨pa, 2, none⟩ (.int .i64 (k : Int)) = v3 at *
  have c3 : v3.cell? ⟨pa, 3, none⟩ = some (.bool x3.fu) := H3.out.a.cell 3
  have f3 := H3.out.a.free 3
  go_upto_region 19 with (fail)
  obtain ⟨x4, hx4⟩ : ∃ x : Ak, x = { x3 with fu := false } := ⟨_, rfl⟩
  have H4 := Lib.hid (H3.out.set 3 (.bool false) x4 (by rw [hx4]; rfl))
  have HX4 := Lib.hid hx4; clear hx4 c3 f3 
  generalize v3.setCell ⟨pa, 3, none⟩ (.bool false) = v4 at *
  have q1 : ((y : Int) % 2 == 0) = false := by rw [beqI]; exact decide_eq_false (by have := HY.out; omega)
  have hlb : x4.lba = (l : Int) := by rw [HX4.out, HX3.out]
  have hbk : x4.blk = (k : Int) := by rw [HX4.out, HX3.out]
  have q2 : decide ((2147483648 : Int) ≤ x4.lba) = true := by rw [hlb]; exact decide_eq_true (by have := HY.out; omega)
  have q2p : (2147483648 : Int) ≤ x4.lba := by rw [hlb]; have := HY.out; omega
  clear hlb hbk
  have c1 : v4.cell? ⟨pa, 1, none⟩ = some (.int .i64 x4.lba) := H4.out.a.cell 1
  have c2 : v4.cell? ⟨pa, 2, none⟩ = some (.int .i64 x4.blk) := H4.out.a.cell 2
  go_upto_region 31 with (fail)
  clear c1 c2
  have r0 : v4.cell? ⟨pr, 0, none⟩ = some (.int .i64 0) := H4.out.r.cell 0
  have g0 := H4.out.r.free 0
  have r1 : v4.cell? ⟨pr, 1, none⟩ = some (.int .i64 0) := H4.out.r.cell 1
  have g1 := H4.out.r.free 1
  have r2 : v4.cell? ⟨pr, 2, none⟩ = some (.int .i64 0) := H4.out.r.cell 2
  have g2 := H4.out.r.free 2
  have r3 : v4.cell? ⟨pr, 3, none⟩ = some (.bool false) := H4.out.r.cell 3
  have g3 := H4.out.r.free 3
  have r4 : v4.cell? ⟨pr, 4, none⟩ = some (.int .i64 0) := H4.out.r.cell 4
  have g4 := H4.out.r.free 4
  have r5 : v4.cell? ⟨pr, 5, none⟩ = some (.int .i64 0) := H4.out.r.cell 5
  have g5 := H4.out.r.free 5
  have r6 : v4.cell? ⟨pr, 6, none⟩ = some (.int .i64 0) := H4.out.r.cell 6
  have g6 := H4.out.r.free 6
  go_wp2_with (fail)
  obtain ⟨hK, hO⟩ := ak_put H4.out.r zA _ rfl
  refine bodyPost_ret_by (results_row1 rfl _ _ pr 28 (akC zA) (0, 0) _ rfl hK Tryd.underlying28 rfl sizeR) rfl ?_
  exact ⟨rfl, H4.out.fin hO⟩
set_option maxRecDepth 100000 in
set_option maxHeartbeats 8000000 in
theorem rp_147k (s : ByteArray) (w : World) (hz : s.size = 16) (hb : byt s 0 = 147) (hl : byt s 15 = 0) (hy : numS s 2 8 < 2147483648 ∧ 2147483648 ≤ big s 10 4 ∧ byt s 1 % 2 = 1) : Calls Tryd.prog 10 #[.string s] w (AskOut (none) w) := by
  have HLS := Lib.hid (show lenS s = 16 by rw [lenS_yes (by omega), hb]; rfl)
  have HLC := Lib.hid (fun v => refLen_any s v)
  have HN := Lib.hid (fun (a n : Nat) v h1 h8 ha => refNum_any s a n v (by unfold maxLen; omega) h1 h8 ha)
  have HS := Lib.hid (fun (a n : Nat) (h : n ≤ 4) => numS_small (s := s) (a := a) (n := n) h)
  have HZ := Lib.hid hz
  have hzi : (s.size : Int) = 16 := by rw [hz]; rfl
  have i0 := index_byt s 0 0 rfl (by omega)
  have i1 := index_byt s 1 1 rfl (by omega)
  have i2 := index_byt s 2 2 rfl (by omega)
  have il := index_byt s 15 15 rfl (by omega)
  have b1 := byt_lt s 1
  have b2 := byt_lt s 2
  rw [hb] at i0
  rw [hl] at il
  generalize byt s 1 = y at *
  generalize byt s 2 = z at *
  obtain ⟨l, hgl⟩ : ∃ l, l = numS s 2 8 := ⟨_, rfl⟩
  obtain ⟨k, hgk⟩ : ∃ k, k = big s 10 4 := ⟨_, rfl⟩
  rw [← hgl, ← hgk] at hy
  have HGL := Lib.hid hgl; have HGK := Lib.hid hgk; have HY := Lib.hid hy
  clear hy hgl hgk
  clear hb hz hl
  have h0 := Blk.new w 28 (akC zA)
  have hbl := (Below.refl w.heap.size w).alloc (Nat.le_refl _) (.cells (akC zA) 28)
  go_enter Tryd.func10, Tryd.ntmps10
  go_upto_region 1 with (fail)
  change Code.wp _ _ _ _ (w.alloc (.cells (akC zA) 28))
  obtain ⟨pr, hpr⟩ : ∃ pr, pr = w.heap.size := ⟨_, rfl⟩
  have HR := Lib.hid h0; have HBL := Lib.hid hbl; have HPR := Lib.hid hpr
  clear h0 hbl
  generalize w.alloc (.cells (akC zA) 28) = va at *
  rw [← hpr] at HR ⊢
  clear hpr
  go_wp2_with (fail)
  refine (HLC.out va).mono ?_; rintro e vb ⟨rfl, hb⟩
  rw [HLS.out]
  have HR1 := Lib.hid (HR.out.below hb HR.out.lt); have HB1 := Lib.hid (HBL.out.trans (hb.mono HBL.out.size))
  clear hb HR HBL HLC
  go_upto_region 5 with (fail)
  change Code.wp _ _ _ _ (vb.alloc (.cells (akC { zA with op := 147 }) 28))
  have hal := (Below.refl vb.heap.size vb).alloc (Nat.le_refl _) (.cells (akC { zA with op := 147 }) 28)
  obtain ⟨x0, hx0⟩ : ∃ x : Ak, x = { zA with op := 147 } := ⟨_, rfl⟩
  obtain ⟨pa, hpa⟩ : ∃ pa, pa = vb.heap.size := ⟨_, rfl⟩
  have H0 := Lib.hid (PaAt.mk (Blk.new vb 28 (akC { zA with op := 147 })) (HR1.out.alloc _) (HB1.out.trans (hal.mono HB1.out.size)) HB1.out.size (by rw [HPR.out]; exact Nat.le_refl _) (Nat.ne_of_gt HR1.out.lt))
  generalize vb.alloc (.cells (akC { zA with op := 147 }) 28) = v0 at *
  rw [← hx0] at H0
  rw [← hpa] at H0 ⊢
  have HX0 := Lib.hid hx0
  clear hal hpa hx0 HR1 HB1
  go_wp2_with (fail)
  refine (HN.out 2 8 v0 (by decide) (by decide) (by rw [HZ.out]; decide)).mono ?_; rintro e v1 ⟨rfl, hb⟩
  have H1 := Lib.hid (H0.out.below hb); clear hb
  obtain ⟨x1, hx1⟩ : ∃ x : Ak, x = x0 := ⟨_, rfl⟩
  rw [← hx1] at H1
  have HX1 := Lib.hid hx1; clear hx1
  rw [← HGL.out]
  go_wp2_with (fail)
  refine (HN.out 10 4 v1 (by decide) (by decide) (by rw [HZ.out]; decide)).mono ?_; rintro e v2 ⟨rfl, hb⟩
  have H2 := Lib.hid (H1.out.below hb); clear hb
  obtain ⟨x2, hx2⟩ : ∃ x : Ak, x = x1 := ⟨_, rfl⟩
  rw [← hx2] at H2
  have HX2 := Lib.hid hx2; clear hx2
  rw [HS.out 10 4 (by decide), ← HGK.out]
  have c1 : v2.cell? ⟨pa, 1, none⟩ = some (.int .i64 x2.lba) := H2.out.a.cell 1
  have c2 : v2.cell? ⟨pa, 2, none⟩ = some (.int .i64 x2.blk) := H2.out.a.cell 2
  have f1 := H2.out.a.free 1
  have f2 := H2.out.a.free 2
  go_upto_region 18 with (fail)
  obtain ⟨x3, hx3⟩ : ∃ x : Ak, x = { { x2 with lba := (l : Int) } with blk := (k : Int) } := ⟨_, rfl⟩
  have H3 := Lib.hid ((H2.out.set 1 (.int .i64 (l : Int)) { x2 with lba := (l : Int) } rfl).set 2 (.int .i64 (k : Int)) x3 (by rw [hx3]; rfl))
  have HX3 := Lib.hid hx3; clear hx3 c1 f1 c2 f2
  generalize (v2.setCell ⟨pa, 1, none⟩ (.int .i64 (l : Int))).setCell ⟨pa, 2, none⟩ (.int .i64 (k : Int)) = v3 at *
  have c3 : v3.cell? ⟨pa, 3, none⟩ = some (.bool x3.fu) := H3.out.a.cell 3
  have f3 := H3.out.a.free 3
  go_upto_region 19 with (fail)
  obtain ⟨x4, hx4⟩ : ∃ x : Ak, x = { x3 with fu := false } := ⟨_, rfl⟩
  have H4 := Lib.hid (H3.out.set 3 (.bool false) x4 (by rw [hx4]; rfl))
  have HX4 := Lib.hid hx4; clear hx4 c3 f3 
  generalize v3.setCell ⟨pa, 3, none⟩ (.bool false) = v4 at *
  have q1 : ((y : Int) % 2 == 0) = false := by rw [beqI]; exact decide_eq_false (by have := HY.out; omega)
  have hlb : x4.lba = (l : Int) := by rw [HX4.out, HX3.out]
  have hbk : x4.blk = (k : Int) := by rw [HX4.out, HX3.out]
  have q2 : decide ((2147483648 : Int) ≤ x4.lba) = false := by rw [hlb]; exact decide_eq_false (by have := HY.out; omega)
  have q2p : ¬ (2147483648 : Int) ≤ x4.lba := by rw [hlb]; have := HY.out; omega
  have q3 : decide ((2147483648 : Int) ≤ x4.blk) = true := by rw [hbk]; exact decide_eq_true (by have := HY.out; omega)
  have q3p : (2147483648 : Int) ≤ x4.blk := by rw [hbk]; have := HY.out; omega
  clear hlb hbk
  have c1 : v4.cell? ⟨pa, 1, none⟩ = some (.int .i64 x4.lba) := H4.out.a.cell 1
  have c2 : v4.cell? ⟨pa, 2, none⟩ = some (.int .i64 x4.blk) := H4.out.a.cell 2
  go_upto_region 31 with (fail)
  clear c1 c2
  have r0 : v4.cell? ⟨pr, 0, none⟩ = some (.int .i64 0) := H4.out.r.cell 0
  have g0 := H4.out.r.free 0
  have r1 : v4.cell? ⟨pr, 1, none⟩ = some (.int .i64 0) := H4.out.r.cell 1
  have g1 := H4.out.r.free 1
  have r2 : v4.cell? ⟨pr, 2, none⟩ = some (.int .i64 0) := H4.out.r.cell 2
  have g2 := H4.out.r.free 2
  have r3 : v4.cell? ⟨pr, 3, none⟩ = some (.bool false) := H4.out.r.cell 3
  have g3 := H4.out.r.free 3
  have r4 : v4.cell? ⟨pr, 4, none⟩ = some (.int .i64 0) := H4.out.r.cell 4
  have g4 := H4.out.r.free 4
  have r5 : v4.cell? ⟨pr, 5, none⟩ = some (.int .i64 0) := H4.out.r.cell 5
  have g5 := H4.out.r.free 5
  have r6 : v4.cell? ⟨pr, 6, none⟩ = some (.int .i64 0) := H4.out.r.cell 6
  have g6 := H4.out.r.free 6
  go_wp2_with (fail)
  obtain ⟨hK, hO⟩ := ak_put H4.out.r zA _ rfl
  refine bodyPost_ret_by (results_row1 rfl _ _ pr 28 (akC zA) (0, 0) _ rfl hK Tryd.underlying28 rfl sizeR) rfl ?_
  exact ⟨rfl, H4.out.fin hO⟩
set_option maxRecDepth 100000 in
set_option maxHeartbeats 8000000 in
theorem rp_147e (s : ByteArray) (w : World) (hz : s.size = 16) (hb : byt s 0 = 147) (hl : byt s 15 = 0) (hy : numS s 2 8 = numS s 2 8 ∧ big s 10 4 = big s 10 4 ∧ byt s 1 % 2 = 0) : Calls Tryd.prog 10 #[.string s] w (AskOut (none) w) := by
  have HLS := Lib.hid (show lenS s = 16 by rw [lenS_yes (by omega), hb]; rfl)
  have HLC := Lib.hid (fun v => refLen_any s v)
  have HN := Lib.hid (fun (a n : Nat) v h1 h8 ha => refNum_any s a n v (by unfold maxLen; omega) h1 h8 ha)
  have HS := Lib.hid (fun (a n : Nat) (h : n ≤ 4) => numS_small (s := s) (a := a) (n := n) h)
  have HZ := Lib.hid hz
  have hzi : (s.size : Int) = 16 := by rw [hz]; rfl
  have i0 := index_byt s 0 0 rfl (by omega)
  have i1 := index_byt s 1 1 rfl (by omega)
  have i2 := index_byt s 2 2 rfl (by omega)
  have il := index_byt s 15 15 rfl (by omega)
  have b1 := byt_lt s 1
  have b2 := byt_lt s 2
  rw [hb] at i0
  rw [hl] at il
  generalize byt s 1 = y at *
  generalize byt s 2 = z at *
  obtain ⟨l, hgl⟩ : ∃ l, l = numS s 2 8 := ⟨_, rfl⟩
  obtain ⟨k, hgk⟩ : ∃ k, k = big s 10 4 := ⟨_, rfl⟩
  rw [← hgl, ← hgk] at hy
  have HGL := Lib.hid hgl; have HGK := Lib.hid hgk; have HY := Lib.hid hy
  clear hy hgl hgk
  clear hb hz hl
  have h0 := Blk.new w 28 (akC zA)
  have hbl := (Below.refl w.heap.size w).alloc (Nat.le_refl _) (.cells (akC zA) 28)
  go_enter Tryd.func10, Tryd.ntmps10
  go_upto_region 1 with (fail)
  change Code.wp _ _ _ _ (w.alloc (.cells (akC zA) 28))
  obtain ⟨pr, hpr⟩ : ∃ pr, pr = w.heap.size := ⟨_, rfl⟩
  have HR := Lib.hid h0; have HBL := Lib.hid hbl; have HPR := Lib.hid hpr
  clear h0 hbl
  generalize w.alloc (.cells (akC zA) 28) = va at *
  rw [← hpr] at HR ⊢
  clear hpr
  go_wp2_with (fail)
  refine (HLC.out va).mono ?_; rintro e vb ⟨rfl, hb⟩
  rw [HLS.out]
  have HR1 := Lib.hid (HR.out.below hb HR.out.lt); have HB1 := Lib.hid (HBL.out.trans (hb.mono HBL.out.size))
  clear hb HR HBL HLC
  go_upto_region 5 with (fail)
  change Code.wp _ _ _ _ (vb.alloc (.cells (akC { zA with op := 147 }) 28))
  have hal := (Below.refl vb.heap.size vb).alloc (Nat.le_refl _) (.cells (akC { zA with op := 147 }) 28)
  obtain ⟨x0, hx0⟩ : ∃ x : Ak, x = { zA with op := 147 } := ⟨_, rfl⟩
  obtain ⟨pa, hpa⟩ : ∃ pa, pa = vb.heap.size := ⟨_, rfl⟩
  have H0 := Lib.hid (PaAt.mk (Blk.new vb 28 (akC { zA with op := 147 })) (HR1.out.alloc _) (HB1.out.trans (hal.mono HB1.out.size)) HB1.out.size (by rw [HPR.out]; exact Nat.le_refl _) (Nat.ne_of_gt HR1.out.lt))
  generalize vb.alloc (.cells (akC { zA with op := 147 }) 28) = v0 at *
  rw [← hx0] at H0
  rw [← hpa] at H0 ⊢
  have HX0 := Lib.hid hx0
  clear hal hpa hx0 HR1 HB1
  go_wp2_with (fail)
  refine (HN.out 2 8 v0 (by decide) (by decide) (by rw [HZ.out]; decide)).mono ?_; rintro e v1 ⟨rfl, hb⟩
  have H1 := Lib.hid (H0.out.below hb); clear hb
  obtain ⟨x1, hx1⟩ : ∃ x : Ak, x = x0 := ⟨_, rfl⟩
  rw [← hx1] at H1
  have HX1 := Lib.hid hx1; clear hx1
  rw [← HGL.out]
  go_wp2_with (fail)
  refine (HN.out 10 4 v1 (by decide) (by decide) (by rw [HZ.out]; decide)).mono ?_; rintro e v2 ⟨rfl, hb⟩
  have H2 := Lib.hid (H1.out.below hb); clear hb
  obtain ⟨x2, hx2⟩ : ∃ x : Ak, x = x1 := ⟨_, rfl⟩
  rw [← hx2] at H2
  have HX2 := Lib.hid hx2; clear hx2
  rw [HS.out 10 4 (by decide), ← HGK.out]
  have c1 : v2.cell? ⟨pa, 1, none⟩ = some (.int .i64 x2.lba) := H2.out.a.cell 1
  have c2 : v2.cell? ⟨pa, 2, none⟩ = some (.int .i64 x2.blk) := H2.out.a.cell 2
  have f1 := H2.out.a.free 1
  have f2 := H2.out.a.free 2
  go_upto_region 18 with (fail)
  obtain ⟨x3, hx3⟩ : ∃ x : Ak, x = { { x2 with lba := (l : Int) } with blk := (k : Int) } := ⟨_, rfl⟩
  have H3 := Lib.hid ((H2.out.set 1 (.int .i64 (l : Int)) { x2 with lba := (l : Int) } rfl).set 2 (.int .i64 (k : Int)) x3 (by rw [hx3]; rfl))
  have HX3 := Lib.hid hx3; clear hx3 c1 f1 c2 f2
  generalize (v2.setCell ⟨pa, 1, none⟩ (.int .i64 (l : Int))).setCell ⟨pa, 2, none⟩ (.int .i64 (k : Int)) = v3 at *
  have c3 : v3.cell? ⟨pa, 3, none⟩ = some (.bool x3.fu) := H3.out.a.cell 3
  have f3 := H3.out.a.free 3
  go_upto_region 19 with (fail)
  obtain ⟨x4, hx4⟩ : ∃ x : Ak, x = { x3 with fu := false } := ⟨_, rfl⟩
  have H4 := Lib.hid (H3.out.set 3 (.bool false) x4 (by rw [hx4]; rfl))
  have HX4 := Lib.hid hx4; clear hx4 c3 f3 
  generalize v3.setCell ⟨pa, 3, none⟩ (.bool false) = v4 at *
  have q1 : ((y : Int) % 2 == 0) = true := by rw [beqI]; exact decide_eq_true (by have := HY.out; omega)
  go_upto_region 20 with (fail)
  have r0 : v4.cell? ⟨pr, 0, none⟩ = some (.int .i64 0) := H4.out.r.cell 0
  have g0 := H4.out.r.free 0
  have r1 : v4.cell? ⟨pr, 1, none⟩ = some (.int .i64 0) := H4.out.r.cell 1
  have g1 := H4.out.r.free 1
  have r2 : v4.cell? ⟨pr, 2, none⟩ = some (.int .i64 0) := H4.out.r.cell 2
  have g2 := H4.out.r.free 2
  have r3 : v4.cell? ⟨pr, 3, none⟩ = some (.bool false) := H4.out.r.cell 3
  have g3 := H4.out.r.free 3
  have r4 : v4.cell? ⟨pr, 4, none⟩ = some (.int .i64 0) := H4.out.r.cell 4
  have g4 := H4.out.r.free 4
  have r5 : v4.cell? ⟨pr, 5, none⟩ = some (.int .i64 0) := H4.out.r.cell 5
  have g5 := H4.out.r.free 5
  have r6 : v4.cell? ⟨pr, 6, none⟩ = some (.int .i64 0) := H4.out.r.cell 6
  have g6 := H4.out.r.free 6
  go_wp2_with (fail)
  obtain ⟨hK, hO⟩ := ak_put H4.out.r zA _ rfl
  refine bodyPost_ret_by (results_row1 rfl _ _ pr 28 (akC zA) (0, 0) _ rfl hK Tryd.underlying28 rfl sizeR) rfl ?_
  exact ⟨rfl, H4.out.fin hO⟩
end Go.Proofs.YtaachlijpgmjeaaDoor
