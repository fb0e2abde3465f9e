/- What the document makes of any text: its Parse, whole. -/
import Derived.Test.YtaachlijpgmjeaaDoorCdI
import Derived.Deep.RegionWith
namespace Go.Proofs.YtaachlijpgmjeaaDoor
open Go.RowKit
/-- What the document makes of a block that asks for reservations, whole. -/
theorem ask_94 {s : ByteArray} (h : byt s 0 = 94) : ask s = if 1 < byt s 1 % 32 then none else some { zA with op := (256 * 94 + byt s 1 % 32 : Nat), want := big s 7 2 } := by
  unfold ask
  dsimp only
  rw [h]
  rfl
theorem ask_95 {s : ByteArray} (h : byt s 0 = 95) : ask s = if big s 5 4 ≠ 24 ∨ 15 < byt s 2 ∨ 6 < byt s 1 % 32 ∨ byt s 1 % 32 = 5 then none
    else if byt s 1 % 32 = 1 ∨ byt s 1 % 32 = 2 ∨ byt s 1 % 32 = 4 then
      if typN (byt s 2) = 0 then none else some { zA with op := (256 * 95 + byt s 1 % 32 : Nat), want := 24, ty := typN (byt s 2) }
    else some { zA with op := (256 * 95 + byt s 1 % 32 : Nat), want := 24 } := by
  unfold ask
  dsimp only
  rw [h]
  rfl
theorem res94 (s : ByteArray) (w : World) (hz : s.size = 10) (hb : byt s 0 = 94) : Calls Tryd.prog 25 #[.string s, akV { zA with op := 94 }] w (AskOut (ask s) w) := by
  rw [ask_94 hb]
  by_cases h : 1 < byt s 1 % 32
  · rw [if_pos h]; exact res_in_no s w hz hb h
  · rw [if_neg h]; exact res_in s w hz hb (by omega)
theorem res95 (s : ByteArray) (w : World) (hz : s.size = 10) (hb : byt s 0 = 95) : Calls Tryd.prog 25 #[.string s, akV { zA with op := 95 }] w (AskOut (ask s) w) := by
  rw [ask_95 hb]
  by_cases h1 : big s 5 4 = 24
  · by_cases h2 : 15 < byt s 2
    · rw [if_pos (.inr (.inl h2))]; exact res_out_z s w hz hb ⟨h1, h2⟩
    by_cases h3 : 6 < byt s 1 % 32
    · rw [if_pos (.inr (.inr (.inl h3)))]; exact res_out_6 s w hz hb ⟨h1, by omega, h3⟩
    by_cases h4 : byt s 1 % 32 = 5
    · rw [if_pos (.inr (.inr (.inr h4)))]; exact res_out_5 s w hz hb ⟨h1, by omega, h4⟩
    rw [if_neg (by omega)]
    by_cases a1 : byt s 1 % 32 = 1
    · rw [if_pos (.inl a1)]
      by_cases t0 : typN (byt s 2) = 0
      · rw [if_pos t0]; exact res_out_n1 s w hz hb ⟨h1, by omega, a1, t0⟩
      · rw [if_neg t0]; exact res_out_t1 s w hz hb ⟨h1, by omega, a1, t0⟩
    by_cases a2 : byt s 1 % 32 = 2
    · rw [if_pos (.inr (.inl a2))]
      by_cases t0 : typN (byt s 2) = 0
      · rw [if_pos t0]; exact res_out_n2 s w hz hb ⟨h1, by omega, a2, t0⟩
      · rw [if_neg t0]; exact res_out_t2 s w hz hb ⟨h1, by omega, a2, t0⟩
    by_cases a4 : byt s 1 % 32 = 4
    · rw [if_pos (.inr (.inr a4))]
      by_cases t0 : typN (byt s 2) = 0
      · rw [if_pos t0]; exact res_out_n4 s w hz hb ⟨h1, by omega, a4, t0⟩
      · rw [if_neg t0]; exact res_out_t4 s w hz hb ⟨h1, by omega, a4, t0⟩
    rw [if_neg (by omega)]
    exact res_out_o s w hz hb ⟨h1, by omega, by omega⟩
  · rw [if_pos (.inl h1)]; exact res_out_w s w hz hb h1
set_option maxRecDepth 100000 in
set_option maxHeartbeats 8000000 in
theorem rp_137 (s : ByteArray) (w : World) (hz : s.size = 16) (hb : byt s 0 = 137) (hl : byt s 15 = 0) (hy : numS s 2 8 < 2147483648) : Calls Tryd.prog 10 #[.string s] w (AskOut (some { zA with op := 137, lba := numS s 2 8, blk := byt s 13 }) w) := by
  have HLS := Lib.hid (show lenS s = 16 by rw [lenS_yes (by omega), hb]; rfl)
  have HLC := Lib.hid (fun v => refLen_any s v)
  have HN := Lib.hid (fun (a n : Nat) v h1 h8 ha => refNum_any s a n v (by unfold maxLen; omega) h1 h8 ha)
  have HNQ := Lib.hid (fun (a n : Nat) v h1 h8 ha => refNum_same s a n v (by unfold maxLen; omega) h1 h8 ha)
  have HS := Lib.hid (fun (a n : Nat) (h : n ≤ 4) => numS_small (s := s) (a := a) (n := n) h)
  have HZ := Lib.hid hz
  have hzi : (s.size : Int) = 16 := by rw [hz]; rfl
  have i0 := index_byt s 0 0 rfl (by omega)
  have i1 := index_byt s 1 1 rfl (by omega)
  have i2 := index_byt s 2 2 rfl (by omega)
  have il := index_byt s 15 15 rfl (by omega)
  have i13 := index_byt s 13 13 rfl (by omega)
  have b13 := byt_lt s 13
  have b1 := byt_lt s 1
  have b2 := byt_lt s 2
  rw [hb] at i0
  rw [hl] at il
  generalize byt s 1 = y at *
  generalize byt s 2 = z at *
  generalize byt s 13 = u at *
  obtain ⟨l, hgl⟩ : ∃ l, l = numS s 2 8 := ⟨_, rfl⟩
  rw [← hgl] at hy
  have HGL := Lib.hid hgl; have HY := Lib.hid hy
  clear hy hgl
  have hwu : IntKind.i64.wrap (u : Int) = (u : Int) := IntWalk.i64_in _ (by omega)
  clear hb hz hl
  have h0 := Blk.new w 28 (akC zA)
  have hbl := (Below.refl w.heap.size w).alloc (Nat.le_refl _) (.cells (akC zA) 28)
  go_enter Tryd.func10, Tryd.ntmps10
  go_upto_region 1 with (fail)
  change Code.wp _ _ _ _ (w.alloc (.cells (akC zA) 28))
  obtain ⟨pr, hpr⟩ : ∃ pr, pr = w.heap.size := ⟨_, rfl⟩
  have HR := Lib.hid h0; have HBL := Lib.hid hbl; have HPR := Lib.hid hpr
  clear h0 hbl
  generalize w.alloc (.cells (akC zA) 28) = va at *
  rw [← hpr] at HR ⊢
  clear hpr
  go_wp2_with (fail)
  refine (HLC.out va).mono ?_; rintro e vb ⟨rfl, hb⟩
  rw [HLS.out]
  have HR1 := Lib.hid (HR.out.below hb HR.out.lt); have HB1 := Lib.hid (HBL.out.trans (hb.mono HBL.out.size))
  clear hb HR HBL HLC
  go_upto_region 5 with (fail)
  change Code.wp _ _ _ _ (vb.alloc (.cells (akC { zA with op := 137 }) 28))
  have hal := (Below.refl vb.heap.size vb).alloc (Nat.le_refl _) (.cells (akC { zA with op := 137 }) 28)
  obtain ⟨x0, hx0⟩ : ∃ x : Ak, x = { zA with op := 137 } := ⟨_, rfl⟩
  obtain ⟨pa, hpa⟩ : ∃ pa, pa = vb.heap.size := ⟨_, rfl⟩
  have H0 := Lib.hid (PaAt.mk (Blk.new vb 28 (akC { zA with op := 137 })) (HR1.out.alloc _) (HB1.out.trans (hal.mono HB1.out.size)) HB1.out.size (by rw [HPR.out]; exact Nat.le_refl _) (Nat.ne_of_gt HR1.out.lt))
  generalize vb.alloc (.cells (akC { zA with op := 137 }) 28) = v0 at *
  rw [← hx0] at H0
  rw [← hpa] at H0 ⊢
  have HX0 := Lib.hid hx0
  clear hal hpa hx0 HR1 HB1
  go_upto_region 22 with (fail)
  have c1 : v0.cell? ⟨pa, 1, none⟩ = some (.int .i64 x0.lba) := H0.out.a.cell 1
  have c2 : v0.cell? ⟨pa, 2, none⟩ = some (.int .i64 x0.blk) := H0.out.a.cell 2
  have f1 := H0.out.a.free 1
  have f2 := H0.out.a.free 2
  go_region_with (first | (go_at_call 24; refine (HNQ.out 2 8 _ (by decide) (by decide) (by rw [HZ.out]; decide)).mono ?_; rintro e v9 ⟨rfl, rfl⟩))
  all_goals
   rw [← HGL.out]
   obtain ⟨x1, hx1⟩ : ∃ x : Ak, x = { { x0 with lba := (l : Int) } with blk := (u : Int) } := ⟨_, rfl⟩
   have H1 := Lib.hid (PaAt.below ((H0.out.set 1 (.int .i64 (l : Int)) { x0 with lba := (l : Int) } rfl).set 2 (.int .i64 (u : Int)) x1 (by rw [hx1]; rfl)) (Below.refl _ _).drew)
   have HX1 := Lib.hid hx1; clear hx1 c1 f1 c2 f2
   generalize ((v0.setCell ⟨pa, 1, none⟩ (.int .i64 (l : Int))).setCell ⟨pa, 2, none⟩ (.int .i64 (u : Int))).drew = v1 at *
   have hlb : x1.lba = (l : Int) := by rw [HX1.out]
   have hbk : x1.blk = (u : Int) := by rw [HX1.out]
   have q2 : decide ((2147483648 : Int) ≤ x1.lba) = false := by rw [hlb]; exact decide_eq_false (by have := HY.out; omega)
   have q2p : ¬ (2147483648 : Int) ≤ x1.lba := by rw [hlb]; have := HY.out; omega
   have q3 : decide ((2147483648 : Int) ≤ x1.blk) = false := by rw [hbk]; exact decide_eq_false (by omega)
   have q3p : ¬ (2147483648 : Int) ≤ x1.blk := by rw [hbk]; omega
   clear hlb hbk
   have c1 : v1.cell? ⟨pa, 1, none⟩ = some (.int .i64 x1.lba) := H1.out.a.cell 1
   have c2 : v1.cell? ⟨pa, 2, none⟩ = some (.int .i64 x1.blk) := H1.out.a.cell 2
   go_upto_region 32 with (fail)
   clear c1 c2
   have c0 : v1.cell? ⟨pa, 0, none⟩ = some (.int .i64 x1.op) := H1.out.a.cell 0
   have c1 : v1.cell? ⟨pa, 1, none⟩ = some (.int .i64 x1.lba) := H1.out.a.cell 1
   have c2 : v1.cell? ⟨pa, 2, none⟩ = some (.int .i64 x1.blk) := H1.out.a.cell 2
   have c3 : v1.cell? ⟨pa, 3, none⟩ = some (.bool x1.fu) := H1.out.a.cell 3
   have c4 : v1.cell? ⟨pa, 4, none⟩ = some (.int .i64 x1.page) := H1.out.a.cell 4
   have c5 : v1.cell? ⟨pa, 5, none⟩ = some (.int .i64 x1.want) := H1.out.a.cell 5
   have c6 : v1.cell? ⟨pa, 6, none⟩ = some (.int .i64 x1.ty) := H1.out.a.cell 6
   have r0 : v1.cell? ⟨pr, 0, none⟩ = some (.int .i64 0) := H1.out.r.cell 0
   have g0 := H1.out.r.free 0
   have r1 : v1.cell? ⟨pr, 1, none⟩ = some (.int .i64 0) := H1.out.r.cell 1
   have g1 := H1.out.r.free 1
   have r2 : v1.cell? ⟨pr, 2, none⟩ = some (.int .i64 0) := H1.out.r.cell 2
   have g2 := H1.out.r.free 2
   have r3 : v1.cell? ⟨pr, 3, none⟩ = some (.bool false) := H1.out.r.cell 3
   have g3 := H1.out.r.free 3
   have r4 : v1.cell? ⟨pr, 4, none⟩ = some (.int .i64 0) := H1.out.r.cell 4
   have g4 := H1.out.r.free 4
   have r5 : v1.cell? ⟨pr, 5, none⟩ = some (.int .i64 0) := H1.out.r.cell 5
   have g5 := H1.out.r.free 5
   have r6 : v1.cell? ⟨pr, 6, none⟩ = some (.int .i64 0) := H1.out.r.cell 6
   have g6 := H1.out.r.free 6
   go_wp2_with (fail)
   obtain ⟨hK, hO⟩ := ak_put H1.out.r x1 _ rfl
   refine bodyPost_ret_by (results_row1 rfl _ _ pr 28 (akC x1) (0, 0) _ rfl hK Tryd.underlying28 rfl sizeR) rfl ?_
   have hfin : x1 = { zA with op := 137, lba := numS s 2 8, blk := u } := by
     rw [HX1.out, HX0.out]
     rw [HGL.out]
   exact ⟨by rw [hfin]; rfl, H1.out.fin hO⟩
set_option maxRecDepth 100000 in
set_option maxHeartbeats 8000000 in
theorem rp_137l (s : ByteArray) (w : World) (hz : s.size = 16) (hb : byt s 0 = 137) (hl : byt s 15 = 0) (hy : 2147483648 ≤ numS s 2 8) : Calls Tryd.prog 10 #[.string s] w (AskOut (none) w) := by
  have HLS := Lib.hid (show lenS s = 16 by rw [lenS_yes (by omega), hb]; rfl)
  have HLC := Lib.hid (fun v => refLen_any s v)
  have HN := Lib.hid (fun (a n : Nat) v h1 h8 ha => refNum_any s a n v (by unfold maxLen; omega) h1 h8 ha)
  have HNQ := Lib.hid (fun (a n : Nat) v h1 h8 ha => refNum_same s a n v (by unfold maxLen; omega) h1 h8 ha)
  have HS := Lib.hid (fun (a n : Nat) (h : n ≤ 4) => numS_small (s := s) (a := a) (n := n) h)
  have HZ := Lib.hid hz
  have hzi : (s.size : Int) = 16 := by rw [hz]; rfl
  have i0 := index_byt s 0 0 rfl (by omega)
  have i1 := index_byt s 1 1 rfl (by omega)
  have i2 := index_byt s 2 2 rfl (by omega)
  have il := index_byt s 15 15 rfl (by omega)
  have i13 := index_byt s 13 13 rfl (by omega)
  have b13 := byt_lt s 13
  have b1 := byt_lt s 1
  have b2 := byt_lt s 2
  rw [hb] at i0
  rw [hl] at il
  generalize byt s 1 = y at *
  generalize byt s 2 = z at *
  generalize byt s 13 = u at *
  obtain ⟨l, hgl⟩ : ∃ l, l = numS s 2 8 := ⟨_, rfl⟩
  rw [← hgl] at hy
  have HGL := Lib.hid hgl; have HY := Lib.hid hy
  clear hy hgl
  have hwu : IntKind.i64.wrap (u : Int) = (u : Int) := IntWalk.i64_in _ (by omega)
  clear hb hz hl
  have h0 := Blk.new w 28 (akC zA)
  have hbl := (Below.refl w.heap.size w).alloc (Nat.le_refl _) (.cells (akC zA) 28)
  go_enter Tryd.func10, Tryd.ntmps10
  go_upto_region 1 with (fail)
  change Code.wp _ _ _ _ (w.alloc (.cells (akC zA) 28))
  obtain ⟨pr, hpr⟩ : ∃ pr, pr = w.heap.size := ⟨_, rfl⟩
  have HR := Lib.hid h0; have HBL := Lib.hid hbl; have HPR := Lib.hid hpr
  clear h0 hbl
  generalize w.alloc (.cells (akC zA) 28) = va at *
  rw [← hpr] at HR ⊢
  clear hpr
  go_wp2_with (fail)
  refine (HLC.out va).mono ?_; rintro e vb ⟨rfl, hb⟩
  rw [HLS.out]
  have HR1 := Lib.hid (HR.out.below hb HR.out.lt); have HB1 := Lib.hid (HBL.out.trans (hb.mono HBL.out.size))
  clear hb HR HBL HLC
  go_upto_region 5 with (fail)
  change Code.wp _ _ _ _ (vb.alloc (.cells (akC { zA with op := 137 }) 28))
  have hal := (Below.refl vb.heap.size vb).alloc (Nat.le_refl _) (.cells (akC { zA with op := 137 }) 28)
  obtain ⟨x0, hx0⟩ : ∃ x : Ak, x = { zA with op := 137 } := ⟨_, rfl⟩
  obtain ⟨pa, hpa⟩ : ∃ pa, pa = vb.heap.size := ⟨_, rfl⟩
  have H0 := Lib.hid (PaAt.mk (Blk.new vb 28 (akC { zA with op := 137 })) (HR1.out.alloc _) (HB1.out.trans (hal.mono HB1.out.size)) HB1.out.size (by rw [HPR.out]; exact Nat.le_refl _) (Nat.ne_of_gt HR1.out.lt))
  generalize vb.alloc (.cells (akC { zA with op := 137 }) 28) = v0 at *
  rw [← hx0] at H0
  rw [← hpa] at H0 ⊢
  have HX0 := Lib.hid hx0
  clear hal hpa hx0 HR1 HB1
  go_upto_region 22 with (fail)
  have c1 : v0.cell? ⟨pa, 1, none⟩ = some (.int .i64 x0.lba) := H0.out.a.cell 1
  have c2 : v0.cell? ⟨pa, 2, none⟩ = some (.int .i64 x0.blk) := H0.out.a.cell 2
  have f1 := H0.out.a.free 1
  have f2 := H0.out.a.free 2
  go_region_with (first | (go_at_call 24; refine (HNQ.out 2 8 _ (by decide) (by decide) (by rw [HZ.out]; decide)).mono ?_; rintro e v9 ⟨rfl, rfl⟩))
  all_goals
   rw [← HGL.out]
   obtain ⟨x1, hx1⟩ : ∃ x : Ak, x = { { x0 with lba := (l : Int) } with blk := (u : Int) } := ⟨_, rfl⟩
   have H1 := Lib.hid (PaAt.below ((H0.out.set 1 (.int .i64 (l : Int)) { x0 with lba := (l : Int) } rfl).set 2 (.int .i64 (u : Int)) x1 (by rw [hx1]; rfl)) (Below.refl _ _).drew)
   have HX1 := Lib.hid hx1; clear hx1 c1 f1 c2 f2
   generalize ((v0.setCell ⟨pa, 1, none⟩ (.int .i64 (l : Int))).setCell ⟨pa, 2, none⟩ (.int .i64 (u : Int))).drew = v1 at *
   have hlb : x1.lba = (l : Int) := by rw [HX1.out]
   have hbk : x1.blk = (u : Int) := by rw [HX1.out]
   have q2 : decide ((2147483648 : Int) ≤ x1.lba) = true := by rw [hlb]; exact decide_eq_true (by have := HY.out; omega)
   have q2p : (2147483648 : Int) ≤ x1.lba := by rw [hlb]; have := HY.out; omega
   clear hlb hbk
   have c1 : v1.cell? ⟨pa, 1, none⟩ = some (.int .i64 x1.lba) := H1.out.a.cell 1
   have c2 : v1.cell? ⟨pa, 2, none⟩ = some (.int .i64 x1.blk) := H1.out.a.cell 2
   go_upto_region 31 with (fail)
   clear c1 c2
   have r0 : v1.cell? ⟨pr, 0, none⟩ = some (.int .i64 0) := H1.out.r.cell 0
   have g0 := H1.out.r.free 0
   have r1 : v1.cell? ⟨pr, 1, none⟩ = some (.int .i64 0) := H1.out.r.cell 1
   have g1 := H1.out.r.free 1
   have r2 : v1.cell? ⟨pr, 2, none⟩ = some (.int .i64 0) := H1.out.r.cell 2
   have g2 := H1.out.r.free 2
   have r3 : v1.cell? ⟨pr, 3, none⟩ = some (.bool false) := H1.out.r.cell 3
   have g3 := H1.out.r.free 3
   have r4 : v1.cell? ⟨pr, 4, none⟩ = some (.int .i64 0) := H1.out.r.cell 4
   have g4 := H1.out.r.free 4
   have r5 : v1.cell? ⟨pr, 5, none⟩ = some (.int .i64 0) := H1.out.r.cell 5
   have g5 := H1.out.r.free 5
   have r6 : v1.cell? ⟨pr, 6, none⟩ = some (.int .i64 0) := H1.out.r.cell 6
   have g6 := H1.out.r.free 6
   go_wp2_with (fail)
   obtain ⟨hK, hO⟩ := ak_put H1.out.r zA _ rfl
   refine bodyPost_ret_by (results_row1 rfl _ _ pr 28 (akC zA) (0, 0) _ rfl hK Tryd.underlying28 rfl sizeR) rfl ?_
   exact ⟨rfl, H1.out.fin hO⟩
set_option maxRecDepth 100000 in
set_option maxHeartbeats 8000000 in
theorem rp_94 (s : ByteArray) (w : World) (hz : s.size = 10) (hb : byt s 0 = 94) (hl : byt s 9 = 0)  : Calls Tryd.prog 10 #[.string s] w (AskOut (ask s) w) := by
  obtain ⟨o, ho⟩ : ∃ o, o = ask s := ⟨_, rfl⟩
  have HC := Lib.hid (show ∀ v, Calls Tryd.prog 25 #[.string s, akV { zA with op := 94 }] v (AskOut o v) from fun v => by rw [ho]; exact res94 s v hz hb)
  rw [← ho]
  clear ho
  have HLS := Lib.hid (show lenS s = 10 by rw [lenS_yes (by omega), hb]; rfl)
  have HLC := Lib.hid (fun v => refLen_any s v)
  have HN := Lib.hid (fun (a n : Nat) v h1 h8 ha => refNum_any s a n v (by unfold maxLen; omega) h1 h8 ha)
  have HNQ := Lib.hid (fun (a n : Nat) v h1 h8 ha => refNum_same s a n v (by unfold maxLen; omega) h1 h8 ha)
  have HS := Lib.hid (fun (a n : Nat) (h : n ≤ 4) => numS_small (s := s) (a := a) (n := n) h)
  have HZ := Lib.hid hz
  have hzi : (s.size : Int) = 10 := by rw [hz]; rfl
  have i0 := index_byt s 0 0 rfl (by omega)
  have i1 := index_byt s 1 1 rfl (by omega)
  have i2 := index_byt s 2 2 rfl (by omega)
  have il := index_byt s 9 9 rfl (by omega)
  have b1 := byt_lt s 1
  have b2 := byt_lt s 2
  rw [hb] at i0
  rw [hl] at il
  generalize byt s 1 = y at *
  generalize byt s 2 = z at *
  clear hb hz hl
  have h0 := Blk.new w 28 (akC zA)
  have hbl := (Below.refl w.heap.size w).alloc (Nat.le_refl _) (.cells (akC zA) 28)
  go_enter Tryd.func10, Tryd.ntmps10
  go_upto_region 1 with (fail)
  change Code.wp _ _ _ _ (w.alloc (.cells (akC zA) 28))
  obtain ⟨pr, hpr⟩ : ∃ pr, pr = w.heap.size := ⟨_, rfl⟩
  have HR := Lib.hid h0; have HBL := Lib.hid hbl; have HPR := Lib.hid hpr
  clear h0 hbl
  generalize w.alloc (.cells (akC zA) 28) = va at *
  rw [← hpr] at HR ⊢
  clear hpr
  go_wp2_with (fail)
  refine (HLC.out va).mono ?_; rintro e vb ⟨rfl, hb⟩
  rw [HLS.out]
  have HR1 := Lib.hid (HR.out.below hb HR.out.lt); have HB1 := Lib.hid (HBL.out.trans (hb.mono HBL.out.size))
  clear hb HR HBL HLC
  go_upto_region 5 with (fail)
  change Code.wp _ _ _ _ (vb.alloc (.cells (akC { zA with op := 94 }) 28))
  have hal := (Below.refl vb.heap.size vb).alloc (Nat.le_refl _) (.cells (akC { zA with op := 94 }) 28)
  obtain ⟨x0, hx0⟩ : ∃ x : Ak, x = { zA with op := 94 } := ⟨_, rfl⟩
  obtain ⟨pa, hpa⟩ : ∃ pa, pa = vb.heap.size := ⟨_, rfl⟩
  have H0 := Lib.hid (PaAt.mk (Blk.new vb 28 (akC { zA with op := 94 })) (HR1.out.alloc _) (HB1.out.trans (hal.mono HB1.out.size)) HB1.out.size (by rw [HPR.out]; exact Nat.le_refl _) (Nat.ne_of_gt HR1.out.lt))
  generalize vb.alloc (.cells (akC { zA with op := 94 }) 28) = v0 at *
  rw [← hx0] at H0
  rw [← hpa] at H0 ⊢
  have HC1 := Lib.hid (show ∀ v, Calls Tryd.prog 25 #[.string s, akV x0] v (AskOut o v) from fun v => by rw [hx0]; exact HC.out v)
  have HX0 := Lib.hid hx0
  clear hal hpa hx0 HR1 HB1
  have c0 : v0.cell? ⟨pa, 0, none⟩ = some (.int .i64 x0.op) := H0.out.a.cell 0
  have c1 : v0.cell? ⟨pa, 1, none⟩ = some (.int .i64 x0.lba) := H0.out.a.cell 1
  have c2 : v0.cell? ⟨pa, 2, none⟩ = some (.int .i64 x0.blk) := H0.out.a.cell 2
  have c3 : v0.cell? ⟨pa, 3, none⟩ = some (.bool x0.fu) := H0.out.a.cell 3
  have c4 : v0.cell? ⟨pa, 4, none⟩ = some (.int .i64 x0.page) := H0.out.a.cell 4
  have c5 : v0.cell? ⟨pa, 5, none⟩ = some (.int .i64 x0.want) := H0.out.a.cell 5
  have c6 : v0.cell? ⟨pa, 6, none⟩ = some (.int .i64 x0.ty) := H0.out.a.cell 6
  go_wp2_with (fail)
  refine (HC1.out v0).mono ?_; rintro e v1 ⟨rfl, hb⟩
  have H1 := Lib.hid (H0.out.below hb); clear hb c0 c1 c2 c3 c4 c5 c6
  have r0 : v1.cell? ⟨pr, 0, none⟩ = some (.int .i64 0) := H1.out.r.cell 0
  have g0 := H1.out.r.free 0
  have r1 : v1.cell? ⟨pr, 1, none⟩ = some (.int .i64 0) := H1.out.r.cell 1
  have g1 := H1.out.r.free 1
  have r2 : v1.cell? ⟨pr, 2, none⟩ = some (.int .i64 0) := H1.out.r.cell 2
  have g2 := H1.out.r.free 2
  have r3 : v1.cell? ⟨pr, 3, none⟩ = some (.bool false) := H1.out.r.cell 3
  have g3 := H1.out.r.free 3
  have r4 : v1.cell? ⟨pr, 4, none⟩ = some (.int .i64 0) := H1.out.r.cell 4
  have g4 := H1.out.r.free 4
  have r5 : v1.cell? ⟨pr, 5, none⟩ = some (.int .i64 0) := H1.out.r.cell 5
  have g5 := H1.out.r.free 5
  have r6 : v1.cell? ⟨pr, 6, none⟩ = some (.int .i64 0) := H1.out.r.cell 6
  have g6 := H1.out.r.free 6
  go_wp2_with (fail)
  obtain ⟨hK, hO⟩ := ak_put H1.out.r (ansA o) _ rfl
  refine bodyPost_ret_by (results_row1 rfl _ _ pr 28 (akC (ansA o)) (0, 0) _ rfl hK Tryd.underlying28 rfl sizeR) rfl ?_
  exact ⟨rfl, H1.out.fin hO⟩
set_option maxRecDepth 100000 in
set_option maxHeartbeats 8000000 in
theorem rp_95 (s : ByteArray) (w : World) (hz : s.size = 10) (hb : byt s 0 = 95) (hl : byt s 9 = 0)  : Calls Tryd.prog 10 #[.string s] w (AskOut (ask s) w) := by
  obtain ⟨o, ho⟩ : ∃ o, o = ask s := ⟨_, rfl⟩
  have HC := Lib.hid (show ∀ v, Calls Tryd.prog 25 #[.string s, akV { zA with op := 95 }] v (AskOut o v) from fun v => by rw [ho]; exact res95 s v hz hb)
  rw [← ho]
  clear ho
  have HLS := Lib.hid (show lenS s = 10 by rw [lenS_yes (by omega), hb]; rfl)
  have HLC := Lib.hid (fun v => refLen_any s v)
  have HN := Lib.hid (fun (a n : Nat) v h1 h8 ha => refNum_any s a n v (by unfold maxLen; omega) h1 h8 ha)
  have HNQ := Lib.hid (fun (a n : Nat) v h1 h8 ha => refNum_same s a n v (by unfold maxLen; omega) h1 h8 ha)
  have HS := Lib.hid (fun (a n : Nat) (h : n ≤ 4) => numS_small (s := s) (a := a) (n := n) h)
  have HZ := Lib.hid hz
  have hzi : (s.size : Int) = 10 := by rw [hz]; rfl
  have i0 := index_byt s 0 0 rfl (by omega)
  have i1 := index_byt s 1 1 rfl (by omega)
  have i2 := index_byt s 2 2 rfl (by omega)
  have il := index_byt s 9 9 rfl (by omega)
  have b1 := byt_lt s 1
  have b2 := byt_lt s 2
  rw [hb] at i0
  rw [hl] at il
  generalize byt s 1 = y at *
  generalize byt s 2 = z at *
  clear hb hz hl
  have h0 := Blk.new w 28 (akC zA)
  have hbl := (Below.refl w.heap.size w).alloc (Nat.le_refl _) (.cells (akC zA) 28)
  go_enter Tryd.func10, Tryd.ntmps10
  go_upto_region 1 with (fail)
  change Code.wp _ _ _ _ (w.alloc (.cells (akC zA) 28))
  obtain ⟨pr, hpr⟩ : ∃ pr, pr = w.heap.size := ⟨_, rfl⟩
  have HR := Lib.hid h0; have HBL := Lib.hid hbl; have HPR := Lib.hid hpr
  clear h0 hbl
  generalize w.alloc (.cells (akC zA) 28) = va at *
  rw [← hpr] at HR ⊢
  clear hpr
  go_wp2_with (fail)
  refine (HLC.out va).mono ?_; rintro e vb ⟨rfl, hb⟩
  rw [HLS.out]
  have HR1 := Lib.hid (HR.out.below hb HR.out.lt); have HB1 := Lib.hid (HBL.out.trans (hb.mono HBL.out.size))
  clear hb HR HBL HLC
  go_upto_region 5 with (fail)
  change Code.wp _ _ _ _ (vb.alloc (.cells (akC { zA with op := 95 }) 28))
  have hal := (Below.refl vb.heap.size vb).alloc (Nat.le_refl _) (.cells (akC { zA with op := 95 }) 28)
  obtain ⟨x0, hx0⟩ : ∃ x : Ak, x = { zA with op := 95 } := ⟨_, rfl⟩
  obtain ⟨pa, hpa⟩ : ∃ pa, pa = vb.heap.size := ⟨_, rfl⟩
  have H0 := Lib.hid (PaAt.mk (Blk.new vb 28 (akC { zA with op := 95 })) (HR1.out.alloc _) (HB1.out.trans (hal.mono HB1.out.size)) HB1.out.size (by rw [HPR.out]; exact Nat.le_refl _) (Nat.ne_of_gt HR1.out.lt))
  generalize vb.alloc (.cells (akC { zA with op := 95 }) 28) = v0 at *
  rw [← hx0] at H0
  rw [← hpa] at H0 ⊢
  have HC1 := Lib.hid (show ∀ v, Calls Tryd.prog 25 #[.string s, akV x0] v (AskOut o v) from fun v => by rw [hx0]; exact HC.out v)
  have HX0 := Lib.hid hx0
  clear hal hpa hx0 HR1 HB1
  have c0 : v0.cell? ⟨pa, 0, none⟩ = some (.int .i64 x0.op) := H0.out.a.cell 0
  have c1 : v0.cell? ⟨pa, 1, none⟩ = some (.int .i64 x0.lba) := H0.out.a.cell 1
  have c2 : v0.cell? ⟨pa, 2, none⟩ = some (.int .i64 x0.blk) := H0.out.a.cell 2
  have c3 : v0.cell? ⟨pa, 3, none⟩ = some (.bool x0.fu) := H0.out.a.cell 3
  have c4 : v0.cell? ⟨pa, 4, none⟩ = some (.int .i64 x0.page) := H0.out.a.cell 4
  have c5 : v0.cell? ⟨pa, 5, none⟩ = some (.int .i64 x0.want) := H0.out.a.cell 5
  have c6 : v0.cell? ⟨pa, 6, none⟩ = some (.int .i64 x0.ty) := H0.out.a.cell 6
  go_wp2_with (fail)
  refine (HC1.out v0).mono ?_; rintro e v1 ⟨rfl, hb⟩
  have H1 := Lib.hid (H0.out.below hb); clear hb c0 c1 c2 c3 c4 c5 c6
  have r0 : v1.cell? ⟨pr, 0, none⟩ = some (.int .i64 0) := H1.out.r.cell 0
  have g0 := H1.out.r.free 0
  have r1 : v1.cell? ⟨pr, 1, none⟩ = some (.int .i64 0) := H1.out.r.cell 1
  have g1 := H1.out.r.free 1
  have r2 : v1.cell? ⟨pr, 2, none⟩ = some (.int .i64 0) := H1.out.r.cell 2
  have g2 := H1.out.r.free 2
  have r3 : v1.cell? ⟨pr, 3, none⟩ = some (.bool false) := H1.out.r.cell 3
  have g3 := H1.out.r.free 3
  have r4 : v1.cell? ⟨pr, 4, none⟩ = some (.int .i64 0) := H1.out.r.cell 4
  have g4 := H1.out.r.free 4
  have r5 : v1.cell? ⟨pr, 5, none⟩ = some (.int .i64 0) := H1.out.r.cell 5
  have g5 := H1.out.r.free 5
  have r6 : v1.cell? ⟨pr, 6, none⟩ = some (.int .i64 0) := H1.out.r.cell 6
  have g6 := H1.out.r.free 6
  go_wp2_with (fail)
  obtain ⟨hK, hO⟩ := ak_put H1.out.r (ansA o) _ rfl
  refine bodyPost_ret_by (results_row1 rfl _ _ pr 28 (akC (ansA o)) (0, 0) _ rfl hK Tryd.underlying28 rfl sizeR) rfl ?_
  exact ⟨rfl, H1.out.fin hO⟩
set_option maxRecDepth 100000 in
set_option maxHeartbeats 8000000 in
theorem rp_none (s : ByteArray) (w : World) (_ : s.size ≤ 100000) (h : lenS s = 0) : Calls Tryd.prog 10 #[.string s] w (AskOut none w) := by
  have HLC := Lib.hid (fun v => refLen_any s v)
  have HLS := Lib.hid (show ((lenS s : Nat) : Int) = 0 by rw [h]; rfl)
  clear h
  have h0 := Blk.new w 28 (akC zA)
  have hbl := (Below.refl w.heap.size w).alloc (Nat.le_refl _) (.cells (akC zA) 28)
  go_enter Tryd.func10, Tryd.ntmps10
  go_upto_region 1 with (fail)
  change Code.wp _ _ _ _ (w.alloc (.cells (akC zA) 28))
  obtain ⟨pr, hpr⟩ : ∃ pr, pr = w.heap.size := ⟨_, rfl⟩
  have HR := Lib.hid h0; have HBL := Lib.hid hbl; have HPR := Lib.hid hpr
  clear h0 hbl
  generalize w.alloc (.cells (akC zA) 28) = va at *
  rw [← hpr] at HR ⊢
  clear hpr
  go_wp2_with (fail)
  refine (HLC.out va).mono ?_; rintro e vb ⟨rfl, hb⟩
  rw [HLS.out]
  have HR1 := Lib.hid (HR.out.below hb HR.out.lt); have HB1 := Lib.hid (HBL.out.trans (hb.mono HBL.out.size))
  clear hb HR HBL HLC
  have r0 : vb.cell? ⟨pr, 0, none⟩ = some (.int .i64 0) := HR1.out.cell 0
  have g0 := HR1.out.free 0
  have r1 : vb.cell? ⟨pr, 1, none⟩ = some (.int .i64 0) := HR1.out.cell 1
  have g1 := HR1.out.free 1
  have r2 : vb.cell? ⟨pr, 2, none⟩ = some (.int .i64 0) := HR1.out.cell 2
  have g2 := HR1.out.free 2
  have r3 : vb.cell? ⟨pr, 3, none⟩ = some (.bool false) := HR1.out.cell 3
  have g3 := HR1.out.free 3
  have r4 : vb.cell? ⟨pr, 4, none⟩ = some (.int .i64 0) := HR1.out.cell 4
  have g4 := HR1.out.free 4
  have r5 : vb.cell? ⟨pr, 5, none⟩ = some (.int .i64 0) := HR1.out.cell 5
  have g5 := HR1.out.free 5
  have r6 : vb.cell? ⟨pr, 6, none⟩ = some (.int .i64 0) := HR1.out.cell 6
  have g6 := HR1.out.free 6
  go_wp2_with (fail)
  obtain ⟨hK, hO⟩ := ak_put HR1.out zA _ rfl
  refine bodyPost_ret_by (results_row1 rfl _ _ pr 28 (akC zA) (0, 0) _ rfl hK Tryd.underlying28 rfl sizeR) rfl ?_
  exact ⟨rfl, HB1.out.trans (hO.toBelow HB1.out.size (fun k hk => by rw [hk, HPR.out]; exact Nat.le_refl _))⟩
set_option maxRecDepth 100000 in
set_option maxHeartbeats 8000000 in
theorem rp_size (s : ByteArray) (w : World) (hs : s.size ≤ 100000) (n : Nat) (h : lenS s = n) (h0 : n ≠ 0) (hz : s.size ≠ n) : Calls Tryd.prog 10 #[.string s] w (AskOut none w) := by
  have HLC := Lib.hid (fun v => refLen_any s v)
  have HLS := Lib.hid (show ((lenS s : Nat) : Int) = (n : Int) by rw [h])
  have q1 : ((n : Int) == 0) = false := by rw [beqI]; exact decide_eq_false (by omega)
  have q2 : ((s.size : Int) != (n : Int)) = true := by rw [bne_iff_ne]; omega
  have q2p : ¬ (s.size : Int) = (n : Int) := by omega
  clear h hs h0 hz
  have h0 := Blk.new w 28 (akC zA)
  have hbl := (Below.refl w.heap.size w).alloc (Nat.le_refl _) (.cells (akC zA) 28)
  go_enter Tryd.func10, Tryd.ntmps10
  go_upto_region 1 with (fail)
  change Code.wp _ _ _ _ (w.alloc (.cells (akC zA) 28))
  obtain ⟨pr, hpr⟩ : ∃ pr, pr = w.heap.size := ⟨_, rfl⟩
  have HR := Lib.hid h0; have HBL := Lib.hid hbl; have HPR := Lib.hid hpr
  clear h0 hbl
  generalize w.alloc (.cells (akC zA) 28) = va at *
  rw [← hpr] at HR ⊢
  clear hpr
  go_wp2_with (fail)
  refine (HLC.out va).mono ?_; rintro e vb ⟨rfl, hb⟩
  rw [HLS.out]
  have HR1 := Lib.hid (HR.out.below hb HR.out.lt); have HB1 := Lib.hid (HBL.out.trans (hb.mono HBL.out.size))
  clear hb HR HBL HLC
  have r0 : vb.cell? ⟨pr, 0, none⟩ = some (.int .i64 0) := HR1.out.cell 0
  have g0 := HR1.out.free 0
  have r1 : vb.cell? ⟨pr, 1, none⟩ = some (.int .i64 0) := HR1.out.cell 1
  have g1 := HR1.out.free 1
  have r2 : vb.cell? ⟨pr, 2, none⟩ = some (.int .i64 0) := HR1.out.cell 2
  have g2 := HR1.out.free 2
  have r3 : vb.cell? ⟨pr, 3, none⟩ = some (.bool false) := HR1.out.cell 3
  have g3 := HR1.out.free 3
  have r4 : vb.cell? ⟨pr, 4, none⟩ = some (.int .i64 0) := HR1.out.cell 4
  have g4 := HR1.out.free 4
  have r5 : vb.cell? ⟨pr, 5, none⟩ = some (.int .i64 0) := HR1.out.cell 5
  have g5 := HR1.out.free 5
  have r6 : vb.cell? ⟨pr, 6, none⟩ = some (.int .i64 0) := HR1.out.cell 6
  have g6 := HR1.out.free 6
  go_wp2_with (fail)
  obtain ⟨hK, hO⟩ := ak_put HR1.out zA _ rfl
  refine bodyPost_ret_by (results_row1 rfl _ _ pr 28 (akC zA) (0, 0) _ rfl hK Tryd.underlying28 rfl sizeR) rfl ?_
  exact ⟨rfl, HB1.out.trans (hO.toBelow HB1.out.size (fun k hk => by rw [hk, HPR.out]; exact Nat.le_refl _))⟩
set_option maxRecDepth 100000 in
set_option maxHeartbeats 8000000 in
theorem rp_last (s : ByteArray) (w : World) (hs : s.size ≤ 100000) (n : Nat) (h : lenS s = n) (h0 : n ≠ 0) (hz : s.size = n) (hl : byt s (n - 1) ≠ 0) : Calls Tryd.prog 10 #[.string s] w (AskOut none w) := by
  have HLC := Lib.hid (fun v => refLen_any s v)
  have HLS := Lib.hid (show ((lenS s : Nat) : Int) = (n : Int) by rw [h])
  have q1 : ((n : Int) == 0) = false := by rw [beqI]; exact decide_eq_false (by omega)
  have q2 : (s.size : Int) = (n : Int) := by omega
  have hw : IntKind.i64.wrap ((n : Int) - 1) = (n : Int) - 1 := IntWalk.i64_in _ (by omega)
  have il := index_byt s ((n : Int) - 1) (n - 1) (by omega) (by omega)
  obtain ⟨y, hy⟩ : ∃ y, y = byt s (n - 1) := ⟨_, rfl⟩
  rw [← hy] at il hl
  have q3 : ((y : Int) != 0) = true := by rw [bne_iff_ne]; omega
  have q3p : ¬ (y : Int) = 0 := by omega
  clear h hs h0 hz hl hy
  have h0 := Blk.new w 28 (akC zA)
  have hbl := (Below.refl w.heap.size w).alloc (Nat.le_refl _) (.cells (akC zA) 28)
  go_enter Tryd.func10, Tryd.ntmps10
  go_upto_region 1 with (fail)
  change Code.wp _ _ _ _ (w.alloc (.cells (akC zA) 28))
  obtain ⟨pr, hpr⟩ : ∃ pr, pr = w.heap.size := ⟨_, rfl⟩
  have HR := Lib.hid h0; have HBL := Lib.hid hbl; have HPR := Lib.hid hpr
  clear h0 hbl
  generalize w.alloc (.cells (akC zA) 28) = va at *
  rw [← hpr] at HR ⊢
  clear hpr
  go_wp2_with (fail)
  refine (HLC.out va).mono ?_; rintro e vb ⟨rfl, hb⟩
  rw [HLS.out]
  have HR1 := Lib.hid (HR.out.below hb HR.out.lt); have HB1 := Lib.hid (HBL.out.trans (hb.mono HBL.out.size))
  clear hb HR HBL HLC
  have r0 : vb.cell? ⟨pr, 0, none⟩ = some (.int .i64 0) := HR1.out.cell 0
  have g0 := HR1.out.free 0
  have r1 : vb.cell? ⟨pr, 1, none⟩ = some (.int .i64 0) := HR1.out.cell 1
  have g1 := HR1.out.free 1
  have r2 : vb.cell? ⟨pr, 2, none⟩ = some (.int .i64 0) := HR1.out.cell 2
  have g2 := HR1.out.free 2
  have r3 : vb.cell? ⟨pr, 3, none⟩ = some (.bool false) := HR1.out.cell 3
  have g3 := HR1.out.free 3
  have r4 : vb.cell? ⟨pr, 4, none⟩ = some (.int .i64 0) := HR1.out.cell 4
  have g4 := HR1.out.free 4
  have r5 : vb.cell? ⟨pr, 5, none⟩ = some (.int .i64 0) := HR1.out.cell 5
  have g5 := HR1.out.free 5
  have r6 : vb.cell? ⟨pr, 6, none⟩ = some (.int .i64 0) := HR1.out.cell 6
  have g6 := HR1.out.free 6
  go_wp2_with (fail)
  obtain ⟨hK, hO⟩ := ak_put HR1.out zA _ rfl
  refine bodyPost_ret_by (results_row1 rfl _ _ pr 28 (akC zA) (0, 0) _ rfl hK Tryd.underlying28 rfl sizeR) rfl ?_
  exact ⟨rfl, HB1.out.trans (hO.toBelow HB1.out.size (fun k hk => by rw [hk, HPR.out]; exact Nat.le_refl _))⟩
end Go.Proofs.YtaachlijpgmjeaaDoor
