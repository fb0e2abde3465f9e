/- The command of a kind of changes, and the list that comes nearest to a command: the code's command and list. -/
import Derived.Test.YtdggipgieanpeaaPrS
namespace Go.Proofs.Ytdggipgieanpeaa.Pc
open Go.RowKit
set_option maxRecDepth 100000 in
set_option maxHeartbeats 4000000 in
theorem command_new_f_on (op : Int) (ty : Bool) (t : Int) (k s : Nat)  (w : World) : Calls Try.prog 16 #[kdV ⟨op, 1, ty, true, false⟩, .int .i64 t, lsV ⟨k, s, true⟩] w fun e w' => e = .returned (kcV (cmK ⟨op, 1, ty, true, false⟩ t ⟨k, s, true⟩)) ∧ Below w.heap.size w w' := by
  obtain ⟨W1, hW1⟩ : ∃ W, W = w.alloc (.cells (kdC ⟨op, 1, ty, true, false⟩) 50) := ⟨_, rfl⟩
  obtain ⟨W2, hW2⟩ : ∃ W, W = W1.alloc (.cells (lsC ⟨k, s, true⟩) 54) := ⟨_, rfl⟩
  obtain ⟨W3, hW3⟩ : ∃ W, W = W2.alloc (.cells (kcC zK) 26) := ⟨_, rfl⟩
  have s1 : W1.heap.size = w.heap.size + 1 := by rw [hW1]; simp
  have s2 : W2.heap.size = w.heap.size + 2 := by rw [hW2]; simp [s1]
  have HX0 := Lib.hid (show Blk W3 w.heap.size 50 (kdC ⟨op, 1, ty, true, false⟩) by rw [hW3, hW2, hW1]; exact ((Blk.new w _ _).alloc _).alloc _)
  have HL0 := Lib.hid (show Blk W3 (w.heap.size + 1) 54 (lsC ⟨k, s, true⟩) by
    have := (Blk.new W1 54 (lsC ⟨k, s, true⟩)).alloc (.cells (kcC zK) 26)
    rwa [← hW2, ← hW3, s1] at this)
  have HR0 := Lib.hid (show Blk W3 (w.heap.size + 2) 26 (kcC zK) by
    have := Blk.new W2 26 (kcC zK)
    rwa [← hW3, s2] at this)
  have HB0 := Lib.hid (show Below w.heap.size w W3 by
    rw [hW3, hW2, hW1]
    exact (((Below.refl w.heap.size w).alloc (Nat.le_refl _) _).alloc (by simp) _).alloc (by simp; omega) _)
  go_enter Try.func16, Try.ntmps16
  go_upto_region 1 with (fail)
  change Code.wp _ _ _ _ (((w.alloc (.cells (kdC ⟨op, 1, ty, true, false⟩) 50)).alloc (.cells (lsC ⟨k, s, true⟩) 54)).alloc (.cells (kcC zK) 26))
  rw [← hW1, ← hW2, ← hW3]
  try rw [s1]
  try rw [s2]
  clear hW1 hW2 hW3 s1 s2 W1 W2
  obtain ⟨p, hp⟩ : ∃ p, p = w.heap.size := ⟨_, rfl⟩
  have HP := Lib.hid hp
  rw [← hp] at HX0 HL0 HR0 ⊢
  clear hp
  have c0 : W3.cell? ⟨p, 0, none⟩ = some (.int .i64 op) := HX0.out.cell 0
  have c4 : W3.cell? ⟨p, 4, none⟩ = some (.bool false) := HX0.out.cell 4
  have d0 : W3.cell? ⟨p + 1, 0, none⟩ = some (.int .u64 (k : Int)) := HL0.out.cell 0
  refine wp_region_lit ?_
  refine wpList_runs rfl (some 8) rfl (.pointer (some ⟨p, 0, none⟩)) W3 (by go_simp) ?_
  refine wpList_runs rfl (some 9) rfl (.int .i64 op) W3 (by go_simp) ?_
  simp only [Act.put, List.setIfInBounds_toArray, List.set_cons_zero, List.set_cons_succ]
  refine wpList_runs rfl (some 10) rfl (.pointer (some ⟨p + 1, 0, none⟩)) W3 (by go_simp) ?_
  refine wpList_runs rfl (some 11) rfl (.int .u64 (k : Int)) W3 (by go_simp) ?_
  simp only [Act.put, List.setIfInBounds_toArray, List.set_cons_zero, List.set_cons_succ]
  refine wpList_runs rfl (some 12) rfl (.int .i64 t) W3 (by go_simp) ?_
  refine wpList_runs rfl (some 13) rfl (.pointer (some ⟨p, 4, none⟩)) W3 (by go_simp) ?_
  simp only [Act.put, List.setIfInBounds_toArray, List.set_cons_zero, List.set_cons_succ]
  refine wpList_runs rfl (some 14) rfl (.bool false) W3 (by go_simp) ?_
  simp only [Act.put, List.setIfInBounds_toArray, List.set_cons_zero, List.set_cons_succ]
  refine wpList_runs rfl (some 15) rfl (kcV { zK with op := op, ke := k, ty := t, ig := false }) W3 (by kernel_rfl) ?_
  simp only [Act.put, List.setIfInBounds_toArray, List.set_cons_zero, List.set_cons_succ]
  clear c0 c4 d0
  refine wpList_runs rfl (some 7) rfl (.pointer (some ⟨W3.heap.size, 0, none⟩)) (W3.alloc (.cells (kcC zK) 26)) (by kernel_rfl) ?_
  simp only [Act.put, List.setIfInBounds_toArray, List.set_cons_zero, List.set_cons_succ]
  have hal := (Below.refl W3.heap.size W3).alloc (Nat.le_refl _) (.cells (kcC zK) 26)
  have HG := Lib.hid (Blk.new W3 26 (kcC zK))
  have HX := Lib.hid (HX0.out.below hal HX0.out.lt); have HL := Lib.hid (HL0.out.below hal HL0.out.lt); have HR := Lib.hid (HR0.out.below hal HR0.out.lt); have HB := Lib.hid (HB0.out.trans (hal.mono HB0.out.size))
  obtain ⟨g, hg⟩ : ∃ g, g = W3.heap.size := ⟨_, rfl⟩
  have HPG := Lib.hid (show p + 2 < g by rw [hg]; exact HR0.out.lt)
  rw [← hg] at HG ⊢
  clear hal hg HX0 HL0 HR0 HB0
  generalize W3.alloc (.cells (kcC zK) 26) = v0 at *
  refine wpList_store_row rfl 26 (.tmp 7) (.tmp 15) rfl g (kcC { zK with op := op, ke := k, ty := t, ig := false }) rfl rfl 26 (kcC zK) HG.out kc_inf rfl (kcC_one _) ?_
  replace HX := Lib.hid (show Blk (v0.setRow g (kcC { zK with op := op, ke := k, ty := t, ig := false })) p 50 (kdC ⟨op, 1, ty, true, false⟩) from (setRow_other v0 g p _ (by have := HPG.out; omega)).trans HX.out)
  replace HL := Lib.hid (show Blk (v0.setRow g (kcC { zK with op := op, ke := k, ty := t, ig := false })) (p + 1) 54 (lsC ⟨k, s, true⟩) from (setRow_other v0 g (p + 1) _ (by have := HPG.out; omega)).trans HL.out)
  replace HR := Lib.hid (show Blk (v0.setRow g (kcC { zK with op := op, ke := k, ty := t, ig := false })) (p + 2) 26 (kcC zK) from (setRow_other v0 g (p + 2) _ (by have := HPG.out; omega)).trans HR.out)
  replace HG := Lib.hid (setRow_blk (cs' := kcC { zK with op := op, ke := k, ty := t, ig := false }) HG.out)
  replace HB := Lib.hid (below_only HB.out (setRow_only v0 g (kcC { zK with op := op, ke := k, ty := t, ig := false })) (by have := HP.out; have := HPG.out; omega))
  generalize v0.setRow g (kcC { zK with op := op, ke := k, ty := t, ig := false }) = v1 at *
  simp only [Act.put]
  have c1 : v1.cell? ⟨p, 1, none⟩ = some (.int .i64 1) := HX.out.cell 1
  have c3 : v1.cell? ⟨p, 3, none⟩ = some (.bool true) := HX.out.cell 3
  have c4 : v1.cell? ⟨p, 4, none⟩ = some (.bool false) := HX.out.cell 4
  have d1 : v1.cell? ⟨p + 1, 1, none⟩ = some (.int .u64 (s : Int)) := HL.out.cell 1
  have d2 : v1.cell? ⟨p + 1, 2, none⟩ = some (.bool true) := HL.out.cell 2
  have g0 : v1.cell? ⟨g, 9, none⟩ = some (.int .u64 0) := HG.out.cell 9
  have e0 := HG.out.free 9
  go_upto_region 9 with (fail)
  clear c1 c3 c4 d1 d2 g0 e0
  replace HG := Lib.hid (show Blk (v1.setCell ⟨g, 9, none⟩ (.int .u64 (s : Int))) g 26 (kcC { zK with op := op, ke := k, ty := t, ig := false, nk := s }) from HG.out.put 9 (.int .u64 (s : Int)))
  replace HX := Lib.hid (HX.out.far (p := ⟨g, 9, none⟩) (by have := HPG.out; dsimp only; omega) (.int .u64 (s : Int)))
  replace HL := Lib.hid (HL.out.far (p := ⟨g, 9, none⟩) (by have := HPG.out; dsimp only; omega) (.int .u64 (s : Int)))
  replace HR := Lib.hid (HR.out.far (p := ⟨g, 9, none⟩) (by have := HPG.out; dsimp only; omega) (.int .u64 (s : Int)))
  replace HB := Lib.hid (HB.out.setCell (p := ⟨g, 9, none⟩) (by have := HPG.out; have := HP.out; dsimp only; omega) (.int .u64 (s : Int)))
  generalize World.setCell v1 ⟨g, 9, none⟩ (.int .u64 (s : Int)) = v2 at *
  have c1 : v2.cell? ⟨p, 1, none⟩ = some (.int .i64 1) := HX.out.cell 1
  have c3 : v2.cell? ⟨p, 3, none⟩ = some (.bool true) := HX.out.cell 3
  have c4 : v2.cell? ⟨p, 4, none⟩ = some (.bool false) := HX.out.cell 4
  have d1 : v2.cell? ⟨p + 1, 1, none⟩ = some (.int .u64 (s : Int)) := HL.out.cell 1
  have d2 : v2.cell? ⟨p + 1, 2, none⟩ = some (.bool true) := HL.out.cell 2
  have g0 : v2.cell? ⟨g, 13, none⟩ = some (.int .i64 0) := HG.out.cell 13
  have e0 := HG.out.free 13
  go_upto_region 13 with (fail)
  clear c1 c3 c4 d1 d2 g0 e0
  replace HG := Lib.hid (show Blk (v2.setCell ⟨g, 13, none⟩ (.int .i64 2)) g 26 (kcC { zK with op := op, ke := k, ty := t, ig := false, nk := s, ap := 2 }) from HG.out.put 13 (.int .i64 2))
  replace HX := Lib.hid (HX.out.far (p := ⟨g, 13, none⟩) (by have := HPG.out; dsimp only; omega) (.int .i64 2))
  replace HL := Lib.hid (HL.out.far (p := ⟨g, 13, none⟩) (by have := HPG.out; dsimp only; omega) (.int .i64 2))
  replace HR := Lib.hid (HR.out.far (p := ⟨g, 13, none⟩) (by have := HPG.out; dsimp only; omega) (.int .i64 2))
  replace HB := Lib.hid (HB.out.setCell (p := ⟨g, 13, none⟩) (by have := HPG.out; have := HP.out; dsimp only; omega) (.int .i64 2))
  generalize World.setCell v2 ⟨g, 13, none⟩ (.int .i64 2) = v3 at *
  refine wp_region_lit ?_
  refine wpList_load_row rfl 26 (.tmp 7) rfl g rfl 26 (kcC { zK with op := op, ke := k, ty := t, ig := false, nk := s, ap := 2 }) (0, 0) _ HG.out Try.underlying26 rfl kc_inf ?_
  refine wpList_store_row rfl 26 (.tmp 6) (.tmp 43) rfl (p + 2) (kcC { zK with op := op, ke := k, ty := t, ig := false, nk := s, ap := 2 }) rfl rfl 26 (kcC zK) HR.out kc_inf rfl (kcC_one _) ?_
  go_wp2_with (fail)
  refine bodyPost_ret_by (results_cell_row Try.results16 _ _ (p + 2) 26 (kcC { zK with op := op, ke := k, ty := t, ig := false, nk := s, ap := 2 }) (0, 0) _ rfl (setRow_blk HR.out) Try.underlying26 rfl kc_inf) rfl ?_
  exact ⟨rfl, below_setRow HB.out (by have := HP.out; omega) _⟩
set_option maxRecDepth 100000 in
set_option maxHeartbeats 4000000 in
theorem command_new_f_off (op : Int) (ty : Bool) (t : Int) (k s : Nat)  (w : World) : Calls Try.prog 16 #[kdV ⟨op, 1, ty, true, false⟩, .int .i64 t, lsV ⟨k, s, false⟩] w fun e w' => e = .returned (kcV (cmK ⟨op, 1, ty, true, false⟩ t ⟨k, s, false⟩)) ∧ Below w.heap.size w w' := by
  obtain ⟨W1, hW1⟩ : ∃ W, W = w.alloc (.cells (kdC ⟨op, 1, ty, true, false⟩) 50) := ⟨_, rfl⟩
  obtain ⟨W2, hW2⟩ : ∃ W, W = W1.alloc (.cells (lsC ⟨k, s, false⟩) 54) := ⟨_, rfl⟩
  obtain ⟨W3, hW3⟩ : ∃ W, W = W2.alloc (.cells (kcC zK) 26) := ⟨_, rfl⟩
  have s1 : W1.heap.size = w.heap.size + 1 := by rw [hW1]; simp
  have s2 : W2.heap.size = w.heap.size + 2 := by rw [hW2]; simp [s1]
  have HX0 := Lib.hid (show Blk W3 w.heap.size 50 (kdC ⟨op, 1, ty, true, false⟩) by rw [hW3, hW2, hW1]; exact ((Blk.new w _ _).alloc _).alloc _)
  have HL0 := Lib.hid (show Blk W3 (w.heap.size + 1) 54 (lsC ⟨k, s, false⟩) by
    have := (Blk.new W1 54 (lsC ⟨k, s, false⟩)).alloc (.cells (kcC zK) 26)
    rwa [← hW2, ← hW3, s1] at this)
  have HR0 := Lib.hid (show Blk W3 (w.heap.size + 2) 26 (kcC zK) by
    have := Blk.new W2 26 (kcC zK)
    rwa [← hW3, s2] at this)
  have HB0 := Lib.hid (show Below w.heap.size w W3 by
    rw [hW3, hW2, hW1]
    exact (((Below.refl w.heap.size w).alloc (Nat.le_refl _) _).alloc (by simp) _).alloc (by simp; omega) _)
  go_enter Try.func16, Try.ntmps16
  go_upto_region 1 with (fail)
  change Code.wp _ _ _ _ (((w.alloc (.cells (kdC ⟨op, 1, ty, true, false⟩) 50)).alloc (.cells (lsC ⟨k, s, false⟩) 54)).alloc (.cells (kcC zK) 26))
  rw [← hW1, ← hW2, ← hW3]
  try rw [s1]
  try rw [s2]
  clear hW1 hW2 hW3 s1 s2 W1 W2
  obtain ⟨p, hp⟩ : ∃ p, p = w.heap.size := ⟨_, rfl⟩
  have HP := Lib.hid hp
  rw [← hp] at HX0 HL0 HR0 ⊢
  clear hp
  have c0 : W3.cell? ⟨p, 0, none⟩ = some (.int .i64 op) := HX0.out.cell 0
  have c4 : W3.cell? ⟨p, 4, none⟩ = some (.bool false) := HX0.out.cell 4
  have d0 : W3.cell? ⟨p + 1, 0, none⟩ = some (.int .u64 (k : Int)) := HL0.out.cell 0
  refine wp_region_lit ?_
  refine wpList_runs rfl (some 8) rfl (.pointer (some ⟨p, 0, none⟩)) W3 (by go_simp) ?_
  refine wpList_runs rfl (some 9) rfl (.int .i64 op) W3 (by go_simp) ?_
  simp only [Act.put, List.setIfInBounds_toArray, List.set_cons_zero, List.set_cons_succ]
  refine wpList_runs rfl (some 10) rfl (.pointer (some ⟨p + 1, 0, none⟩)) W3 (by go_simp) ?_
  refine wpList_runs rfl (some 11) rfl (.int .u64 (k : Int)) W3 (by go_simp) ?_
  simp only [Act.put, List.setIfInBounds_toArray, List.set_cons_zero, List.set_cons_succ]
  refine wpList_runs rfl (some 12) rfl (.int .i64 t) W3 (by go_simp) ?_
  refine wpList_runs rfl (some 13) rfl (.pointer (some ⟨p, 4, none⟩)) W3 (by go_simp) ?_
  simp only [Act.put, List.setIfInBounds_toArray, List.set_cons_zero, List.set_cons_succ]
  refine wpList_runs rfl (some 14) rfl (.bool false) W3 (by go_simp) ?_
  simp only [Act.put, List.setIfInBounds_toArray, List.set_cons_zero, List.set_cons_succ]
  refine wpList_runs rfl (some 15) rfl (kcV { zK with op := op, ke := k, ty := t, ig := false }) W3 (by kernel_rfl) ?_
  simp only [Act.put, List.setIfInBounds_toArray, List.set_cons_zero, List.set_cons_succ]
  clear c0 c4 d0
  refine wpList_runs rfl (some 7) rfl (.pointer (some ⟨W3.heap.size, 0, none⟩)) (W3.alloc (.cells (kcC zK) 26)) (by kernel_rfl) ?_
  simp only [Act.put, List.setIfInBounds_toArray, List.set_cons_zero, List.set_cons_succ]
  have hal := (Below.refl W3.heap.size W3).alloc (Nat.le_refl _) (.cells (kcC zK) 26)
  have HG := Lib.hid (Blk.new W3 26 (kcC zK))
  have HX := Lib.hid (HX0.out.below hal HX0.out.lt); have HL := Lib.hid (HL0.out.below hal HL0.out.lt); have HR := Lib.hid (HR0.out.below hal HR0.out.lt); have HB := Lib.hid (HB0.out.trans (hal.mono HB0.out.size))
  obtain ⟨g, hg⟩ : ∃ g, g = W3.heap.size := ⟨_, rfl⟩
  have HPG := Lib.hid (show p + 2 < g by rw [hg]; exact HR0.out.lt)
  rw [← hg] at HG ⊢
  clear hal hg HX0 HL0 HR0 HB0
  generalize W3.alloc (.cells (kcC zK) 26) = v0 at *
  refine wpList_store_row rfl 26 (.tmp 7) (.tmp 15) rfl g (kcC { zK with op := op, ke := k, ty := t, ig := false }) rfl rfl 26 (kcC zK) HG.out kc_inf rfl (kcC_one _) ?_
  replace HX := Lib.hid (show Blk (v0.setRow g (kcC { zK with op := op, ke := k, ty := t, ig := false })) p 50 (kdC ⟨op, 1, ty, true, false⟩) from (setRow_other v0 g p _ (by have := HPG.out; omega)).trans HX.out)
  replace HL := Lib.hid (show Blk (v0.setRow g (kcC { zK with op := op, ke := k, ty := t, ig := false })) (p + 1) 54 (lsC ⟨k, s, false⟩) from (setRow_other v0 g (p + 1) _ (by have := HPG.out; omega)).trans HL.out)
  replace HR := Lib.hid (show Blk (v0.setRow g (kcC { zK with op := op, ke := k, ty := t, ig := false })) (p + 2) 26 (kcC zK) from (setRow_other v0 g (p + 2) _ (by have := HPG.out; omega)).trans HR.out)
  replace HG := Lib.hid (setRow_blk (cs' := kcC { zK with op := op, ke := k, ty := t, ig := false }) HG.out)
  replace HB := Lib.hid (below_only HB.out (setRow_only v0 g (kcC { zK with op := op, ke := k, ty := t, ig := false })) (by have := HP.out; have := HPG.out; omega))
  generalize v0.setRow g (kcC { zK with op := op, ke := k, ty := t, ig := false }) = v1 at *
  simp only [Act.put]
  have c1 : v1.cell? ⟨p, 1, none⟩ = some (.int .i64 1) := HX.out.cell 1
  have c3 : v1.cell? ⟨p, 3, none⟩ = some (.bool true) := HX.out.cell 3
  have c4 : v1.cell? ⟨p, 4, none⟩ = some (.bool false) := HX.out.cell 4
  have d1 : v1.cell? ⟨p + 1, 1, none⟩ = some (.int .u64 (s : Int)) := HL.out.cell 1
  have d2 : v1.cell? ⟨p + 1, 2, none⟩ = some (.bool false) := HL.out.cell 2
  have g0 : v1.cell? ⟨g, 9, none⟩ = some (.int .u64 0) := HG.out.cell 9
  have e0 := HG.out.free 9
  go_upto_region 9 with (fail)
  clear c1 c3 c4 d1 d2 g0 e0
  replace HG := Lib.hid (show Blk (v1.setCell ⟨g, 9, none⟩ (.int .u64 (s : Int))) g 26 (kcC { zK with op := op, ke := k, ty := t, ig := false, nk := s }) from HG.out.put 9 (.int .u64 (s : Int)))
  replace HX := Lib.hid (HX.out.far (p := ⟨g, 9, none⟩) (by have := HPG.out; dsimp only; omega) (.int .u64 (s : Int)))
  replace HL := Lib.hid (HL.out.far (p := ⟨g, 9, none⟩) (by have := HPG.out; dsimp only; omega) (.int .u64 (s : Int)))
  replace HR := Lib.hid (HR.out.far (p := ⟨g, 9, none⟩) (by have := HPG.out; dsimp only; omega) (.int .u64 (s : Int)))
  replace HB := Lib.hid (HB.out.setCell (p := ⟨g, 9, none⟩) (by have := HPG.out; have := HP.out; dsimp only; omega) (.int .u64 (s : Int)))
  generalize World.setCell v1 ⟨g, 9, none⟩ (.int .u64 (s : Int)) = v2 at *
  have c1 : v2.cell? ⟨p, 1, none⟩ = some (.int .i64 1) := HX.out.cell 1
  have c3 : v2.cell? ⟨p, 3, none⟩ = some (.bool true) := HX.out.cell 3
  have c4 : v2.cell? ⟨p, 4, none⟩ = some (.bool false) := HX.out.cell 4
  have d1 : v2.cell? ⟨p + 1, 1, none⟩ = some (.int .u64 (s : Int)) := HL.out.cell 1
  have d2 : v2.cell? ⟨p + 1, 2, none⟩ = some (.bool false) := HL.out.cell 2
  have g0 : v2.cell? ⟨g, 13, none⟩ = some (.int .i64 0) := HG.out.cell 13
  have e0 := HG.out.free 13
  go_upto_region 13 with (fail)
  clear c1 c3 c4 d1 d2 g0 e0
  replace HG := Lib.hid (show Blk (v2.setCell ⟨g, 13, none⟩ (.int .i64 1)) g 26 (kcC { zK with op := op, ke := k, ty := t, ig := false, nk := s, ap := 1 }) from HG.out.put 13 (.int .i64 1))
  replace HX := Lib.hid (HX.out.far (p := ⟨g, 13, none⟩) (by have := HPG.out; dsimp only; omega) (.int .i64 1))
  replace HL := Lib.hid (HL.out.far (p := ⟨g, 13, none⟩) (by have := HPG.out; dsimp only; omega) (.int .i64 1))
  replace HR := Lib.hid (HR.out.far (p := ⟨g, 13, none⟩) (by have := HPG.out; dsimp only; omega) (.int .i64 1))
  replace HB := Lib.hid (HB.out.setCell (p := ⟨g, 13, none⟩) (by have := HPG.out; have := HP.out; dsimp only; omega) (.int .i64 1))
  generalize World.setCell v2 ⟨g, 13, none⟩ (.int .i64 1) = v3 at *
  refine wp_region_lit ?_
  refine wpList_load_row rfl 26 (.tmp 7) rfl g rfl 26 (kcC { zK with op := op, ke := k, ty := t, ig := false, nk := s, ap := 1 }) (0, 0) _ HG.out Try.underlying26 rfl kc_inf ?_
  refine wpList_store_row rfl 26 (.tmp 6) (.tmp 43) rfl (p + 2) (kcC { zK with op := op, ke := k, ty := t, ig := false, nk := s, ap := 1 }) rfl rfl 26 (kcC zK) HR.out kc_inf rfl (kcC_one _) ?_
  go_wp2_with (fail)
  refine bodyPost_ret_by (results_cell_row Try.results16 _ _ (p + 2) 26 (kcC { zK with op := op, ke := k, ty := t, ig := false, nk := s, ap := 1 }) (0, 0) _ rfl (setRow_blk HR.out) Try.underlying26 rfl kc_inf) rfl ?_
  exact ⟨rfl, below_setRow HB.out (by have := HP.out; omega) _⟩
set_option maxRecDepth 100000 in
set_option maxHeartbeats 4000000 in
theorem command_new_i_on (op : Int) (ty : Bool) (t : Int) (k s : Nat)  (w : World) : Calls Try.prog 16 #[kdV ⟨op, 1, ty, true, true⟩, .int .i64 t, lsV ⟨k, s, true⟩] w fun e w' => e = .returned (kcV (cmK ⟨op, 1, ty, true, true⟩ t ⟨k, s, true⟩)) ∧ Below w.heap.size w w' := by
  obtain ⟨W1, hW1⟩ : ∃ W, W = w.alloc (.cells (kdC ⟨op, 1, ty, true, true⟩) 50) := ⟨_, rfl⟩
  obtain ⟨W2, hW2⟩ : ∃ W, W = W1.alloc (.cells (lsC ⟨k, s, true⟩) 54) := ⟨_, rfl⟩
  obtain ⟨W3, hW3⟩ : ∃ W, W = W2.alloc (.cells (kcC zK) 26) := ⟨_, rfl⟩
  have s1 : W1.heap.size = w.heap.size + 1 := by rw [hW1]; simp
  have s2 : W2.heap.size = w.heap.size + 2 := by rw [hW2]; simp [s1]
  have HX0 := Lib.hid (show Blk W3 w.heap.size 50 (kdC ⟨op, 1, ty, true, true⟩) by rw [hW3, hW2, hW1]; exact ((Blk.new w _ _).alloc _).alloc _)
  have HL0 := Lib.hid (show Blk W3 (w.heap.size + 1) 54 (lsC ⟨k, s, true⟩) by
    have := (Blk.new W1 54 (lsC ⟨k, s, true⟩)).alloc (.cells (kcC zK) 26)
    rwa [← hW2, ← hW3, s1] at this)
  have HR0 := Lib.hid (show Blk W3 (w.heap.size + 2) 26 (kcC zK) by
    have := Blk.new W2 26 (kcC zK)
    rwa [← hW3, s2] at this)
  have HB0 := Lib.hid (show Below w.heap.size w W3 by
    rw [hW3, hW2, hW1]
    exact (((Below.refl w.heap.size w).alloc (Nat.le_refl _) _).alloc (by simp) _).alloc (by simp; omega) _)
  go_enter Try.func16, Try.ntmps16
  go_upto_region 1 with (fail)
  change Code.wp _ _ _ _ (((w.alloc (.cells (kdC ⟨op, 1, ty, true, true⟩) 50)).alloc (.cells (lsC ⟨k, s, true⟩) 54)).alloc (.cells (kcC zK) 26))
  rw [← hW1, ← hW2, ← hW3]
  try rw [s1]
  try rw [s2]
  clear hW1 hW2 hW3 s1 s2 W1 W2
  obtain ⟨p, hp⟩ : ∃ p, p = w.heap.size := ⟨_, rfl⟩
  have HP := Lib.hid hp
  rw [← hp] at HX0 HL0 HR0 ⊢
  clear hp
  have c0 : W3.cell? ⟨p, 0, none⟩ = some (.int .i64 op) := HX0.out.cell 0
  have c4 : W3.cell? ⟨p, 4, none⟩ = some (.bool true) := HX0.out.cell 4
  have d0 : W3.cell? ⟨p + 1, 0, none⟩ = some (.int .u64 (k : Int)) := HL0.out.cell 0
  refine wp_region_lit ?_
  refine wpList_runs rfl (some 8) rfl (.pointer (some ⟨p, 0, none⟩)) W3 (by go_simp) ?_
  refine wpList_runs rfl (some 9) rfl (.int .i64 op) W3 (by go_simp) ?_
  simp only [Act.put, List.setIfInBounds_toArray, List.set_cons_zero, List.set_cons_succ]
  refine wpList_runs rfl (some 10) rfl (.pointer (some ⟨p + 1, 0, none⟩)) W3 (by go_simp) ?_
  refine wpList_runs rfl (some 11) rfl (.int .u64 (k : Int)) W3 (by go_simp) ?_
  simp only [Act.put, List.setIfInBounds_toArray, List.set_cons_zero, List.set_cons_succ]
  refine wpList_runs rfl (some 12) rfl (.int .i64 t) W3 (by go_simp) ?_
  refine wpList_runs rfl (some 13) rfl (.pointer (some ⟨p, 4, none⟩)) W3 (by go_simp) ?_
  simp only [Act.put, List.setIfInBounds_toArray, List.set_cons_zero, List.set_cons_succ]
  refine wpList_runs rfl (some 14) rfl (.bool true) W3 (by go_simp) ?_
  simp only [Act.put, List.setIfInBounds_toArray, List.set_cons_zero, List.set_cons_succ]
  refine wpList_runs rfl (some 15) rfl (kcV { zK with op := op, ke := k, ty := t, ig := true }) W3 (by kernel_rfl) ?_
  simp only [Act.put, List.setIfInBounds_toArray, List.set_cons_zero, List.set_cons_succ]
  clear c0 c4 d0
  refine wpList_runs rfl (some 7) rfl (.pointer (some ⟨W3.heap.size, 0, none⟩)) (W3.alloc (.cells (kcC zK) 26)) (by kernel_rfl) ?_
  simp only [Act.put, List.setIfInBounds_toArray, List.set_cons_zero, List.set_cons_succ]
  have hal := (Below.refl W3.heap.size W3).alloc (Nat.le_refl _) (.cells (kcC zK) 26)
  have HG := Lib.hid (Blk.new W3 26 (kcC zK))
  have HX := Lib.hid (HX0.out.below hal HX0.out.lt); have HL := Lib.hid (HL0.out.below hal HL0.out.lt); have HR := Lib.hid (HR0.out.below hal HR0.out.lt); have HB := Lib.hid (HB0.out.trans (hal.mono HB0.out.size))
  obtain ⟨g, hg⟩ : ∃ g, g = W3.heap.size := ⟨_, rfl⟩
  have HPG := Lib.hid (show p + 2 < g by rw [hg]; exact HR0.out.lt)
  rw [← hg] at HG ⊢
  clear hal hg HX0 HL0 HR0 HB0
  generalize W3.alloc (.cells (kcC zK) 26) = v0 at *
  refine wpList_store_row rfl 26 (.tmp 7) (.tmp 15) rfl g (kcC { zK with op := op, ke := k, ty := t, ig := true }) rfl rfl 26 (kcC zK) HG.out kc_inf rfl (kcC_one _) ?_
  replace HX := Lib.hid (show Blk (v0.setRow g (kcC { zK with op := op, ke := k, ty := t, ig := true })) p 50 (kdC ⟨op, 1, ty, true, true⟩) from (setRow_other v0 g p _ (by have := HPG.out; omega)).trans HX.out)
  replace HL := Lib.hid (show Blk (v0.setRow g (kcC { zK with op := op, ke := k, ty := t, ig := true })) (p + 1) 54 (lsC ⟨k, s, true⟩) from (setRow_other v0 g (p + 1) _ (by have := HPG.out; omega)).trans HL.out)
  replace HR := Lib.hid (show Blk (v0.setRow g (kcC { zK with op := op, ke := k, ty := t, ig := true })) (p + 2) 26 (kcC zK) from (setRow_other v0 g (p + 2) _ (by have := HPG.out; omega)).trans HR.out)
  replace HG := Lib.hid (setRow_blk (cs' := kcC { zK with op := op, ke := k, ty := t, ig := true }) HG.out)
  replace HB := Lib.hid (below_only HB.out (setRow_only v0 g (kcC { zK with op := op, ke := k, ty := t, ig := true })) (by have := HP.out; have := HPG.out; omega))
  generalize v0.setRow g (kcC { zK with op := op, ke := k, ty := t, ig := true }) = v1 at *
  simp only [Act.put]
  have c1 : v1.cell? ⟨p, 1, none⟩ = some (.int .i64 1) := HX.out.cell 1
  have c3 : v1.cell? ⟨p, 3, none⟩ = some (.bool true) := HX.out.cell 3
  have c4 : v1.cell? ⟨p, 4, none⟩ = some (.bool true) := HX.out.cell 4
  have d1 : v1.cell? ⟨p + 1, 1, none⟩ = some (.int .u64 (s : Int)) := HL.out.cell 1
  have d2 : v1.cell? ⟨p + 1, 2, none⟩ = some (.bool true) := HL.out.cell 2
  have g0 : v1.cell? ⟨g, 8, none⟩ = some (.int .u64 (k : Int)) := HG.out.cell 8
  have e0 := HG.out.free 8
  go_upto_region 4 with (fail)
  clear c1 c3 c4 d1 d2 g0 e0
  replace HG := Lib.hid (show Blk (v1.setCell ⟨g, 8, none⟩ (.int .u64 0)) g 26 (kcC { zK with op := op, ke := 0, ty := t, ig := true }) from HG.out.put 8 (.int .u64 0))
  replace HX := Lib.hid (HX.out.far (p := ⟨g, 8, none⟩) (by have := HPG.out; dsimp only; omega) (.int .u64 0))
  replace HL := Lib.hid (HL.out.far (p := ⟨g, 8, none⟩) (by have := HPG.out; dsimp only; omega) (.int .u64 0))
  replace HR := Lib.hid (HR.out.far (p := ⟨g, 8, none⟩) (by have := HPG.out; dsimp only; omega) (.int .u64 0))
  replace HB := Lib.hid (HB.out.setCell (p := ⟨g, 8, none⟩) (by have := HPG.out; have := HP.out; dsimp only; omega) (.int .u64 0))
  generalize World.setCell v1 ⟨g, 8, none⟩ (.int .u64 0) = v2 at *
  have c1 : v2.cell? ⟨p, 1, none⟩ = some (.int .i64 1) := HX.out.cell 1
  have c3 : v2.cell? ⟨p, 3, none⟩ = some (.bool true) := HX.out.cell 3
  have c4 : v2.cell? ⟨p, 4, none⟩ = some (.bool true) := HX.out.cell 4
  have d1 : v2.cell? ⟨p + 1, 1, none⟩ = some (.int .u64 (s : Int)) := HL.out.cell 1
  have d2 : v2.cell? ⟨p + 1, 2, none⟩ = some (.bool true) := HL.out.cell 2
  have g0 : v2.cell? ⟨g, 9, none⟩ = some (.int .u64 0) := HG.out.cell 9
  have e0 := HG.out.free 9
  go_upto_region 9 with (fail)
  clear c1 c3 c4 d1 d2 g0 e0
  replace HG := Lib.hid (show Blk (v2.setCell ⟨g, 9, none⟩ (.int .u64 (s : Int))) g 26 (kcC { zK with op := op, ke := 0, ty := t, ig := true, nk := s }) from HG.out.put 9 (.int .u64 (s : Int)))
  replace HX := Lib.hid (HX.out.far (p := ⟨g, 9, none⟩) (by have := HPG.out; dsimp only; omega) (.int .u64 (s : Int)))
  replace HL := Lib.hid (HL.out.far (p := ⟨g, 9, none⟩) (by have := HPG.out; dsimp only; omega) (.int .u64 (s : Int)))
  replace HR := Lib.hid (HR.out.far (p := ⟨g, 9, none⟩) (by have := HPG.out; dsimp only; omega) (.int .u64 (s : Int)))
  replace HB := Lib.hid (HB.out.setCell (p := ⟨g, 9, none⟩) (by have := HPG.out; have := HP.out; dsimp only; omega) (.int .u64 (s : Int)))
  generalize World.setCell v2 ⟨g, 9, none⟩ (.int .u64 (s : Int)) = v3 at *
  have c1 : v3.cell? ⟨p, 1, none⟩ = some (.int .i64 1) := HX.out.cell 1
  have c3 : v3.cell? ⟨p, 3, none⟩ = some (.bool true) := HX.out.cell 3
  have c4 : v3.cell? ⟨p, 4, none⟩ = some (.bool true) := HX.out.cell 4
  have d1 : v3.cell? ⟨p + 1, 1, none⟩ = some (.int .u64 (s : Int)) := HL.out.cell 1
  have d2 : v3.cell? ⟨p + 1, 2, none⟩ = some (.bool true) := HL.out.cell 2
  have g0 : v3.cell? ⟨g, 13, none⟩ = some (.int .i64 0) := HG.out.cell 13
  have e0 := HG.out.free 13
  go_upto_region 13 with (fail)
  clear c1 c3 c4 d1 d2 g0 e0
  replace HG := Lib.hid (show Blk (v3.setCell ⟨g, 13, none⟩ (.int .i64 2)) g 26 (kcC { zK with op := op, ke := 0, ty := t, ig := true, nk := s, ap := 2 }) from HG.out.put 13 (.int .i64 2))
  replace HX := Lib.hid (HX.out.far (p := ⟨g, 13, none⟩) (by have := HPG.out; dsimp only; omega) (.int .i64 2))
  replace HL := Lib.hid (HL.out.far (p := ⟨g, 13, none⟩) (by have := HPG.out; dsimp only; omega) (.int .i64 2))
  replace HR := Lib.hid (HR.out.far (p := ⟨g, 13, none⟩) (by have := HPG.out; dsimp only; omega) (.int .i64 2))
  replace HB := Lib.hid (HB.out.setCell (p := ⟨g, 13, none⟩) (by have := HPG.out; have := HP.out; dsimp only; omega) (.int .i64 2))
  generalize World.setCell v3 ⟨g, 13, none⟩ (.int .i64 2) = v4 at *
  refine wp_region_lit ?_
  refine wpList_load_row rfl 26 (.tmp 7) rfl g rfl 26 (kcC { zK with op := op, ke := 0, ty := t, ig := true, nk := s, ap := 2 }) (0, 0) _ HG.out Try.underlying26 rfl kc_inf ?_
  refine wpList_store_row rfl 26 (.tmp 6) (.tmp 43) rfl (p + 2) (kcC { zK with op := op, ke := 0, ty := t, ig := true, nk := s, ap := 2 }) rfl rfl 26 (kcC zK) HR.out kc_inf rfl (kcC_one _) ?_
  go_wp2_with (fail)
  refine bodyPost_ret_by (results_cell_row Try.results16 _ _ (p + 2) 26 (kcC { zK with op := op, ke := 0, ty := t, ig := true, nk := s, ap := 2 }) (0, 0) _ rfl (setRow_blk HR.out) Try.underlying26 rfl kc_inf) rfl ?_
  exact ⟨rfl, below_setRow HB.out (by have := HP.out; omega) _⟩
set_option maxRecDepth 100000 in
set_option maxHeartbeats 4000000 in
theorem command_new_i_off (op : Int) (ty : Bool) (t : Int) (k s : Nat)  (w : World) : Calls Try.prog 16 #[kdV ⟨op, 1, ty, true, true⟩, .int .i64 t, lsV ⟨k, s, false⟩] w fun e w' => e = .returned (kcV (cmK ⟨op, 1, ty, true, true⟩ t ⟨k, s, false⟩)) ∧ Below w.heap.size w w' := by
  obtain ⟨W1, hW1⟩ : ∃ W, W = w.alloc (.cells (kdC ⟨op, 1, ty, true, true⟩) 50) := ⟨_, rfl⟩
  obtain ⟨W2, hW2⟩ : ∃ W, W = W1.alloc (.cells (lsC ⟨k, s, false⟩) 54) := ⟨_, rfl⟩
  obtain ⟨W3, hW3⟩ : ∃ W, W = W2.alloc (.cells (kcC zK) 26) := ⟨_, rfl⟩
  have s1 : W1.heap.size = w.heap.size + 1 := by rw [hW1]; simp
  have s2 : W2.heap.size = w.heap.size + 2 := by rw [hW2]; simp [s1]
  have HX0 := Lib.hid (show Blk W3 w.heap.size 50 (kdC ⟨op, 1, ty, true, true⟩) by rw [hW3, hW2, hW1]; exact ((Blk.new w _ _).alloc _).alloc _)
  have HL0 := Lib.hid (show Blk W3 (w.heap.size + 1) 54 (lsC ⟨k, s, false⟩) by
    have := (Blk.new W1 54 (lsC ⟨k, s, false⟩)).alloc (.cells (kcC zK) 26)
    rwa [← hW2, ← hW3, s1] at this)
  have HR0 := Lib.hid (show Blk W3 (w.heap.size + 2) 26 (kcC zK) by
    have := Blk.new W2 26 (kcC zK)
    rwa [← hW3, s2] at this)
  have HB0 := Lib.hid (show Below w.heap.size w W3 by
    rw [hW3, hW2, hW1]
    exact (((Below.refl w.heap.size w).alloc (Nat.le_refl _) _).alloc (by simp) _).alloc (by simp; omega) _)
  go_enter Try.func16, Try.ntmps16
  go_upto_region 1 with (fail)
  change Code.wp _ _ _ _ (((w.alloc (.cells (kdC ⟨op, 1, ty, true, true⟩) 50)).alloc (.cells (lsC ⟨k, s, false⟩) 54)).alloc (.cells (kcC zK) 26))
  rw [← hW1, ← hW2, ← hW3]
  try rw [s1]
  try rw [s2]
  clear hW1 hW2 hW3 s1 s2 W1 W2
  obtain ⟨p, hp⟩ : ∃ p, p = w.heap.size := ⟨_, rfl⟩
  have HP := Lib.hid hp
  rw [← hp] at HX0 HL0 HR0 ⊢
  clear hp
  have c0 : W3.cell? ⟨p, 0, none⟩ = some (.int .i64 op) := HX0.out.cell 0
  have c4 : W3.cell? ⟨p, 4, none⟩ = some (.bool true) := HX0.out.cell 4
  have d0 : W3.cell? ⟨p + 1, 0, none⟩ = some (.int .u64 (k : Int)) := HL0.out.cell 0
  refine wp_region_lit ?_
  refine wpList_runs rfl (some 8) rfl (.pointer (some ⟨p, 0, none⟩)) W3 (by go_simp) ?_
  refine wpList_runs rfl (some 9) rfl (.int .i64 op) W3 (by go_simp) ?_
  simp only [Act.put, List.setIfInBounds_toArray, List.set_cons_zero, List.set_cons_succ]
  refine wpList_runs rfl (some 10) rfl (.pointer (some ⟨p + 1, 0, none⟩)) W3 (by go_simp) ?_
  refine wpList_runs rfl (some 11) rfl (.int .u64 (k : Int)) W3 (by go_simp) ?_
  simp only [Act.put, List.setIfInBounds_toArray, List.set_cons_zero, List.set_cons_succ]
  refine wpList_runs rfl (some 12) rfl (.int .i64 t) W3 (by go_simp) ?_
  refine wpList_runs rfl (some 13) rfl (.pointer (some ⟨p, 4, none⟩)) W3 (by go_simp) ?_
  simp only [Act.put, List.setIfInBounds_toArray, List.set_cons_zero, List.set_cons_succ]
  refine wpList_runs rfl (some 14) rfl (.bool true) W3 (by go_simp) ?_
  simp only [Act.put, List.setIfInBounds_toArray, List.set_cons_zero, List.set_cons_succ]
  refine wpList_runs rfl (some 15) rfl (kcV { zK with op := op, ke := k, ty := t, ig := true }) W3 (by kernel_rfl) ?_
  simp only [Act.put, List.setIfInBounds_toArray, List.set_cons_zero, List.set_cons_succ]
  clear c0 c4 d0
  refine wpList_runs rfl (some 7) rfl (.pointer (some ⟨W3.heap.size, 0, none⟩)) (W3.alloc (.cells (kcC zK) 26)) (by kernel_rfl) ?_
  simp only [Act.put, List.setIfInBounds_toArray, List.set_cons_zero, List.set_cons_succ]
  have hal := (Below.refl W3.heap.size W3).alloc (Nat.le_refl _) (.cells (kcC zK) 26)
  have HG := Lib.hid (Blk.new W3 26 (kcC zK))
  have HX := Lib.hid (HX0.out.below hal HX0.out.lt); have HL := Lib.hid (HL0.out.below hal HL0.out.lt); have HR := Lib.hid (HR0.out.below hal HR0.out.lt); have HB := Lib.hid (HB0.out.trans (hal.mono HB0.out.size))
  obtain ⟨g, hg⟩ : ∃ g, g = W3.heap.size := ⟨_, rfl⟩
  have HPG := Lib.hid (show p + 2 < g by rw [hg]; exact HR0.out.lt)
  rw [← hg] at HG ⊢
  clear hal hg HX0 HL0 HR0 HB0
  generalize W3.alloc (.cells (kcC zK) 26) = v0 at *
  refine wpList_store_row rfl 26 (.tmp 7) (.tmp 15) rfl g (kcC { zK with op := op, ke := k, ty := t, ig := true }) rfl rfl 26 (kcC zK) HG.out kc_inf rfl (kcC_one _) ?_
  replace HX := Lib.hid (show Blk (v0.setRow g (kcC { zK with op := op, ke := k, ty := t, ig := true })) p 50 (kdC ⟨op, 1, ty, true, true⟩) from (setRow_other v0 g p _ (by have := HPG.out; omega)).trans HX.out)
  replace HL := Lib.hid (show Blk (v0.setRow g (kcC { zK with op := op, ke := k, ty := t, ig := true })) (p + 1) 54 (lsC ⟨k, s, false⟩) from (setRow_other v0 g (p + 1) _ (by have := HPG.out; omega)).trans HL.out)
  replace HR := Lib.hid (show Blk (v0.setRow g (kcC { zK with op := op, ke := k, ty := t, ig := true })) (p + 2) 26 (kcC zK) from (setRow_other v0 g (p + 2) _ (by have := HPG.out; omega)).trans HR.out)
  replace HG := Lib.hid (setRow_blk (cs' := kcC { zK with op := op, ke := k, ty := t, ig := true }) HG.out)
  replace HB := Lib.hid (below_only HB.out (setRow_only v0 g (kcC { zK with op := op, ke := k, ty := t, ig := true })) (by have := HP.out; have := HPG.out; omega))
  generalize v0.setRow g (kcC { zK with op := op, ke := k, ty := t, ig := true }) = v1 at *
  simp only [Act.put]
  have c1 : v1.cell? ⟨p, 1, none⟩ = some (.int .i64 1) := HX.out.cell 1
  have c3 : v1.cell? ⟨p, 3, none⟩ = some (.bool true) := HX.out.cell 3
  have c4 : v1.cell? ⟨p, 4, none⟩ = some (.bool true) := HX.out.cell 4
  have d1 : v1.cell? ⟨p + 1, 1, none⟩ = some (.int .u64 (s : Int)) := HL.out.cell 1
  have d2 : v1.cell? ⟨p + 1, 2, none⟩ = some (.bool false) := HL.out.cell 2
  have g0 : v1.cell? ⟨g, 8, none⟩ = some (.int .u64 (k : Int)) := HG.out.cell 8
  have e0 := HG.out.free 8
  go_upto_region 4 with (fail)
  clear c1 c3 c4 d1 d2 g0 e0
  replace HG := Lib.hid (show Blk (v1.setCell ⟨g, 8, none⟩ (.int .u64 0)) g 26 (kcC { zK with op := op, ke := 0, ty := t, ig := true }) from HG.out.put 8 (.int .u64 0))
  replace HX := Lib.hid (HX.out.far (p := ⟨g, 8, none⟩) (by have := HPG.out; dsimp only; omega) (.int .u64 0))
  replace HL := Lib.hid (HL.out.far (p := ⟨g, 8, none⟩) (by have := HPG.out; dsimp only; omega) (.int .u64 0))
  replace HR := Lib.hid (HR.out.far (p := ⟨g, 8, none⟩) (by have := HPG.out; dsimp only; omega) (.int .u64 0))
  replace HB := Lib.hid (HB.out.setCell (p := ⟨g, 8, none⟩) (by have := HPG.out; have := HP.out; dsimp only; omega) (.int .u64 0))
  generalize World.setCell v1 ⟨g, 8, none⟩ (.int .u64 0) = v2 at *
  have c1 : v2.cell? ⟨p, 1, none⟩ = some (.int .i64 1) := HX.out.cell 1
  have c3 : v2.cell? ⟨p, 3, none⟩ = some (.bool true) := HX.out.cell 3
  have c4 : v2.cell? ⟨p, 4, none⟩ = some (.bool true) := HX.out.cell 4
  have d1 : v2.cell? ⟨p + 1, 1, none⟩ = some (.int .u64 (s : Int)) := HL.out.cell 1
  have d2 : v2.cell? ⟨p + 1, 2, none⟩ = some (.bool false) := HL.out.cell 2
  have g0 : v2.cell? ⟨g, 9, none⟩ = some (.int .u64 0) := HG.out.cell 9
  have e0 := HG.out.free 9
  go_upto_region 9 with (fail)
  clear c1 c3 c4 d1 d2 g0 e0
  replace HG := Lib.hid (show Blk (v2.setCell ⟨g, 9, none⟩ (.int .u64 (s : Int))) g 26 (kcC { zK with op := op, ke := 0, ty := t, ig := true, nk := s }) from HG.out.put 9 (.int .u64 (s : Int)))
  replace HX := Lib.hid (HX.out.far (p := ⟨g, 9, none⟩) (by have := HPG.out; dsimp only; omega) (.int .u64 (s : Int)))
  replace HL := Lib.hid (HL.out.far (p := ⟨g, 9, none⟩) (by have := HPG.out; dsimp only; omega) (.int .u64 (s : Int)))
  replace HR := Lib.hid (HR.out.far (p := ⟨g, 9, none⟩) (by have := HPG.out; dsimp only; omega) (.int .u64 (s : Int)))
  replace HB := Lib.hid (HB.out.setCell (p := ⟨g, 9, none⟩) (by have := HPG.out; have := HP.out; dsimp only; omega) (.int .u64 (s : Int)))
  generalize World.setCell v2 ⟨g, 9, none⟩ (.int .u64 (s : Int)) = v3 at *
  have c1 : v3.cell? ⟨p, 1, none⟩ = some (.int .i64 1) := HX.out.cell 1
  have c3 : v3.cell? ⟨p, 3, none⟩ = some (.bool true) := HX.out.cell 3
  have c4 : v3.cell? ⟨p, 4, none⟩ = some (.bool true) := HX.out.cell 4
  have d1 : v3.cell? ⟨p + 1, 1, none⟩ = some (.int .u64 (s : Int)) := HL.out.cell 1
  have d2 : v3.cell? ⟨p + 1, 2, none⟩ = some (.bool false) := HL.out.cell 2
  have g0 : v3.cell? ⟨g, 13, none⟩ = some (.int .i64 0) := HG.out.cell 13
  have e0 := HG.out.free 13
  go_upto_region 13 with (fail)
  clear c1 c3 c4 d1 d2 g0 e0
  replace HG := Lib.hid (show Blk (v3.setCell ⟨g, 13, none⟩ (.int .i64 1)) g 26 (kcC { zK with op := op, ke := 0, ty := t, ig := true, nk := s, ap := 1 }) from HG.out.put 13 (.int .i64 1))
  replace HX := Lib.hid (HX.out.far (p := ⟨g, 13, none⟩) (by have := HPG.out; dsimp only; omega) (.int .i64 1))
  replace HL := Lib.hid (HL.out.far (p := ⟨g, 13, none⟩) (by have := HPG.out; dsimp only; omega) (.int .i64 1))
  replace HR := Lib.hid (HR.out.far (p := ⟨g, 13, none⟩) (by have := HPG.out; dsimp only; omega) (.int .i64 1))
  replace HB := Lib.hid (HB.out.setCell (p := ⟨g, 13, none⟩) (by have := HPG.out; have := HP.out; dsimp only; omega) (.int .i64 1))
  generalize World.setCell v3 ⟨g, 13, none⟩ (.int .i64 1) = v4 at *
  refine wp_region_lit ?_
  refine wpList_load_row rfl 26 (.tmp 7) rfl g rfl 26 (kcC { zK with op := op, ke := 0, ty := t, ig := true, nk := s, ap := 1 }) (0, 0) _ HG.out Try.underlying26 rfl kc_inf ?_
  refine wpList_store_row rfl 26 (.tmp 6) (.tmp 43) rfl (p + 2) (kcC { zK with op := op, ke := 0, ty := t, ig := true, nk := s, ap := 1 }) rfl rfl 26 (kcC zK) HR.out kc_inf rfl (kcC_one _) ?_
  go_wp2_with (fail)
  refine bodyPost_ret_by (results_cell_row Try.results16 _ _ (p + 2) 26 (kcC { zK with op := op, ke := 0, ty := t, ig := true, nk := s, ap := 1 }) (0, 0) _ rfl (setRow_blk HR.out) Try.underlying26 rfl kc_inf) rfl ?_
  exact ⟨rfl, below_setRow HB.out (by have := HP.out; omega) _⟩
set_option maxRecDepth 100000 in
set_option maxHeartbeats 4000000 in
theorem command_none (op : Int) (ty : Bool) (t : Int) (k s : Nat) (a : Bool) (w : World) : Calls Try.prog 16 #[kdV ⟨op, 0, ty, false, false⟩, .int .i64 t, lsV ⟨k, s, a⟩] w fun e w' => e = .returned (kcV (cmK ⟨op, 0, ty, false, false⟩ t ⟨k, s, a⟩)) ∧ Below w.heap.size w w' := by
  obtain ⟨W1, hW1⟩ : ∃ W, W = w.alloc (.cells (kdC ⟨op, 0, ty, false, false⟩) 50) := ⟨_, rfl⟩
  obtain ⟨W2, hW2⟩ : ∃ W, W = W1.alloc (.cells (lsC ⟨k, s, a⟩) 54) := ⟨_, rfl⟩
  obtain ⟨W3, hW3⟩ : ∃ W, W = W2.alloc (.cells (kcC zK) 26) := ⟨_, rfl⟩
  have s1 : W1.heap.size = w.heap.size + 1 := by rw [hW1]; simp
  have s2 : W2.heap.size = w.heap.size + 2 := by rw [hW2]; simp [s1]
  have HX0 := Lib.hid (show Blk W3 w.heap.size 50 (kdC ⟨op, 0, ty, false, false⟩) by rw [hW3, hW2, hW1]; exact ((Blk.new w _ _).alloc _).alloc _)
  have HL0 := Lib.hid (show Blk W3 (w.heap.size + 1) 54 (lsC ⟨k, s, a⟩) by
    have := (Blk.new W1 54 (lsC ⟨k, s, a⟩)).alloc (.cells (kcC zK) 26)
    rwa [← hW2, ← hW3, s1] at this)
  have HR0 := Lib.hid (show Blk W3 (w.heap.size + 2) 26 (kcC zK) by
    have := Blk.new W2 26 (kcC zK)
    rwa [← hW3, s2] at this)
  have HB0 := Lib.hid (show Below w.heap.size w W3 by
    rw [hW3, hW2, hW1]
    exact (((Below.refl w.heap.size w).alloc (Nat.le_refl _) _).alloc (by simp) _).alloc (by simp; omega) _)
  go_enter Try.func16, Try.ntmps16
  go_upto_region 1 with (fail)
  change Code.wp _ _ _ _ (((w.alloc (.cells (kdC ⟨op, 0, ty, false, false⟩) 50)).alloc (.cells (lsC ⟨k, s, a⟩) 54)).alloc (.cells (kcC zK) 26))
  rw [← hW1, ← hW2, ← hW3]
  try rw [s1]
  try rw [s2]
  clear hW1 hW2 hW3 s1 s2 W1 W2
  obtain ⟨p, hp⟩ : ∃ p, p = w.heap.size := ⟨_, rfl⟩
  have HP := Lib.hid hp
  rw [← hp] at HX0 HL0 HR0 ⊢
  clear hp
  have c0 : W3.cell? ⟨p, 0, none⟩ = some (.int .i64 op) := HX0.out.cell 0
  have c4 : W3.cell? ⟨p, 4, none⟩ = some (.bool false) := HX0.out.cell 4
  have d0 : W3.cell? ⟨p + 1, 0, none⟩ = some (.int .u64 (k : Int)) := HL0.out.cell 0
  refine wp_region_lit ?_
  refine wpList_runs rfl (some 8) rfl (.pointer (some ⟨p, 0, none⟩)) W3 (by go_simp) ?_
  refine wpList_runs rfl (some 9) rfl (.int .i64 op) W3 (by go_simp) ?_
  simp only [Act.put, List.setIfInBounds_toArray, List.set_cons_zero, List.set_cons_succ]
  refine wpList_runs rfl (some 10) rfl (.pointer (some ⟨p + 1, 0, none⟩)) W3 (by go_simp) ?_
  refine wpList_runs rfl (some 11) rfl (.int .u64 (k : Int)) W3 (by go_simp) ?_
  simp only [Act.put, List.setIfInBounds_toArray, List.set_cons_zero, List.set_cons_succ]
  refine wpList_runs rfl (some 12) rfl (.int .i64 t) W3 (by go_simp) ?_
  refine wpList_runs rfl (some 13) rfl (.pointer (some ⟨p, 4, none⟩)) W3 (by go_simp) ?_
  simp only [Act.put, List.setIfInBounds_toArray, List.set_cons_zero, List.set_cons_succ]
  refine wpList_runs rfl (some 14) rfl (.bool false) W3 (by go_simp) ?_
  simp only [Act.put, List.setIfInBounds_toArray, List.set_cons_zero, List.set_cons_succ]
  refine wpList_runs rfl (some 15) rfl (kcV { zK with op := op, ke := k, ty := t, ig := false }) W3 (by kernel_rfl) ?_
  simp only [Act.put, List.setIfInBounds_toArray, List.set_cons_zero, List.set_cons_succ]
  clear c0 c4 d0
  refine wpList_runs rfl (some 7) rfl (.pointer (some ⟨W3.heap.size, 0, none⟩)) (W3.alloc (.cells (kcC zK) 26)) (by kernel_rfl) ?_
  simp only [Act.put, List.setIfInBounds_toArray, List.set_cons_zero, List.set_cons_succ]
  have hal := (Below.refl W3.heap.size W3).alloc (Nat.le_refl _) (.cells (kcC zK) 26)
  have HG := Lib.hid (Blk.new W3 26 (kcC zK))
  have HX := Lib.hid (HX0.out.below hal HX0.out.lt); have HL := Lib.hid (HL0.out.below hal HL0.out.lt); have HR := Lib.hid (HR0.out.below hal HR0.out.lt); have HB := Lib.hid (HB0.out.trans (hal.mono HB0.out.size))
  obtain ⟨g, hg⟩ : ∃ g, g = W3.heap.size := ⟨_, rfl⟩
  have HPG := Lib.hid (show p + 2 < g by rw [hg]; exact HR0.out.lt)
  rw [← hg] at HG ⊢
  clear hal hg HX0 HL0 HR0 HB0
  generalize W3.alloc (.cells (kcC zK) 26) = v0 at *
  refine wpList_store_row rfl 26 (.tmp 7) (.tmp 15) rfl g (kcC { zK with op := op, ke := k, ty := t, ig := false }) rfl rfl 26 (kcC zK) HG.out kc_inf rfl (kcC_one _) ?_
  replace HX := Lib.hid (show Blk (v0.setRow g (kcC { zK with op := op, ke := k, ty := t, ig := false })) p 50 (kdC ⟨op, 0, ty, false, false⟩) from (setRow_other v0 g p _ (by have := HPG.out; omega)).trans HX.out)
  replace HL := Lib.hid (show Blk (v0.setRow g (kcC { zK with op := op, ke := k, ty := t, ig := false })) (p + 1) 54 (lsC ⟨k, s, a⟩) from (setRow_other v0 g (p + 1) _ (by have := HPG.out; omega)).trans HL.out)
  replace HR := Lib.hid (show Blk (v0.setRow g (kcC { zK with op := op, ke := k, ty := t, ig := false })) (p + 2) 26 (kcC zK) from (setRow_other v0 g (p + 2) _ (by have := HPG.out; omega)).trans HR.out)
  replace HG := Lib.hid (setRow_blk (cs' := kcC { zK with op := op, ke := k, ty := t, ig := false }) HG.out)
  replace HB := Lib.hid (below_only HB.out (setRow_only v0 g (kcC { zK with op := op, ke := k, ty := t, ig := false })) (by have := HP.out; have := HPG.out; omega))
  generalize v0.setRow g (kcC { zK with op := op, ke := k, ty := t, ig := false }) = v1 at *
  simp only [Act.put]
  have c1 : v1.cell? ⟨p, 1, none⟩ = some (.int .i64 0) := HX.out.cell 1
  have c3 : v1.cell? ⟨p, 3, none⟩ = some (.bool false) := HX.out.cell 3
  have c4 : v1.cell? ⟨p, 4, none⟩ = some (.bool false) := HX.out.cell 4
  have d1 : v1.cell? ⟨p + 1, 1, none⟩ = some (.int .u64 (s : Int)) := HL.out.cell 1
  have d2 : v1.cell? ⟨p + 1, 2, none⟩ = some (.bool a) := HL.out.cell 2
  go_upto_region 13 with (fail)
  clear c1 c3 c4 d1 d2
  refine wp_region_lit ?_
  refine wpList_load_row rfl 26 (.tmp 7) rfl g rfl 26 (kcC { zK with op := op, ke := k, ty := t, ig := false }) (0, 0) _ HG.out Try.underlying26 rfl kc_inf ?_
  refine wpList_store_row rfl 26 (.tmp 6) (.tmp 43) rfl (p + 2) (kcC { zK with op := op, ke := k, ty := t, ig := false }) rfl rfl 26 (kcC zK) HR.out kc_inf rfl (kcC_one _) ?_
  go_wp2_with (fail)
  refine bodyPost_ret_by (results_cell_row Try.results16 _ _ (p + 2) 26 (kcC { zK with op := op, ke := k, ty := t, ig := false }) (0, 0) _ rfl (setRow_blk HR.out) Try.underlying26 rfl kc_inf) rfl ?_
  exact ⟨rfl, below_setRow HB.out (by have := HP.out; omega) _⟩
set_option maxRecDepth 100000 in
set_option maxHeartbeats 4000000 in
theorem command_other (op : Int) (ty : Bool) (t : Int) (k s : Nat) (a : Bool) (w : World) : Calls Try.prog 16 #[kdV ⟨op, 2, ty, false, false⟩, .int .i64 t, lsV ⟨k, s, a⟩] w fun e w' => e = .returned (kcV (cmK ⟨op, 2, ty, false, false⟩ t ⟨k, s, a⟩)) ∧ Below w.heap.size w w' := by
  obtain ⟨W1, hW1⟩ : ∃ W, W = w.alloc (.cells (kdC ⟨op, 2, ty, false, false⟩) 50) := ⟨_, rfl⟩
  obtain ⟨W2, hW2⟩ : ∃ W, W = W1.alloc (.cells (lsC ⟨k, s, a⟩) 54) := ⟨_, rfl⟩
  obtain ⟨W3, hW3⟩ : ∃ W, W = W2.alloc (.cells (kcC zK) 26) := ⟨_, rfl⟩
  have s1 : W1.heap.size = w.heap.size + 1 := by rw [hW1]; simp
  have s2 : W2.heap.size = w.heap.size + 2 := by rw [hW2]; simp [s1]
  have HX0 := Lib.hid (show Blk W3 w.heap.size 50 (kdC ⟨op, 2, ty, false, false⟩) by rw [hW3, hW2, hW1]; exact ((Blk.new w _ _).alloc _).alloc _)
  have HL0 := Lib.hid (show Blk W3 (w.heap.size + 1) 54 (lsC ⟨k, s, a⟩) by
    have := (Blk.new W1 54 (lsC ⟨k, s, a⟩)).alloc (.cells (kcC zK) 26)
    rwa [← hW2, ← hW3, s1] at this)
  have HR0 := Lib.hid (show Blk W3 (w.heap.size + 2) 26 (kcC zK) by
    have := Blk.new W2 26 (kcC zK)
    rwa [← hW3, s2] at this)
  have HB0 := Lib.hid (show Below w.heap.size w W3 by
    rw [hW3, hW2, hW1]
    exact (((Below.refl w.heap.size w).alloc (Nat.le_refl _) _).alloc (by simp) _).alloc (by simp; omega) _)
  go_enter Try.func16, Try.ntmps16
  go_upto_region 1 with (fail)
  change Code.wp _ _ _ _ (((w.alloc (.cells (kdC ⟨op, 2, ty, false, false⟩) 50)).alloc (.cells (lsC ⟨k, s, a⟩) 54)).alloc (.cells (kcC zK) 26))
  rw [← hW1, ← hW2, ← hW3]
  try rw [s1]
  try rw [s2]
  clear hW1 hW2 hW3 s1 s2 W1 W2
  obtain ⟨p, hp⟩ : ∃ p, p = w.heap.size := ⟨_, rfl⟩
  have HP := Lib.hid hp
  rw [← hp] at HX0 HL0 HR0 ⊢
  clear hp
  have c0 : W3.cell? ⟨p, 0, none⟩ = some (.int .i64 op) := HX0.out.cell 0
  have c4 : W3.cell? ⟨p, 4, none⟩ = some (.bool false) := HX0.out.cell 4
  have d0 : W3.cell? ⟨p + 1, 0, none⟩ = some (.int .u64 (k : Int)) := HL0.out.cell 0
  refine wp_region_lit ?_
  refine wpList_runs rfl (some 8) rfl (.pointer (some ⟨p, 0, none⟩)) W3 (by go_simp) ?_
  refine wpList_runs rfl (some 9) rfl (.int .i64 op) W3 (by go_simp) ?_
  simp only [Act.put, List.setIfInBounds_toArray, List.set_cons_zero, List.set_cons_succ]
  refine wpList_runs rfl (some 10) rfl (.pointer (some ⟨p + 1, 0, none⟩)) W3 (by go_simp) ?_
  refine wpList_runs rfl (some 11) rfl (.int .u64 (k : Int)) W3 (by go_simp) ?_
  simp only [Act.put, List.setIfInBounds_toArray, List.set_cons_zero, List.set_cons_succ]
  refine wpList_runs rfl (some 12) rfl (.int .i64 t) W3 (by go_simp) ?_
  refine wpList_runs rfl (some 13) rfl (.pointer (some ⟨p, 4, none⟩)) W3 (by go_simp) ?_
  simp only [Act.put, List.setIfInBounds_toArray, List.set_cons_zero, List.set_cons_succ]
  refine wpList_runs rfl (some 14) rfl (.bool false) W3 (by go_simp) ?_
  simp only [Act.put, List.setIfInBounds_toArray, List.set_cons_zero, List.set_cons_succ]
  refine wpList_runs rfl (some 15) rfl (kcV { zK with op := op, ke := k, ty := t, ig := false }) W3 (by kernel_rfl) ?_
  simp only [Act.put, List.setIfInBounds_toArray, List.set_cons_zero, List.set_cons_succ]
  clear c0 c4 d0
  refine wpList_runs rfl (some 7) rfl (.pointer (some ⟨W3.heap.size, 0, none⟩)) (W3.alloc (.cells (kcC zK) 26)) (by kernel_rfl) ?_
  simp only [Act.put, List.setIfInBounds_toArray, List.set_cons_zero, List.set_cons_succ]
  have hal := (Below.refl W3.heap.size W3).alloc (Nat.le_refl _) (.cells (kcC zK) 26)
  have HG := Lib.hid (Blk.new W3 26 (kcC zK))
  have HX := Lib.hid (HX0.out.below hal HX0.out.lt); have HL := Lib.hid (HL0.out.below hal HL0.out.lt); have HR := Lib.hid (HR0.out.below hal HR0.out.lt); have HB := Lib.hid (HB0.out.trans (hal.mono HB0.out.size))
  obtain ⟨g, hg⟩ : ∃ g, g = W3.heap.size := ⟨_, rfl⟩
  have HPG := Lib.hid (show p + 2 < g by rw [hg]; exact HR0.out.lt)
  rw [← hg] at HG ⊢
  clear hal hg HX0 HL0 HR0 HB0
  generalize W3.alloc (.cells (kcC zK) 26) = v0 at *
  refine wpList_store_row rfl 26 (.tmp 7) (.tmp 15) rfl g (kcC { zK with op := op, ke := k, ty := t, ig := false }) rfl rfl 26 (kcC zK) HG.out kc_inf rfl (kcC_one _) ?_
  replace HX := Lib.hid (show Blk (v0.setRow g (kcC { zK with op := op, ke := k, ty := t, ig := false })) p 50 (kdC ⟨op, 2, ty, false, false⟩) from (setRow_other v0 g p _ (by have := HPG.out; omega)).trans HX.out)
  replace HL := Lib.hid (show Blk (v0.setRow g (kcC { zK with op := op, ke := k, ty := t, ig := false })) (p + 1) 54 (lsC ⟨k, s, a⟩) from (setRow_other v0 g (p + 1) _ (by have := HPG.out; omega)).trans HL.out)
  replace HR := Lib.hid (show Blk (v0.setRow g (kcC { zK with op := op, ke := k, ty := t, ig := false })) (p + 2) 26 (kcC zK) from (setRow_other v0 g (p + 2) _ (by have := HPG.out; omega)).trans HR.out)
  replace HG := Lib.hid (setRow_blk (cs' := kcC { zK with op := op, ke := k, ty := t, ig := false }) HG.out)
  replace HB := Lib.hid (below_only HB.out (setRow_only v0 g (kcC { zK with op := op, ke := k, ty := t, ig := false })) (by have := HP.out; have := HPG.out; omega))
  generalize v0.setRow g (kcC { zK with op := op, ke := k, ty := t, ig := false }) = v1 at *
  simp only [Act.put]
  have c1 : v1.cell? ⟨p, 1, none⟩ = some (.int .i64 2) := HX.out.cell 1
  have c3 : v1.cell? ⟨p, 3, none⟩ = some (.bool false) := HX.out.cell 3
  have c4 : v1.cell? ⟨p, 4, none⟩ = some (.bool false) := HX.out.cell 4
  have d1 : v1.cell? ⟨p + 1, 1, none⟩ = some (.int .u64 (s : Int)) := HL.out.cell 1
  have d2 : v1.cell? ⟨p + 1, 2, none⟩ = some (.bool a) := HL.out.cell 2
  have g0 : v1.cell? ⟨g, 10, none⟩ = some (.int .u64 0) := HG.out.cell 10
  have e0 := HG.out.free 10
  go_upto_region 9 with (fail)
  clear c1 c3 c4 d1 d2 g0 e0
  replace HG := Lib.hid (show Blk (v1.setCell ⟨g, 10, none⟩ (.int .u64 (s : Int))) g 26 (kcC { zK with op := op, ke := k, ty := t, ig := false, ot := s }) from HG.out.put 10 (.int .u64 (s : Int)))
  replace HX := Lib.hid (HX.out.far (p := ⟨g, 10, none⟩) (by have := HPG.out; dsimp only; omega) (.int .u64 (s : Int)))
  replace HL := Lib.hid (HL.out.far (p := ⟨g, 10, none⟩) (by have := HPG.out; dsimp only; omega) (.int .u64 (s : Int)))
  replace HR := Lib.hid (HR.out.far (p := ⟨g, 10, none⟩) (by have := HPG.out; dsimp only; omega) (.int .u64 (s : Int)))
  replace HB := Lib.hid (HB.out.setCell (p := ⟨g, 10, none⟩) (by have := HPG.out; have := HP.out; dsimp only; omega) (.int .u64 (s : Int)))
  generalize World.setCell v1 ⟨g, 10, none⟩ (.int .u64 (s : Int)) = v2 at *
  have c1 : v2.cell? ⟨p, 1, none⟩ = some (.int .i64 2) := HX.out.cell 1
  have c3 : v2.cell? ⟨p, 3, none⟩ = some (.bool false) := HX.out.cell 3
  have c4 : v2.cell? ⟨p, 4, none⟩ = some (.bool false) := HX.out.cell 4
  have d1 : v2.cell? ⟨p + 1, 1, none⟩ = some (.int .u64 (s : Int)) := HL.out.cell 1
  have d2 : v2.cell? ⟨p + 1, 2, none⟩ = some (.bool a) := HL.out.cell 2
  go_upto_region 13 with (fail)
  clear c1 c3 c4 d1 d2
  refine wp_region_lit ?_
  refine wpList_load_row rfl 26 (.tmp 7) rfl g rfl 26 (kcC { zK with op := op, ke := k, ty := t, ig := false, ot := s }) (0, 0) _ HG.out Try.underlying26 rfl kc_inf ?_
  refine wpList_store_row rfl 26 (.tmp 6) (.tmp 43) rfl (p + 2) (kcC { zK with op := op, ke := k, ty := t, ig := false, ot := s }) rfl rfl 26 (kcC zK) HR.out kc_inf rfl (kcC_one _) ?_
  go_wp2_with (fail)
  refine bodyPost_ret_by (results_cell_row Try.results16 _ _ (p + 2) 26 (kcC { zK with op := op, ke := k, ty := t, ig := false, ot := s }) (0, 0) _ rfl (setRow_blk HR.out) Try.underlying26 rfl kc_inf) rfl ?_
  exact ⟨rfl, below_setRow HB.out (by have := HP.out; omega) _⟩
theorem command_any (i : Nat) (hi : (kd i).op ≠ 0) (t : Int) (l : Ls) (w : World) : Calls Try.prog 16 #[kdV (kd i), .int .i64 t, lsV l] w fun e w' => e = .returned (kcV (cmK (kd i) t l)) ∧ Below w.heap.size w w' := by
  obtain ⟨k, s, a⟩ := l
  match i, hi with
  | 0, _ => cases a; exact command_new_f_off 8 false t k s w; exact command_new_f_on 8 false t k s w
  | 1, _ => exact command_none 9 true t k s a w
  | 2, _ => exact command_none 10 true t k s a w
  | 3, _ => exact command_none 11 false t k s a w
  | 4, _ => exact command_other 12 true t k s a w
  | 5, h => exact absurd rfl h
  | 6, _ => cases a; exact command_new_i_off 8 false t k s w; exact command_new_i_on 8 false t k s w
  | n + 7, h => exact absurd rfl h
set_option maxRecDepth 100000 in
set_option maxHeartbeats 4000000 in
theorem klist_new (op : Int) (ty st ig : Bool) (c : Kc) (w : World) : Calls Try.prog 19 #[kdV ⟨op, 1, ty, st, ig⟩, kcV c] w fun e w' => e = .returned (lsV (liK ⟨op, 1, ty, st, ig⟩ c)) ∧ Below w.heap.size w w' := by
  obtain ⟨on, hon⟩ : ∃ on : Bool, (c.ap == 2) = on := ⟨_, rfl⟩
  have HV := Lib.hid (show liK ⟨op, 1, ty, st, ig⟩ c = ⟨c.ke, c.nk, on⟩ by rw [← hon]; rfl)
  obtain ⟨W1, hW1⟩ : ∃ W, W = w.alloc (.cells (kdC ⟨op, 1, ty, st, ig⟩) 50) := ⟨_, rfl⟩
  obtain ⟨W2, hW2⟩ : ∃ W, W = W1.alloc (.cells (kcC c) 26) := ⟨_, rfl⟩
  obtain ⟨W3, hW3⟩ : ∃ W, W = W2.alloc (.cells (lsC zLs) 54) := ⟨_, rfl⟩
  have s1 : W1.heap.size = w.heap.size + 1 := by rw [hW1]; simp
  have s2 : W2.heap.size = w.heap.size + 2 := by rw [hW2]; simp [s1]
  have HX0 := Lib.hid (show Blk W3 w.heap.size 50 (kdC ⟨op, 1, ty, st, ig⟩) by rw [hW3, hW2, hW1]; exact ((Blk.new w _ _).alloc _).alloc _)
  have HL0 := Lib.hid (show Blk W3 (w.heap.size + 1) 26 (kcC c) by
    have := (Blk.new W1 26 (kcC c)).alloc (.cells (lsC zLs) 54)
    rwa [← hW2, ← hW3, s1] at this)
  have HR0 := Lib.hid (show Blk W3 (w.heap.size + 2) 54 (lsC zLs) by
    have := Blk.new W2 54 (lsC zLs)
    rwa [← hW3, s2] at this)
  have HB0 := Lib.hid (show Below w.heap.size w W3 by
    rw [hW3, hW2, hW1]
    exact (((Below.refl w.heap.size w).alloc (Nat.le_refl _) _).alloc (by simp) _).alloc (by simp; omega) _)
  go_enter Try.func19, Try.ntmps19
  go_upto_region 1 with (fail)
  change Code.wp _ _ _ _ (((w.alloc (.cells (kdC ⟨op, 1, ty, st, ig⟩) 50)).alloc (.cells (kcC c) 26)).alloc (.cells (lsC zLs) 54))
  rw [← hW1, ← hW2, ← hW3]
  try rw [s1]
  try rw [s2]
  clear hW1 hW2 hW3 s1 s2 W1 W2
  obtain ⟨p, hp⟩ : ∃ p, p = w.heap.size := ⟨_, rfl⟩
  have HP := Lib.hid hp
  rw [← hp] at HX0 HL0 HR0 ⊢
  clear hp
  have c8 : W3.cell? ⟨p + 1, 8, none⟩ = some (.int .u64 (c.ke : Int)) := HL0.out.cell 8
  have c13 : W3.cell? ⟨p + 1, 13, none⟩ = some (.int .i64 c.ap) := HL0.out.cell 13
  refine wp_region_lit ?_
  refine wpList_runs rfl (some 6) rfl (.pointer (some ⟨p + 1, 8, none⟩)) W3 (by go_simp) ?_
  refine wpList_runs rfl (some 7) rfl (.int .u64 (c.ke : Int)) W3 (by go_simp) ?_
  simp only [Act.put, List.setIfInBounds_toArray, List.set_cons_zero, List.set_cons_succ]
  refine wpList_runs rfl (some 8) rfl (.pointer (some ⟨p + 1, 13, none⟩)) W3 (by go_simp) ?_
  refine wpList_runs rfl (some 9) rfl (.int .i64 c.ap) W3 (by go_simp) ?_
  simp only [Act.put, List.setIfInBounds_toArray, List.set_cons_zero, List.set_cons_succ]
  refine wpList_runs rfl (some 10) rfl (.bool on) W3 (by go_simp) ?_
  simp only [Act.put, List.setIfInBounds_toArray, List.set_cons_zero, List.set_cons_succ]
  refine wpList_runs rfl (some 11) rfl (lsV ⟨c.ke, 0, on⟩) W3 (by kernel_rfl) ?_
  simp only [Act.put, List.setIfInBounds_toArray, List.set_cons_zero, List.set_cons_succ]
  clear c8 c13 hon
  refine wpList_runs rfl (some 5) rfl (.pointer (some ⟨W3.heap.size, 0, none⟩)) (W3.alloc (.cells (lsC zLs) 54)) (by kernel_rfl) ?_
  simp only [Act.put, List.setIfInBounds_toArray, List.set_cons_zero, List.set_cons_succ]
  have hal := (Below.refl W3.heap.size W3).alloc (Nat.le_refl _) (.cells (lsC zLs) 54)
  have HG := Lib.hid (Blk.new W3 54 (lsC zLs))
  have HX := Lib.hid (HX0.out.below hal HX0.out.lt); have HL := Lib.hid (HL0.out.below hal HL0.out.lt); have HR := Lib.hid (HR0.out.below hal HR0.out.lt); have HB := Lib.hid (HB0.out.trans (hal.mono HB0.out.size))
  obtain ⟨g, hg⟩ : ∃ g, g = W3.heap.size := ⟨_, rfl⟩
  have HPG := Lib.hid (show p + 2 < g by rw [hg]; exact HR0.out.lt)
  rw [← hg] at HG ⊢
  clear hal hg HX0 HL0 HR0 HB0
  generalize W3.alloc (.cells (lsC zLs) 54) = v0 at *
  refine wpList_store_row rfl 54 (.tmp 5) (.tmp 11) rfl g (lsC ⟨c.ke, 0, on⟩) rfl rfl 54 (lsC zLs) HG.out ls_info rfl (lsC_one _) ?_
  replace HX := Lib.hid (show Blk (v0.setRow g (lsC ⟨c.ke, 0, on⟩)) p 50 (kdC ⟨op, 1, ty, st, ig⟩) from (setRow_other v0 g p _ (by have := HPG.out; omega)).trans HX.out)
  replace HL := Lib.hid (show Blk (v0.setRow g (lsC ⟨c.ke, 0, on⟩)) (p + 1) 26 (kcC c) from (setRow_other v0 g (p + 1) _ (by have := HPG.out; omega)).trans HL.out)
  replace HR := Lib.hid (show Blk (v0.setRow g (lsC ⟨c.ke, 0, on⟩)) (p + 2) 54 (lsC zLs) from (setRow_other v0 g (p + 2) _ (by have := HPG.out; omega)).trans HR.out)
  replace HG := Lib.hid (setRow_blk (cs' := lsC ⟨c.ke, 0, on⟩) HG.out)
  replace HB := Lib.hid (below_only HB.out (setRow_only v0 g (lsC ⟨c.ke, 0, on⟩)) (by have := HP.out; have := HPG.out; omega))
  generalize v0.setRow g (lsC ⟨c.ke, 0, on⟩) = v1 at *
  simp only [Act.put]
  have c1 : v1.cell? ⟨p, 1, none⟩ = some (.int .i64 1) := HX.out.cell 1
  have d1 : v1.cell? ⟨p + 1, 9, none⟩ = some (.int .u64 (c.nk : Int)) := HL.out.cell 9
  have g0 : v1.cell? ⟨g, 1, none⟩ = some (.int .u64 0) := HG.out.cell 1
  have e0 := HG.out.free 1
  go_upto_region 7 with (fail)
  clear c1 d1 g0 e0
  replace HG := Lib.hid (show Blk (v1.setCell ⟨g, 1, none⟩ (.int .u64 (c.nk : Int))) g 54 (lsC ⟨c.ke, c.nk, on⟩) from HG.out.put 1 (.int .u64 (c.nk : Int)))
  replace HR := Lib.hid (HR.out.far (p := ⟨g, 1, none⟩) (by have := HPG.out; dsimp only; omega) (.int .u64 (c.nk : Int)))
  replace HB := Lib.hid (HB.out.setCell (p := ⟨g, 1, none⟩) (by have := HPG.out; have := HP.out; dsimp only; omega) (.int .u64 (c.nk : Int)))
  generalize World.setCell v1 ⟨g, 1, none⟩ (.int .u64 (c.nk : Int)) = v2 at *
  refine wp_region_lit ?_
  refine wpList_load_row rfl 54 (.tmp 5) rfl g rfl 54 (lsC ⟨c.ke, c.nk, on⟩) (0, 0) _ HG.out Try.underlying54 rfl ls_info ?_
  refine wpList_store_row rfl 54 (.tmp 4) (.tmp 24) rfl (p + 2) (lsC ⟨c.ke, c.nk, on⟩) rfl rfl 54 (lsC zLs) HR.out ls_info rfl (lsC_one _) ?_
  go_wp2_with (fail)
  refine bodyPost_ret_by (results_cell_row Try.results19 _ _ (p + 2) 54 (lsC ⟨c.ke, c.nk, on⟩) (0, 0) _ rfl (setRow_blk HR.out) Try.underlying54 rfl ls_info) rfl ?_
  exact ⟨by rw [HV.out], below_setRow HB.out (by have := HP.out; omega) _⟩
set_option maxRecDepth 100000 in
set_option maxHeartbeats 4000000 in
theorem klist_other (op : Int) (ty st ig : Bool) (c : Kc) (w : World) : Calls Try.prog 19 #[kdV ⟨op, 2, ty, st, ig⟩, kcV c] w fun e w' => e = .returned (lsV (liK ⟨op, 2, ty, st, ig⟩ c)) ∧ Below w.heap.size w w' := by
  obtain ⟨on, hon⟩ : ∃ on : Bool, (c.ap == 2) = on := ⟨_, rfl⟩
  have HV := Lib.hid (show liK ⟨op, 2, ty, st, ig⟩ c = ⟨c.ke, c.ot, on⟩ by rw [← hon]; rfl)
  obtain ⟨W1, hW1⟩ : ∃ W, W = w.alloc (.cells (kdC ⟨op, 2, ty, st, ig⟩) 50) := ⟨_, rfl⟩
  obtain ⟨W2, hW2⟩ : ∃ W, W = W1.alloc (.cells (kcC c) 26) := ⟨_, rfl⟩
  obtain ⟨W3, hW3⟩ : ∃ W, W = W2.alloc (.cells (lsC zLs) 54) := ⟨_, rfl⟩
  have s1 : W1.heap.size = w.heap.size + 1 := by rw [hW1]; simp
  have s2 : W2.heap.size = w.heap.size + 2 := by rw [hW2]; simp [s1]
  have HX0 := Lib.hid (show Blk W3 w.heap.size 50 (kdC ⟨op, 2, ty, st, ig⟩) by rw [hW3, hW2, hW1]; exact ((Blk.new w _ _).alloc _).alloc _)
  have HL0 := Lib.hid (show Blk W3 (w.heap.size + 1) 26 (kcC c) by
    have := (Blk.new W1 26 (kcC c)).alloc (.cells (lsC zLs) 54)
    rwa [← hW2, ← hW3, s1] at this)
  have HR0 := Lib.hid (show Blk W3 (w.heap.size + 2) 54 (lsC zLs) by
    have := Blk.new W2 54 (lsC zLs)
    rwa [← hW3, s2] at this)
  have HB0 := Lib.hid (show Below w.heap.size w W3 by
    rw [hW3, hW2, hW1]
    exact (((Below.refl w.heap.size w).alloc (Nat.le_refl _) _).alloc (by simp) _).alloc (by simp; omega) _)
  go_enter Try.func19, Try.ntmps19
  go_upto_region 1 with (fail)
  change Code.wp _ _ _ _ (((w.alloc (.cells (kdC ⟨op, 2, ty, st, ig⟩) 50)).alloc (.cells (kcC c) 26)).alloc (.cells (lsC zLs) 54))
  rw [← hW1, ← hW2, ← hW3]
  try rw [s1]
  try rw [s2]
  clear hW1 hW2 hW3 s1 s2 W1 W2
  obtain ⟨p, hp⟩ : ∃ p, p = w.heap.size := ⟨_, rfl⟩
  have HP := Lib.hid hp
  rw [← hp] at HX0 HL0 HR0 ⊢
  clear hp
  have c8 : W3.cell? ⟨p + 1, 8, none⟩ = some (.int .u64 (c.ke : Int)) := HL0.out.cell 8
  have c13 : W3.cell? ⟨p + 1, 13, none⟩ = some (.int .i64 c.ap) := HL0.out.cell 13
  refine wp_region_lit ?_
  refine wpList_runs rfl (some 6) rfl (.pointer (some ⟨p + 1, 8, none⟩)) W3 (by go_simp) ?_
  refine wpList_runs rfl (some 7) rfl (.int .u64 (c.ke : Int)) W3 (by go_simp) ?_
  simp only [Act.put, List.setIfInBounds_toArray, List.set_cons_zero, List.set_cons_succ]
  refine wpList_runs rfl (some 8) rfl (.pointer (some ⟨p + 1, 13, none⟩)) W3 (by go_simp) ?_
  refine wpList_runs rfl (some 9) rfl (.int .i64 c.ap) W3 (by go_simp) ?_
  simp only [Act.put, List.setIfInBounds_toArray, List.set_cons_zero, List.set_cons_succ]
  refine wpList_runs rfl (some 10) rfl (.bool on) W3 (by go_simp) ?_
  simp only [Act.put, List.setIfInBounds_toArray, List.set_cons_zero, List.set_cons_succ]
  refine wpList_runs rfl (some 11) rfl (lsV ⟨c.ke, 0, on⟩) W3 (by kernel_rfl) ?_
  simp only [Act.put, List.setIfInBounds_toArray, List.set_cons_zero, List.set_cons_succ]
  clear c8 c13 hon
  refine wpList_runs rfl (some 5) rfl (.pointer (some ⟨W3.heap.size, 0, none⟩)) (W3.alloc (.cells (lsC zLs) 54)) (by kernel_rfl) ?_
  simp only [Act.put, List.setIfInBounds_toArray, List.set_cons_zero, List.set_cons_succ]
  have hal := (Below.refl W3.heap.size W3).alloc (Nat.le_refl _) (.cells (lsC zLs) 54)
  have HG := Lib.hid (Blk.new W3 54 (lsC zLs))
  have HX := Lib.hid (HX0.out.below hal HX0.out.lt); have HL := Lib.hid (HL0.out.below hal HL0.out.lt); have HR := Lib.hid (HR0.out.below hal HR0.out.lt); have HB := Lib.hid (HB0.out.trans (hal.mono HB0.out.size))
  obtain ⟨g, hg⟩ : ∃ g, g = W3.heap.size := ⟨_, rfl⟩
  have HPG := Lib.hid (show p + 2 < g by rw [hg]; exact HR0.out.lt)
  rw [← hg] at HG ⊢
  clear hal hg HX0 HL0 HR0 HB0
  generalize W3.alloc (.cells (lsC zLs) 54) = v0 at *
  refine wpList_store_row rfl 54 (.tmp 5) (.tmp 11) rfl g (lsC ⟨c.ke, 0, on⟩) rfl rfl 54 (lsC zLs) HG.out ls_info rfl (lsC_one _) ?_
  replace HX := Lib.hid (show Blk (v0.setRow g (lsC ⟨c.ke, 0, on⟩)) p 50 (kdC ⟨op, 2, ty, st, ig⟩) from (setRow_other v0 g p _ (by have := HPG.out; omega)).trans HX.out)
  replace HL := Lib.hid (show Blk (v0.setRow g (lsC ⟨c.ke, 0, on⟩)) (p + 1) 26 (kcC c) from (setRow_other v0 g (p + 1) _ (by have := HPG.out; omega)).trans HL.out)
  replace HR := Lib.hid (show Blk (v0.setRow g (lsC ⟨c.ke, 0, on⟩)) (p + 2) 54 (lsC zLs) from (setRow_other v0 g (p + 2) _ (by have := HPG.out; omega)).trans HR.out)
  replace HG := Lib.hid (setRow_blk (cs' := lsC ⟨c.ke, 0, on⟩) HG.out)
  replace HB := Lib.hid (below_only HB.out (setRow_only v0 g (lsC ⟨c.ke, 0, on⟩)) (by have := HP.out; have := HPG.out; omega))
  generalize v0.setRow g (lsC ⟨c.ke, 0, on⟩) = v1 at *
  simp only [Act.put]
  have c1 : v1.cell? ⟨p, 1, none⟩ = some (.int .i64 2) := HX.out.cell 1
  have d1 : v1.cell? ⟨p + 1, 10, none⟩ = some (.int .u64 (c.ot : Int)) := HL.out.cell 10
  have g0 : v1.cell? ⟨g, 1, none⟩ = some (.int .u64 0) := HG.out.cell 1
  have e0 := HG.out.free 1
  go_upto_region 7 with (fail)
  clear c1 d1 g0 e0
  replace HG := Lib.hid (show Blk (v1.setCell ⟨g, 1, none⟩ (.int .u64 (c.ot : Int))) g 54 (lsC ⟨c.ke, c.ot, on⟩) from HG.out.put 1 (.int .u64 (c.ot : Int)))
  replace HR := Lib.hid (HR.out.far (p := ⟨g, 1, none⟩) (by have := HPG.out; dsimp only; omega) (.int .u64 (c.ot : Int)))
  replace HB := Lib.hid (HB.out.setCell (p := ⟨g, 1, none⟩) (by have := HPG.out; have := HP.out; dsimp only; omega) (.int .u64 (c.ot : Int)))
  generalize World.setCell v1 ⟨g, 1, none⟩ (.int .u64 (c.ot : Int)) = v2 at *
  refine wp_region_lit ?_
  refine wpList_load_row rfl 54 (.tmp 5) rfl g rfl 54 (lsC ⟨c.ke, c.ot, on⟩) (0, 0) _ HG.out Try.underlying54 rfl ls_info ?_
  refine wpList_store_row rfl 54 (.tmp 4) (.tmp 24) rfl (p + 2) (lsC ⟨c.ke, c.ot, on⟩) rfl rfl 54 (lsC zLs) HR.out ls_info rfl (lsC_one _) ?_
  go_wp2_with (fail)
  refine bodyPost_ret_by (results_cell_row Try.results19 _ _ (p + 2) 54 (lsC ⟨c.ke, c.ot, on⟩) (0, 0) _ rfl (setRow_blk HR.out) Try.underlying54 rfl ls_info) rfl ?_
  exact ⟨by rw [HV.out], below_setRow HB.out (by have := HP.out; omega) _⟩
set_option maxRecDepth 100000 in
set_option maxHeartbeats 4000000 in
theorem klist_none (op : Int) (ty st ig : Bool) (c : Kc) (w : World) : Calls Try.prog 19 #[kdV ⟨op, 0, ty, st, ig⟩, kcV c] w fun e w' => e = .returned (lsV (liK ⟨op, 0, ty, st, ig⟩ c)) ∧ Below w.heap.size w w' := by
  obtain ⟨on, hon⟩ : ∃ on : Bool, (c.ap == 2) = on := ⟨_, rfl⟩
  have HV := Lib.hid (show liK ⟨op, 0, ty, st, ig⟩ c = ⟨c.ke, 0, on⟩ by rw [← hon]; rfl)
  obtain ⟨W1, hW1⟩ : ∃ W, W = w.alloc (.cells (kdC ⟨op, 0, ty, st, ig⟩) 50) := ⟨_, rfl⟩
  obtain ⟨W2, hW2⟩ : ∃ W, W = W1.alloc (.cells (kcC c) 26) := ⟨_, rfl⟩
  obtain ⟨W3, hW3⟩ : ∃ W, W = W2.alloc (.cells (lsC zLs) 54) := ⟨_, rfl⟩
  have s1 : W1.heap.size = w.heap.size + 1 := by rw [hW1]; simp
  have s2 : W2.heap.size = w.heap.size + 2 := by rw [hW2]; simp [s1]
  have HX0 := Lib.hid (show Blk W3 w.heap.size 50 (kdC ⟨op, 0, ty, st, ig⟩) by rw [hW3, hW2, hW1]; exact ((Blk.new w _ _).alloc _).alloc _)
  have HL0 := Lib.hid (show Blk W3 (w.heap.size + 1) 26 (kcC c) by
    have := (Blk.new W1 26 (kcC c)).alloc (.cells (lsC zLs) 54)
    rwa [← hW2, ← hW3, s1] at this)
  have HR0 := Lib.hid (show Blk W3 (w.heap.size + 2) 54 (lsC zLs) by
    have := Blk.new W2 54 (lsC zLs)
    rwa [← hW3, s2] at this)
  have HB0 := Lib.hid (show Below w.heap.size w W3 by
    rw [hW3, hW2, hW1]
    exact (((Below.refl w.heap.size w).alloc (Nat.le_refl _) _).alloc (by simp) _).alloc (by simp; omega) _)
  go_enter Try.func19, Try.ntmps19
  go_upto_region 1 with (fail)
  change Code.wp _ _ _ _ (((w.alloc (.cells (kdC ⟨op, 0, ty, st, ig⟩) 50)).alloc (.cells (kcC c) 26)).alloc (.cells (lsC zLs) 54))
  rw [← hW1, ← hW2, ← hW3]
  try rw [s1]
  try rw [s2]
  clear hW1 hW2 hW3 s1 s2 W1 W2
  obtain ⟨p, hp⟩ : ∃ p, p = w.heap.size := ⟨_, rfl⟩
  have HP := Lib.hid hp
  rw [← hp] at HX0 HL0 HR0 ⊢
  clear hp
  have c8 : W3.cell? ⟨p + 1, 8, none⟩ = some (.int .u64 (c.ke : Int)) := HL0.out.cell 8
  have c13 : W3.cell? ⟨p + 1, 13, none⟩ = some (.int .i64 c.ap) := HL0.out.cell 13
  refine wp_region_lit ?_
  refine wpList_runs rfl (some 6) rfl (.pointer (some ⟨p + 1, 8, none⟩)) W3 (by go_simp) ?_
  refine wpList_runs rfl (some 7) rfl (.int .u64 (c.ke : Int)) W3 (by go_simp) ?_
  simp only [Act.put, List.setIfInBounds_toArray, List.set_cons_zero, List.set_cons_succ]
  refine wpList_runs rfl (some 8) rfl (.pointer (some ⟨p + 1, 13, none⟩)) W3 (by go_simp) ?_
  refine wpList_runs rfl (some 9) rfl (.int .i64 c.ap) W3 (by go_simp) ?_
  simp only [Act.put, List.setIfInBounds_toArray, List.set_cons_zero, List.set_cons_succ]
  refine wpList_runs rfl (some 10) rfl (.bool on) W3 (by go_simp) ?_
  simp only [Act.put, List.setIfInBounds_toArray, List.set_cons_zero, List.set_cons_succ]
  refine wpList_runs rfl (some 11) rfl (lsV ⟨c.ke, 0, on⟩) W3 (by kernel_rfl) ?_
  simp only [Act.put, List.setIfInBounds_toArray, List.set_cons_zero, List.set_cons_succ]
  clear c8 c13 hon
  refine wpList_runs rfl (some 5) rfl (.pointer (some ⟨W3.heap.size, 0, none⟩)) (W3.alloc (.cells (lsC zLs) 54)) (by kernel_rfl) ?_
  simp only [Act.put, List.setIfInBounds_toArray, List.set_cons_zero, List.set_cons_succ]
  have hal := (Below.refl W3.heap.size W3).alloc (Nat.le_refl _) (.cells (lsC zLs) 54)
  have HG := Lib.hid (Blk.new W3 54 (lsC zLs))
  have HX := Lib.hid (HX0.out.below hal HX0.out.lt); have HL := Lib.hid (HL0.out.below hal HL0.out.lt); have HR := Lib.hid (HR0.out.below hal HR0.out.lt); have HB := Lib.hid (HB0.out.trans (hal.mono HB0.out.size))
  obtain ⟨g, hg⟩ : ∃ g, g = W3.heap.size := ⟨_, rfl⟩
  have HPG := Lib.hid (show p + 2 < g by rw [hg]; exact HR0.out.lt)
  rw [← hg] at HG ⊢
  clear hal hg HX0 HL0 HR0 HB0
  generalize W3.alloc (.cells (lsC zLs) 54) = v0 at *
  refine wpList_store_row rfl 54 (.tmp 5) (.tmp 11) rfl g (lsC ⟨c.ke, 0, on⟩) rfl rfl 54 (lsC zLs) HG.out ls_info rfl (lsC_one _) ?_
  replace HX := Lib.hid (show Blk (v0.setRow g (lsC ⟨c.ke, 0, on⟩)) p 50 (kdC ⟨op, 0, ty, st, ig⟩) from (setRow_other v0 g p _ (by have := HPG.out; omega)).trans HX.out)
  replace HL := Lib.hid (show Blk (v0.setRow g (lsC ⟨c.ke, 0, on⟩)) (p + 1) 26 (kcC c) from (setRow_other v0 g (p + 1) _ (by have := HPG.out; omega)).trans HL.out)
  replace HR := Lib.hid (show Blk (v0.setRow g (lsC ⟨c.ke, 0, on⟩)) (p + 2) 54 (lsC zLs) from (setRow_other v0 g (p + 2) _ (by have := HPG.out; omega)).trans HR.out)
  replace HG := Lib.hid (setRow_blk (cs' := lsC ⟨c.ke, 0, on⟩) HG.out)
  replace HB := Lib.hid (below_only HB.out (setRow_only v0 g (lsC ⟨c.ke, 0, on⟩)) (by have := HP.out; have := HPG.out; omega))
  generalize v0.setRow g (lsC ⟨c.ke, 0, on⟩) = v1 at *
  simp only [Act.put]
  have c1 : v1.cell? ⟨p, 1, none⟩ = some (.int .i64 0) := HX.out.cell 1
  go_upto_region 7 with (fail)
  clear c1
  refine wp_region_lit ?_
  refine wpList_load_row rfl 54 (.tmp 5) rfl g rfl 54 (lsC ⟨c.ke, 0, on⟩) (0, 0) _ HG.out Try.underlying54 rfl ls_info ?_
  refine wpList_store_row rfl 54 (.tmp 4) (.tmp 24) rfl (p + 2) (lsC ⟨c.ke, 0, on⟩) rfl rfl 54 (lsC zLs) HR.out ls_info rfl (lsC_one _) ?_
  go_wp2_with (fail)
  refine bodyPost_ret_by (results_cell_row Try.results19 _ _ (p + 2) 54 (lsC ⟨c.ke, 0, on⟩) (0, 0) _ rfl (setRow_blk HR.out) Try.underlying54 rfl ls_info) rfl ?_
  exact ⟨by rw [HV.out], below_setRow HB.out (by have := HP.out; omega) _⟩
theorem klist_any (i : Nat) (c : Kc) (w : World) : Calls Try.prog 19 #[kdV (kd i), kcV c] w fun e w' => e = .returned (lsV (liK (kd i) c)) ∧ Below w.heap.size w w' := by
  match i with
  | 0 => exact klist_new 8 false true false c w
  | 1 => exact klist_none 9 true false false c w
  | 2 => exact klist_none 10 true false false c w
  | 3 => exact klist_none 11 false false false c w
  | 4 => exact klist_other 12 true false false c w
  | 5 => exact klist_none 0 false false false c w
  | 6 => exact klist_new 8 false true true c w
  | n + 7 => exact klist_none 0 false false false c w
end Go.Proofs.Ytdggipgieanpeaa.Pc
