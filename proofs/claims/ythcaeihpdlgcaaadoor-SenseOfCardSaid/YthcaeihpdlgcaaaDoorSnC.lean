/- What outcomes are told by: the document's Of. -/
import Derived.Test.YthcaeihpdlgcaaaDoorSnB
namespace Go.Proofs.YthcaeihpdlgcaaaDoor
open Go.RowKit
set_option maxRecDepth 100000 in
set_option maxHeartbeats 4000000 in
theorem of_good (t w : Int) (r : Rs) (v : World)  : Calls Tryd.prog 14 #[ouV 1 t w r] v fun e v' => e = .returned (rpV 0 ⟨0, 0, 0, -1⟩) ∧ Below v.heap.size v v' := by
  have HX0 := Lib.hid ((Blk.new v 41 (ouC 1 t w r)).alloc (.cells (rpC 0 zN) 45))
  have HR0 := Lib.hid (show Blk ((v.alloc (.cells (ouC 1 t w r) 41)).alloc (.cells (rpC 0 zN) 45)) (v.heap.size + 1) 45 (rpC 0 zN) by
    have := Blk.new (v.alloc (.cells (ouC 1 t w r) 41)) 45 (rpC 0 zN)
    rwa [show (v.alloc (.cells (ouC 1 t w r) 41)).heap.size = v.heap.size + 1 by simp] at this)
  have HB0 := Lib.hid (((Below.refl v.heap.size v).alloc (Nat.le_refl _) (.cells (ouC 1 t w r) 41)).alloc (by simp) (.cells (rpC 0 zN) 45))
  go_enter Tryd.func14, Tryd.ntmps14
  go_upto_region 1 with (fail)
  change Code.wp _ _ _ _ ((v.alloc (.cells (ouC 1 t w r) 41)).alloc (.cells (rpC 0 zN) 45))
  have hsz : (v.alloc (.cells (ouC 1 t w r) 41)).heap.size = v.heap.size + 1 := by simp
  generalize (v.alloc (.cells (ouC 1 t w r) 41)).alloc (.cells (rpC 0 zN) 45) = v0 at *
  try rw [hsz]
  clear hsz
  obtain ⟨p, hp⟩ : ∃ p, p = v.heap.size := ⟨_, rfl⟩
  have HP := Lib.hid hp
  rw [← hp] at HX0 HR0 ⊢
  clear hp
  have c0 : v0.cell? ⟨p, 0, none⟩ = some (.int .i64 1) := HX0.out.cell 0
  have c2 : v0.cell? ⟨p, 2, none⟩ = some (.int .i64 t) := HX0.out.cell 2
  have c3 : v0.cell? ⟨p, 3, none⟩ = some (.int .i64 w) := HX0.out.cell 3
  go_upto_region 3 with (fail)
  refine wp_region_lit ?_
  refine wpList_runs rfl (some 7) rfl (snV ⟨0, 0, 0, -1⟩) v0 (by kernel_rfl) ?_
  refine wpList_runs rfl (some 8) rfl (rpV 0 ⟨0, 0, 0, -1⟩) v0 (by kernel_rfl) ?_
  refine wpList_store_row rfl 45 (.tmp 2) (.tmp 8) rfl (p + 1) (rpC 0 ⟨0, 0, 0, -1⟩) rfl rfl 45 (rpC 0 zN) HR0.out rp_info rfl (rpC_one _ _) ?_
  go_wp2_with (fail)
  refine bodyPost_ret_by (results_cell_row Tryd.results14 _ _ (p + 1) 45 (rpC 0 ⟨0, 0, 0, -1⟩) (0, 0) _ rfl (setRow_blk HR0.out) Tryd.underlying45 rfl rp_info) rfl ?_
  exact ⟨rfl, below_setRow HB0.out (by have := HP.out; omega) _⟩
set_option maxRecDepth 100000 in
set_option maxHeartbeats 4000000 in
theorem of_conf (t w : Int) (r : Rs) (v : World)  : Calls Tryd.prog 14 #[ouV 2 t w r] v fun e v' => e = .returned (rpV 24 ⟨0, 0, 0, -1⟩) ∧ Below v.heap.size v v' := by
  have HX0 := Lib.hid ((Blk.new v 41 (ouC 2 t w r)).alloc (.cells (rpC 0 zN) 45))
  have HR0 := Lib.hid (show Blk ((v.alloc (.cells (ouC 2 t w r) 41)).alloc (.cells (rpC 0 zN) 45)) (v.heap.size + 1) 45 (rpC 0 zN) by
    have := Blk.new (v.alloc (.cells (ouC 2 t w r) 41)) 45 (rpC 0 zN)
    rwa [show (v.alloc (.cells (ouC 2 t w r) 41)).heap.size = v.heap.size + 1 by simp] at this)
  have HB0 := Lib.hid (((Below.refl v.heap.size v).alloc (Nat.le_refl _) (.cells (ouC 2 t w r) 41)).alloc (by simp) (.cells (rpC 0 zN) 45))
  go_enter Tryd.func14, Tryd.ntmps14
  go_upto_region 1 with (fail)
  change Code.wp _ _ _ _ ((v.alloc (.cells (ouC 2 t w r) 41)).alloc (.cells (rpC 0 zN) 45))
  have hsz : (v.alloc (.cells (ouC 2 t w r) 41)).heap.size = v.heap.size + 1 := by simp
  generalize (v.alloc (.cells (ouC 2 t w r) 41)).alloc (.cells (rpC 0 zN) 45) = v0 at *
  try rw [hsz]
  clear hsz
  obtain ⟨p, hp⟩ : ∃ p, p = v.heap.size := ⟨_, rfl⟩
  have HP := Lib.hid hp
  rw [← hp] at HX0 HR0 ⊢
  clear hp
  have c0 : v0.cell? ⟨p, 0, none⟩ = some (.int .i64 2) := HX0.out.cell 0
  have c2 : v0.cell? ⟨p, 2, none⟩ = some (.int .i64 t) := HX0.out.cell 2
  have c3 : v0.cell? ⟨p, 3, none⟩ = some (.int .i64 w) := HX0.out.cell 3
  go_upto_region 5 with (fail)
  refine wp_region_lit ?_
  refine wpList_runs rfl (some 11) rfl (snV ⟨0, 0, 0, -1⟩) v0 (by kernel_rfl) ?_
  refine wpList_runs rfl (some 12) rfl (rpV 24 ⟨0, 0, 0, -1⟩) v0 (by kernel_rfl) ?_
  refine wpList_store_row rfl 45 (.tmp 2) (.tmp 12) rfl (p + 1) (rpC 24 ⟨0, 0, 0, -1⟩) rfl rfl 45 (rpC 0 zN) HR0.out rp_info rfl (rpC_one _ _) ?_
  go_wp2_with (fail)
  refine bodyPost_ret_by (results_cell_row Tryd.results14 _ _ (p + 1) 45 (rpC 24 ⟨0, 0, 0, -1⟩) (0, 0) _ rfl (setRow_blk HR0.out) Tryd.underlying45 rfl rp_info) rfl ?_
  exact ⟨rfl, below_setRow HB0.out (by have := HP.out; omega) _⟩
set_option maxRecDepth 100000 in
set_option maxHeartbeats 4000000 in
theorem of_diff (t w : Int) (r : Rs) (v : World) (h0 : 0 ≤ t) (h1 : t < 4294967296) : Calls Tryd.prog 14 #[ouV 3 t w r] v fun e v' => e = .returned (rpV 2 ⟨14, 29, 0, t⟩) ∧ Below v.heap.size v v' := by
  have HX0 := Lib.hid ((Blk.new v 41 (ouC 3 t w r)).alloc (.cells (rpC 0 zN) 45))
  have HR0 := Lib.hid (show Blk ((v.alloc (.cells (ouC 3 t w r) 41)).alloc (.cells (rpC 0 zN) 45)) (v.heap.size + 1) 45 (rpC 0 zN) by
    have := Blk.new (v.alloc (.cells (ouC 3 t w r) 41)) 45 (rpC 0 zN)
    rwa [show (v.alloc (.cells (ouC 3 t w r) 41)).heap.size = v.heap.size + 1 by simp] at this)
  have HB0 := Lib.hid (((Below.refl v.heap.size v).alloc (Nat.le_refl _) (.cells (ouC 3 t w r) 41)).alloc (by simp) (.cells (rpC 0 zN) 45))
  go_enter Tryd.func14, Tryd.ntmps14
  go_upto_region 1 with (fail)
  change Code.wp _ _ _ _ ((v.alloc (.cells (ouC 3 t w r) 41)).alloc (.cells (rpC 0 zN) 45))
  have hsz : (v.alloc (.cells (ouC 3 t w r) 41)).heap.size = v.heap.size + 1 := by simp
  generalize (v.alloc (.cells (ouC 3 t w r) 41)).alloc (.cells (rpC 0 zN) 45) = v0 at *
  try rw [hsz]
  clear hsz
  obtain ⟨p, hp⟩ : ∃ p, p = v.heap.size := ⟨_, rfl⟩
  have HP := Lib.hid hp
  rw [← hp] at HX0 HR0 ⊢
  clear hp
  have c0 : v0.cell? ⟨p, 0, none⟩ = some (.int .i64 3) := HX0.out.cell 0
  have c2 : v0.cell? ⟨p, 2, none⟩ = some (.int .i64 t) := HX0.out.cell 2
  have c3 : v0.cell? ⟨p, 3, none⟩ = some (.int .i64 w) := HX0.out.cell 3
  go_upto_region 8 with (fail)
  refine wp_region_lit ?_
  refine wpList_runs rfl (some 23) rfl (.pointer (some ⟨p, 2, none⟩)) v0 (by go_simp) ?_
  refine wpList_runs rfl (some 24) rfl (.int .i64 t) v0 (by go_simp) ?_
  refine wpList_calls rfl (some 25) rfl 26 #[.int .i64 14, .int .i64 29, .int .i64 0, .int .i64 t] (by go_simp) _ (two_any _ _ _ _ v0) ?_
  rintro e v1 ⟨rfl, hb⟩
  refine ⟨_, rfl, ?_⟩
  replace HR0 := Lib.hid (HR0.out.below hb HR0.out.lt); replace HB0 := Lib.hid (HB0.out.trans (hb.mono HB0.out.size))
  clear hb
  refine wpList_store_row rfl 45 (.tmp 2) (.tmp 25) rfl (p + 1) (rpC 2 ⟨14, 29, 0, t⟩) rfl rfl 45 (rpC 0 zN) HR0.out rp_info rfl (rpC_one _ _) ?_
  go_wp2_with (fail)
  refine bodyPost_ret_by (results_cell_row Tryd.results14 _ _ (p + 1) 45 (rpC 2 ⟨14, 29, 0, t⟩) (0, 0) _ rfl (setRow_blk HR0.out) Tryd.underlying45 rfl rp_info) rfl ?_
  exact ⟨rfl, below_setRow HB0.out (by have := HP.out; omega) _⟩
set_option maxRecDepth 100000 in
set_option maxHeartbeats 4000000 in
theorem of_beyo (t w : Int) (r : Rs) (v : World)  : Calls Tryd.prog 14 #[ouV 4 t w r] v fun e v' => e = .returned (rpV 2 ⟨5, 33, 0, -1⟩) ∧ Below v.heap.size v v' := by
  have HX0 := Lib.hid ((Blk.new v 41 (ouC 4 t w r)).alloc (.cells (rpC 0 zN) 45))
  have HR0 := Lib.hid (show Blk ((v.alloc (.cells (ouC 4 t w r) 41)).alloc (.cells (rpC 0 zN) 45)) (v.heap.size + 1) 45 (rpC 0 zN) by
    have := Blk.new (v.alloc (.cells (ouC 4 t w r) 41)) 45 (rpC 0 zN)
    rwa [show (v.alloc (.cells (ouC 4 t w r) 41)).heap.size = v.heap.size + 1 by simp] at this)
  have HB0 := Lib.hid (((Below.refl v.heap.size v).alloc (Nat.le_refl _) (.cells (ouC 4 t w r) 41)).alloc (by simp) (.cells (rpC 0 zN) 45))
  go_enter Tryd.func14, Tryd.ntmps14
  go_upto_region 1 with (fail)
  change Code.wp _ _ _ _ ((v.alloc (.cells (ouC 4 t w r) 41)).alloc (.cells (rpC 0 zN) 45))
  have hsz : (v.alloc (.cells (ouC 4 t w r) 41)).heap.size = v.heap.size + 1 := by simp
  generalize (v.alloc (.cells (ouC 4 t w r) 41)).alloc (.cells (rpC 0 zN) 45) = v0 at *
  try rw [hsz]
  clear hsz
  obtain ⟨p, hp⟩ : ∃ p, p = v.heap.size := ⟨_, rfl⟩
  have HP := Lib.hid hp
  rw [← hp] at HX0 HR0 ⊢
  clear hp
  have c0 : v0.cell? ⟨p, 0, none⟩ = some (.int .i64 4) := HX0.out.cell 0
  have c2 : v0.cell? ⟨p, 2, none⟩ = some (.int .i64 t) := HX0.out.cell 2
  have c3 : v0.cell? ⟨p, 3, none⟩ = some (.int .i64 w) := HX0.out.cell 3
  go_upto_region 10 with (fail)
  refine wp_region_lit ?_
  refine wpList_calls rfl (some 28) rfl 26 #[.int .i64 5, .int .i64 33, .int .i64 0, .int .i64 (-1)] (by go_simp) _ (two_any _ _ _ _ v0) ?_
  rintro e v1 ⟨rfl, hb⟩
  refine ⟨_, rfl, ?_⟩
  replace HR0 := Lib.hid (HR0.out.below hb HR0.out.lt); replace HB0 := Lib.hid (HB0.out.trans (hb.mono HB0.out.size))
  clear hb
  refine wpList_store_row rfl 45 (.tmp 2) (.tmp 28) rfl (p + 1) (rpC 2 ⟨5, 33, 0, -1⟩) rfl rfl 45 (rpC 0 zN) HR0.out rp_info rfl (rpC_one _ _) ?_
  go_wp2_with (fail)
  refine bodyPost_ret_by (results_cell_row Tryd.results14 _ _ (p + 1) 45 (rpC 2 ⟨5, 33, 0, -1⟩) (0, 0) _ rfl (setRow_blk HR0.out) Tryd.underlying45 rfl rp_info) rfl ?_
  exact ⟨rfl, below_setRow HB0.out (by have := HP.out; omega) _⟩
set_option maxRecDepth 100000 in
set_option maxHeartbeats 4000000 in
theorem of_wron (t w : Int) (r : Rs) (v : World)  : Calls Tryd.prog 14 #[ouV 5 t w r] v fun e v' => e = .returned (rpV 2 ⟨5, 36, 0, -1⟩) ∧ Below v.heap.size v v' := by
  have HX0 := Lib.hid ((Blk.new v 41 (ouC 5 t w r)).alloc (.cells (rpC 0 zN) 45))
  have HR0 := Lib.hid (show Blk ((v.alloc (.cells (ouC 5 t w r) 41)).alloc (.cells (rpC 0 zN) 45)) (v.heap.size + 1) 45 (rpC 0 zN) by
    have := Blk.new (v.alloc (.cells (ouC 5 t w r) 41)) 45 (rpC 0 zN)
    rwa [show (v.alloc (.cells (ouC 5 t w r) 41)).heap.size = v.heap.size + 1 by simp] at this)
  have HB0 := Lib.hid (((Below.refl v.heap.size v).alloc (Nat.le_refl _) (.cells (ouC 5 t w r) 41)).alloc (by simp) (.cells (rpC 0 zN) 45))
  go_enter Tryd.func14, Tryd.ntmps14
  go_upto_region 1 with (fail)
  change Code.wp _ _ _ _ ((v.alloc (.cells (ouC 5 t w r) 41)).alloc (.cells (rpC 0 zN) 45))
  have hsz : (v.alloc (.cells (ouC 5 t w r) 41)).heap.size = v.heap.size + 1 := by simp
  generalize (v.alloc (.cells (ouC 5 t w r) 41)).alloc (.cells (rpC 0 zN) 45) = v0 at *
  try rw [hsz]
  clear hsz
  obtain ⟨p, hp⟩ : ∃ p, p = v.heap.size := ⟨_, rfl⟩
  have HP := Lib.hid hp
  rw [← hp] at HX0 HR0 ⊢
  clear hp
  have c0 : v0.cell? ⟨p, 0, none⟩ = some (.int .i64 5) := HX0.out.cell 0
  have c2 : v0.cell? ⟨p, 2, none⟩ = some (.int .i64 t) := HX0.out.cell 2
  have c3 : v0.cell? ⟨p, 3, none⟩ = some (.int .i64 w) := HX0.out.cell 3
  go_upto_region 12 with (fail)
  refine wp_region_lit ?_
  refine wpList_calls rfl (some 31) rfl 26 #[.int .i64 5, .int .i64 36, .int .i64 0, .int .i64 (-1)] (by go_simp) _ (two_any _ _ _ _ v0) ?_
  rintro e v1 ⟨rfl, hb⟩
  refine ⟨_, rfl, ?_⟩
  replace HR0 := Lib.hid (HR0.out.below hb HR0.out.lt); replace HB0 := Lib.hid (HB0.out.trans (hb.mono HB0.out.size))
  clear hb
  refine wpList_store_row rfl 45 (.tmp 2) (.tmp 31) rfl (p + 1) (rpC 2 ⟨5, 36, 0, -1⟩) rfl rfl 45 (rpC 0 zN) HR0.out rp_info rfl (rpC_one _ _) ?_
  go_wp2_with (fail)
  refine bodyPost_ret_by (results_cell_row Tryd.results14 _ _ (p + 1) 45 (rpC 2 ⟨5, 36, 0, -1⟩) (0, 0) _ rfl (setRow_blk HR0.out) Tryd.underlying45 rfl rp_info) rfl ?_
  exact ⟨rfl, below_setRow HB0.out (by have := HP.out; omega) _⟩
set_option maxRecDepth 100000 in
set_option maxHeartbeats 4000000 in
theorem of_noun (t w : Int) (r : Rs) (v : World)  : Calls Tryd.prog 14 #[ouV 6 t w r] v fun e v' => e = .returned (rpV 2 ⟨5, 37, 0, -1⟩) ∧ Below v.heap.size v v' := by
  have HX0 := Lib.hid ((Blk.new v 41 (ouC 6 t w r)).alloc (.cells (rpC 0 zN) 45))
  have HR0 := Lib.hid (show Blk ((v.alloc (.cells (ouC 6 t w r) 41)).alloc (.cells (rpC 0 zN) 45)) (v.heap.size + 1) 45 (rpC 0 zN) by
    have := Blk.new (v.alloc (.cells (ouC 6 t w r) 41)) 45 (rpC 0 zN)
    rwa [show (v.alloc (.cells (ouC 6 t w r) 41)).heap.size = v.heap.size + 1 by simp] at this)
  have HB0 := Lib.hid (((Below.refl v.heap.size v).alloc (Nat.le_refl _) (.cells (ouC 6 t w r) 41)).alloc (by simp) (.cells (rpC 0 zN) 45))
  go_enter Tryd.func14, Tryd.ntmps14
  go_upto_region 1 with (fail)
  change Code.wp _ _ _ _ ((v.alloc (.cells (ouC 6 t w r) 41)).alloc (.cells (rpC 0 zN) 45))
  have hsz : (v.alloc (.cells (ouC 6 t w r) 41)).heap.size = v.heap.size + 1 := by simp
  generalize (v.alloc (.cells (ouC 6 t w r) 41)).alloc (.cells (rpC 0 zN) 45) = v0 at *
  try rw [hsz]
  clear hsz
  obtain ⟨p, hp⟩ : ∃ p, p = v.heap.size := ⟨_, rfl⟩
  have HP := Lib.hid hp
  rw [← hp] at HX0 HR0 ⊢
  clear hp
  have c0 : v0.cell? ⟨p, 0, none⟩ = some (.int .i64 6) := HX0.out.cell 0
  have c2 : v0.cell? ⟨p, 2, none⟩ = some (.int .i64 t) := HX0.out.cell 2
  have c3 : v0.cell? ⟨p, 3, none⟩ = some (.int .i64 w) := HX0.out.cell 3
  go_upto_region 14 with (fail)
  refine wp_region_lit ?_
  refine wpList_calls rfl (some 34) rfl 26 #[.int .i64 5, .int .i64 37, .int .i64 0, .int .i64 (-1)] (by go_simp) _ (two_any _ _ _ _ v0) ?_
  rintro e v1 ⟨rfl, hb⟩
  refine ⟨_, rfl, ?_⟩
  replace HR0 := Lib.hid (HR0.out.below hb HR0.out.lt); replace HB0 := Lib.hid (HB0.out.trans (hb.mono HB0.out.size))
  clear hb
  refine wpList_store_row rfl 45 (.tmp 2) (.tmp 34) rfl (p + 1) (rpC 2 ⟨5, 37, 0, -1⟩) rfl rfl 45 (rpC 0 zN) HR0.out rp_info rfl (rpC_one _ _) ?_
  go_wp2_with (fail)
  refine bodyPost_ret_by (results_cell_row Tryd.results14 _ _ (p + 1) 45 (rpC 2 ⟨5, 37, 0, -1⟩) (0, 0) _ rfl (setRow_blk HR0.out) Tryd.underlying45 rfl rp_info) rfl ?_
  exact ⟨rfl, below_setRow HB0.out (by have := HP.out; omega) _⟩
set_option maxRecDepth 100000 in
set_option maxHeartbeats 4000000 in
theorem of_told1 (t : Int) (r : Rs) (v : World)  : Calls Tryd.prog 14 #[ouV 7 t 1 r] v fun e v' => e = .returned (rpV 2 ⟨6, 41, 0, -1⟩) ∧ Below v.heap.size v v' := by
  have HX0 := Lib.hid ((Blk.new v 41 (ouC 7 t 1 r)).alloc (.cells (rpC 0 zN) 45))
  have HR0 := Lib.hid (show Blk ((v.alloc (.cells (ouC 7 t 1 r) 41)).alloc (.cells (rpC 0 zN) 45)) (v.heap.size + 1) 45 (rpC 0 zN) by
    have := Blk.new (v.alloc (.cells (ouC 7 t 1 r) 41)) 45 (rpC 0 zN)
    rwa [show (v.alloc (.cells (ouC 7 t 1 r) 41)).heap.size = v.heap.size + 1 by simp] at this)
  have HB0 := Lib.hid (((Below.refl v.heap.size v).alloc (Nat.le_refl _) (.cells (ouC 7 t 1 r) 41)).alloc (by simp) (.cells (rpC 0 zN) 45))
  go_enter Tryd.func14, Tryd.ntmps14
  go_upto_region 1 with (fail)
  change Code.wp _ _ _ _ ((v.alloc (.cells (ouC 7 t 1 r) 41)).alloc (.cells (rpC 0 zN) 45))
  have hsz : (v.alloc (.cells (ouC 7 t 1 r) 41)).heap.size = v.heap.size + 1 := by simp
  generalize (v.alloc (.cells (ouC 7 t 1 r) 41)).alloc (.cells (rpC 0 zN) 45) = v0 at *
  try rw [hsz]
  clear hsz
  obtain ⟨p, hp⟩ : ∃ p, p = v.heap.size := ⟨_, rfl⟩
  have HP := Lib.hid hp
  rw [← hp] at HX0 HR0 ⊢
  clear hp
  have c0 : v0.cell? ⟨p, 0, none⟩ = some (.int .i64 7) := HX0.out.cell 0
  have c2 : v0.cell? ⟨p, 2, none⟩ = some (.int .i64 t) := HX0.out.cell 2
  have c3 : v0.cell? ⟨p, 3, none⟩ = some (.int .i64 1) := HX0.out.cell 3
  go_upto_region 18 with (fail)
  refine wp_region_lit ?_
  refine wpList_calls rfl (some 41) rfl 26 #[.int .i64 6, .int .i64 41, .int .i64 0, .int .i64 (-1)] (by go_simp) _ (two_any _ _ _ _ v0) ?_
  rintro e v1 ⟨rfl, hb⟩
  refine ⟨_, rfl, ?_⟩
  replace HR0 := Lib.hid (HR0.out.below hb HR0.out.lt); replace HB0 := Lib.hid (HB0.out.trans (hb.mono HB0.out.size))
  clear hb
  refine wpList_store_row rfl 45 (.tmp 2) (.tmp 41) rfl (p + 1) (rpC 2 ⟨6, 41, 0, -1⟩) rfl rfl 45 (rpC 0 zN) HR0.out rp_info rfl (rpC_one _ _) ?_
  go_wp2_with (fail)
  refine bodyPost_ret_by (results_cell_row Tryd.results14 _ _ (p + 1) 45 (rpC 2 ⟨6, 41, 0, -1⟩) (0, 0) _ rfl (setRow_blk HR0.out) Tryd.underlying45 rfl rp_info) rfl ?_
  exact ⟨rfl, below_setRow HB0.out (by have := HP.out; omega) _⟩
set_option maxRecDepth 100000 in
set_option maxHeartbeats 4000000 in
theorem of_told2 (t : Int) (r : Rs) (v : World)  : Calls Tryd.prog 14 #[ouV 7 t 2 r] v fun e v' => e = .returned (rpV 2 ⟨6, 42, 5, -1⟩) ∧ Below v.heap.size v v' := by
  have HX0 := Lib.hid ((Blk.new v 41 (ouC 7 t 2 r)).alloc (.cells (rpC 0 zN) 45))
  have HR0 := Lib.hid (show Blk ((v.alloc (.cells (ouC 7 t 2 r) 41)).alloc (.cells (rpC 0 zN) 45)) (v.heap.size + 1) 45 (rpC 0 zN) by
    have := Blk.new (v.alloc (.cells (ouC 7 t 2 r) 41)) 45 (rpC 0 zN)
    rwa [show (v.alloc (.cells (ouC 7 t 2 r) 41)).heap.size = v.heap.size + 1 by simp] at this)
  have HB0 := Lib.hid (((Below.refl v.heap.size v).alloc (Nat.le_refl _) (.cells (ouC 7 t 2 r) 41)).alloc (by simp) (.cells (rpC 0 zN) 45))
  go_enter Tryd.func14, Tryd.ntmps14
  go_upto_region 1 with (fail)
  change Code.wp _ _ _ _ ((v.alloc (.cells (ouC 7 t 2 r) 41)).alloc (.cells (rpC 0 zN) 45))
  have hsz : (v.alloc (.cells (ouC 7 t 2 r) 41)).heap.size = v.heap.size + 1 := by simp
  generalize (v.alloc (.cells (ouC 7 t 2 r) 41)).alloc (.cells (rpC 0 zN) 45) = v0 at *
  try rw [hsz]
  clear hsz
  obtain ⟨p, hp⟩ : ∃ p, p = v.heap.size := ⟨_, rfl⟩
  have HP := Lib.hid hp
  rw [← hp] at HX0 HR0 ⊢
  clear hp
  have c0 : v0.cell? ⟨p, 0, none⟩ = some (.int .i64 7) := HX0.out.cell 0
  have c2 : v0.cell? ⟨p, 2, none⟩ = some (.int .i64 t) := HX0.out.cell 2
  have c3 : v0.cell? ⟨p, 3, none⟩ = some (.int .i64 2) := HX0.out.cell 3
  go_upto_region 20 with (fail)
  refine wp_region_lit ?_
  refine wpList_calls rfl (some 44) rfl 26 #[.int .i64 6, .int .i64 42, .int .i64 5, .int .i64 (-1)] (by go_simp) _ (two_any _ _ _ _ v0) ?_
  rintro e v1 ⟨rfl, hb⟩
  refine ⟨_, rfl, ?_⟩
  replace HR0 := Lib.hid (HR0.out.below hb HR0.out.lt); replace HB0 := Lib.hid (HB0.out.trans (hb.mono HB0.out.size))
  clear hb
  refine wpList_store_row rfl 45 (.tmp 2) (.tmp 44) rfl (p + 1) (rpC 2 ⟨6, 42, 5, -1⟩) rfl rfl 45 (rpC 0 zN) HR0.out rp_info rfl (rpC_one _ _) ?_
  go_wp2_with (fail)
  refine bodyPost_ret_by (results_cell_row Tryd.results14 _ _ (p + 1) 45 (rpC 2 ⟨6, 42, 5, -1⟩) (0, 0) _ rfl (setRow_blk HR0.out) Tryd.underlying45 rfl rp_info) rfl ?_
  exact ⟨rfl, below_setRow HB0.out (by have := HP.out; omega) _⟩
set_option maxRecDepth 100000 in
set_option maxHeartbeats 4000000 in
theorem of_told3 (t : Int) (r : Rs) (v : World)  : Calls Tryd.prog 14 #[ouV 7 t 3 r] v fun e v' => e = .returned (rpV 2 ⟨6, 42, 4, -1⟩) ∧ Below v.heap.size v v' := by
  have HX0 := Lib.hid ((Blk.new v 41 (ouC 7 t 3 r)).alloc (.cells (rpC 0 zN) 45))
  have HR0 := Lib.hid (show Blk ((v.alloc (.cells (ouC 7 t 3 r) 41)).alloc (.cells (rpC 0 zN) 45)) (v.heap.size + 1) 45 (rpC 0 zN) by
    have := Blk.new (v.alloc (.cells (ouC 7 t 3 r) 41)) 45 (rpC 0 zN)
    rwa [show (v.alloc (.cells (ouC 7 t 3 r) 41)).heap.size = v.heap.size + 1 by simp] at this)
  have HB0 := Lib.hid (((Below.refl v.heap.size v).alloc (Nat.le_refl _) (.cells (ouC 7 t 3 r) 41)).alloc (by simp) (.cells (rpC 0 zN) 45))
  go_enter Tryd.func14, Tryd.ntmps14
  go_upto_region 1 with (fail)
  change Code.wp _ _ _ _ ((v.alloc (.cells (ouC 7 t 3 r) 41)).alloc (.cells (rpC 0 zN) 45))
  have hsz : (v.alloc (.cells (ouC 7 t 3 r) 41)).heap.size = v.heap.size + 1 := by simp
  generalize (v.alloc (.cells (ouC 7 t 3 r) 41)).alloc (.cells (rpC 0 zN) 45) = v0 at *
  try rw [hsz]
  clear hsz
  obtain ⟨p, hp⟩ : ∃ p, p = v.heap.size := ⟨_, rfl⟩
  have HP := Lib.hid hp
  rw [← hp] at HX0 HR0 ⊢
  clear hp
  have c0 : v0.cell? ⟨p, 0, none⟩ = some (.int .i64 7) := HX0.out.cell 0
  have c2 : v0.cell? ⟨p, 2, none⟩ = some (.int .i64 t) := HX0.out.cell 2
  have c3 : v0.cell? ⟨p, 3, none⟩ = some (.int .i64 3) := HX0.out.cell 3
  go_upto_region 22 with (fail)
  refine wp_region_lit ?_
  refine wpList_calls rfl (some 47) rfl 26 #[.int .i64 6, .int .i64 42, .int .i64 4, .int .i64 (-1)] (by go_simp) _ (two_any _ _ _ _ v0) ?_
  rintro e v1 ⟨rfl, hb⟩
  refine ⟨_, rfl, ?_⟩
  replace HR0 := Lib.hid (HR0.out.below hb HR0.out.lt); replace HB0 := Lib.hid (HB0.out.trans (hb.mono HB0.out.size))
  clear hb
  refine wpList_store_row rfl 45 (.tmp 2) (.tmp 47) rfl (p + 1) (rpC 2 ⟨6, 42, 4, -1⟩) rfl rfl 45 (rpC 0 zN) HR0.out rp_info rfl (rpC_one _ _) ?_
  go_wp2_with (fail)
  refine bodyPost_ret_by (results_cell_row Tryd.results14 _ _ (p + 1) 45 (rpC 2 ⟨6, 42, 4, -1⟩) (0, 0) _ rfl (setRow_blk HR0.out) Tryd.underlying45 rfl rp_info) rfl ?_
  exact ⟨rfl, below_setRow HB0.out (by have := HP.out; omega) _⟩
set_option maxRecDepth 100000 in
set_option maxHeartbeats 4000000 in
theorem of_told4 (t : Int) (r : Rs) (v : World)  : Calls Tryd.prog 14 #[ouV 7 t 4 r] v fun e v' => e = .returned (rpV 2 ⟨6, 42, 3, -1⟩) ∧ Below v.heap.size v v' := by
  have HX0 := Lib.hid ((Blk.new v 41 (ouC 7 t 4 r)).alloc (.cells (rpC 0 zN) 45))
  have HR0 := Lib.hid (show Blk ((v.alloc (.cells (ouC 7 t 4 r) 41)).alloc (.cells (rpC 0 zN) 45)) (v.heap.size + 1) 45 (rpC 0 zN) by
    have := Blk.new (v.alloc (.cells (ouC 7 t 4 r) 41)) 45 (rpC 0 zN)
    rwa [show (v.alloc (.cells (ouC 7 t 4 r) 41)).heap.size = v.heap.size + 1 by simp] at this)
  have HB0 := Lib.hid (((Below.refl v.heap.size v).alloc (Nat.le_refl _) (.cells (ouC 7 t 4 r) 41)).alloc (by simp) (.cells (rpC 0 zN) 45))
  go_enter Tryd.func14, Tryd.ntmps14
  go_upto_region 1 with (fail)
  change Code.wp _ _ _ _ ((v.alloc (.cells (ouC 7 t 4 r) 41)).alloc (.cells (rpC 0 zN) 45))
  have hsz : (v.alloc (.cells (ouC 7 t 4 r) 41)).heap.size = v.heap.size + 1 := by simp
  generalize (v.alloc (.cells (ouC 7 t 4 r) 41)).alloc (.cells (rpC 0 zN) 45) = v0 at *
  try rw [hsz]
  clear hsz
  obtain ⟨p, hp⟩ : ∃ p, p = v.heap.size := ⟨_, rfl⟩
  have HP := Lib.hid hp
  rw [← hp] at HX0 HR0 ⊢
  clear hp
  have c0 : v0.cell? ⟨p, 0, none⟩ = some (.int .i64 7) := HX0.out.cell 0
  have c2 : v0.cell? ⟨p, 2, none⟩ = some (.int .i64 t) := HX0.out.cell 2
  have c3 : v0.cell? ⟨p, 3, none⟩ = some (.int .i64 4) := HX0.out.cell 3
  go_upto_region 24 with (fail)
  refine wp_region_lit ?_
  refine wpList_calls rfl (some 50) rfl 26 #[.int .i64 6, .int .i64 42, .int .i64 3, .int .i64 (-1)] (by go_simp) _ (two_any _ _ _ _ v0) ?_
  rintro e v1 ⟨rfl, hb⟩
  refine ⟨_, rfl, ?_⟩
  replace HR0 := Lib.hid (HR0.out.below hb HR0.out.lt); replace HB0 := Lib.hid (HB0.out.trans (hb.mono HB0.out.size))
  clear hb
  refine wpList_store_row rfl 45 (.tmp 2) (.tmp 50) rfl (p + 1) (rpC 2 ⟨6, 42, 3, -1⟩) rfl rfl 45 (rpC 0 zN) HR0.out rp_info rfl (rpC_one _ _) ?_
  go_wp2_with (fail)
  refine bodyPost_ret_by (results_cell_row Tryd.results14 _ _ (p + 1) 45 (rpC 2 ⟨6, 42, 3, -1⟩) (0, 0) _ rfl (setRow_blk HR0.out) Tryd.underlying45 rfl rp_info) rfl ?_
  exact ⟨rfl, below_setRow HB0.out (by have := HP.out; omega) _⟩
set_option maxRecDepth 100000 in
set_option maxHeartbeats 4000000 in
theorem of_brk3a (t w : Int) (r : Rs) (v : World) (h0 : ¬ 0 ≤ t) : Calls Tryd.prog 14 #[ouV 3 t w r] v fun e v' => e = .returned (rpV 2 ⟨3, 12, 0, -1⟩) ∧ Below v.heap.size v v' := by
  have HX0 := Lib.hid ((Blk.new v 41 (ouC 3 t w r)).alloc (.cells (rpC 0 zN) 45))
  have HR0 := Lib.hid (show Blk ((v.alloc (.cells (ouC 3 t w r) 41)).alloc (.cells (rpC 0 zN) 45)) (v.heap.size + 1) 45 (rpC 0 zN) by
    have := Blk.new (v.alloc (.cells (ouC 3 t w r) 41)) 45 (rpC 0 zN)
    rwa [show (v.alloc (.cells (ouC 3 t w r) 41)).heap.size = v.heap.size + 1 by simp] at this)
  have HB0 := Lib.hid (((Below.refl v.heap.size v).alloc (Nat.le_refl _) (.cells (ouC 3 t w r) 41)).alloc (by simp) (.cells (rpC 0 zN) 45))
  go_enter Tryd.func14, Tryd.ntmps14
  go_upto_region 1 with (fail)
  change Code.wp _ _ _ _ ((v.alloc (.cells (ouC 3 t w r) 41)).alloc (.cells (rpC 0 zN) 45))
  have hsz : (v.alloc (.cells (ouC 3 t w r) 41)).heap.size = v.heap.size + 1 := by simp
  generalize (v.alloc (.cells (ouC 3 t w r) 41)).alloc (.cells (rpC 0 zN) 45) = v0 at *
  try rw [hsz]
  clear hsz
  obtain ⟨p, hp⟩ : ∃ p, p = v.heap.size := ⟨_, rfl⟩
  have HP := Lib.hid hp
  rw [← hp] at HX0 HR0 ⊢
  clear hp
  have c0 : v0.cell? ⟨p, 0, none⟩ = some (.int .i64 3) := HX0.out.cell 0
  have c2 : v0.cell? ⟨p, 2, none⟩ = some (.int .i64 t) := HX0.out.cell 2
  have c3 : v0.cell? ⟨p, 3, none⟩ = some (.int .i64 w) := HX0.out.cell 3
  go_upto_region 25 with (fail)
  refine wp_region_lit ?_
  refine wpList_calls rfl (some 51) rfl 26 #[.int .i64 3, .int .i64 12, .int .i64 0, .int .i64 (-1)] (by go_simp) _ (two_any _ _ _ _ v0) ?_
  rintro e v1 ⟨rfl, hb⟩
  refine ⟨_, rfl, ?_⟩
  replace HR0 := Lib.hid (HR0.out.below hb HR0.out.lt); replace HB0 := Lib.hid (HB0.out.trans (hb.mono HB0.out.size))
  clear hb
  refine wpList_store_row rfl 45 (.tmp 2) (.tmp 51) rfl (p + 1) (rpC 2 ⟨3, 12, 0, -1⟩) rfl rfl 45 (rpC 0 zN) HR0.out rp_info rfl (rpC_one _ _) ?_
  go_wp2_with (fail)
  refine bodyPost_ret_by (results_cell_row Tryd.results14 _ _ (p + 1) 45 (rpC 2 ⟨3, 12, 0, -1⟩) (0, 0) _ rfl (setRow_blk HR0.out) Tryd.underlying45 rfl rp_info) rfl ?_
  exact ⟨rfl, below_setRow HB0.out (by have := HP.out; omega) _⟩
set_option maxRecDepth 100000 in
set_option maxHeartbeats 4000000 in
theorem of_brk3b (t w : Int) (r : Rs) (v : World) (h0 : 0 ≤ t) (h1 : ¬ t < 4294967296) : Calls Tryd.prog 14 #[ouV 3 t w r] v fun e v' => e = .returned (rpV 2 ⟨3, 12, 0, -1⟩) ∧ Below v.heap.size v v' := by
  have HX0 := Lib.hid ((Blk.new v 41 (ouC 3 t w r)).alloc (.cells (rpC 0 zN) 45))
  have HR0 := Lib.hid (show Blk ((v.alloc (.cells (ouC 3 t w r) 41)).alloc (.cells (rpC 0 zN) 45)) (v.heap.size + 1) 45 (rpC 0 zN) by
    have := Blk.new (v.alloc (.cells (ouC 3 t w r) 41)) 45 (rpC 0 zN)
    rwa [show (v.alloc (.cells (ouC 3 t w r) 41)).heap.size = v.heap.size + 1 by simp] at this)
  have HB0 := Lib.hid (((Below.refl v.heap.size v).alloc (Nat.le_refl _) (.cells (ouC 3 t w r) 41)).alloc (by simp) (.cells (rpC 0 zN) 45))
  go_enter Tryd.func14, Tryd.ntmps14
  go_upto_region 1 with (fail)
  change Code.wp _ _ _ _ ((v.alloc (.cells (ouC 3 t w r) 41)).alloc (.cells (rpC 0 zN) 45))
  have hsz : (v.alloc (.cells (ouC 3 t w r) 41)).heap.size = v.heap.size + 1 := by simp
  generalize (v.alloc (.cells (ouC 3 t w r) 41)).alloc (.cells (rpC 0 zN) 45) = v0 at *
  try rw [hsz]
  clear hsz
  obtain ⟨p, hp⟩ : ∃ p, p = v.heap.size := ⟨_, rfl⟩
  have HP := Lib.hid hp
  rw [← hp] at HX0 HR0 ⊢
  clear hp
  have c0 : v0.cell? ⟨p, 0, none⟩ = some (.int .i64 3) := HX0.out.cell 0
  have c2 : v0.cell? ⟨p, 2, none⟩ = some (.int .i64 t) := HX0.out.cell 2
  have c3 : v0.cell? ⟨p, 3, none⟩ = some (.int .i64 w) := HX0.out.cell 3
  go_upto_region 25 with (fail)
  refine wp_region_lit ?_
  refine wpList_calls rfl (some 51) rfl 26 #[.int .i64 3, .int .i64 12, .int .i64 0, .int .i64 (-1)] (by go_simp) _ (two_any _ _ _ _ v0) ?_
  rintro e v1 ⟨rfl, hb⟩
  refine ⟨_, rfl, ?_⟩
  replace HR0 := Lib.hid (HR0.out.below hb HR0.out.lt); replace HB0 := Lib.hid (HB0.out.trans (hb.mono HB0.out.size))
  clear hb
  refine wpList_store_row rfl 45 (.tmp 2) (.tmp 51) rfl (p + 1) (rpC 2 ⟨3, 12, 0, -1⟩) rfl rfl 45 (rpC 0 zN) HR0.out rp_info rfl (rpC_one _ _) ?_
  go_wp2_with (fail)
  refine bodyPost_ret_by (results_cell_row Tryd.results14 _ _ (p + 1) 45 (rpC 2 ⟨3, 12, 0, -1⟩) (0, 0) _ rfl (setRow_blk HR0.out) Tryd.underlying45 rfl rp_info) rfl ?_
  exact ⟨rfl, below_setRow HB0.out (by have := HP.out; omega) _⟩
set_option maxRecDepth 100000 in
set_option maxHeartbeats 4000000 in
theorem of_brk7 (t w : Int) (r : Rs) (v : World) (w1 : ¬ w = 1) (w2 : ¬ w = 2) (w3 : ¬ w = 3) (w4 : ¬ w = 4) : Calls Tryd.prog 14 #[ouV 7 t w r] v fun e v' => e = .returned (rpV 2 ⟨3, 12, 0, -1⟩) ∧ Below v.heap.size v v' := by
  have HX0 := Lib.hid ((Blk.new v 41 (ouC 7 t w r)).alloc (.cells (rpC 0 zN) 45))
  have HR0 := Lib.hid (show Blk ((v.alloc (.cells (ouC 7 t w r) 41)).alloc (.cells (rpC 0 zN) 45)) (v.heap.size + 1) 45 (rpC 0 zN) by
    have := Blk.new (v.alloc (.cells (ouC 7 t w r) 41)) 45 (rpC 0 zN)
    rwa [show (v.alloc (.cells (ouC 7 t w r) 41)).heap.size = v.heap.size + 1 by simp] at this)
  have HB0 := Lib.hid (((Below.refl v.heap.size v).alloc (Nat.le_refl _) (.cells (ouC 7 t w r) 41)).alloc (by simp) (.cells (rpC 0 zN) 45))
  have e1 : (w == 1) = false := by simp [w1]
  have e2 : (w == 2) = false := by simp [w2]
  have e3 : (w == 3) = false := by simp [w3]
  have e4 : (w == 4) = false := by simp [w4]
  go_enter Tryd.func14, Tryd.ntmps14
  go_upto_region 1 with (fail)
  change Code.wp _ _ _ _ ((v.alloc (.cells (ouC 7 t w r) 41)).alloc (.cells (rpC 0 zN) 45))
  have hsz : (v.alloc (.cells (ouC 7 t w r) 41)).heap.size = v.heap.size + 1 := by simp
  generalize (v.alloc (.cells (ouC 7 t w r) 41)).alloc (.cells (rpC 0 zN) 45) = v0 at *
  try rw [hsz]
  clear hsz
  obtain ⟨p, hp⟩ : ∃ p, p = v.heap.size := ⟨_, rfl⟩
  have HP := Lib.hid hp
  rw [← hp] at HX0 HR0 ⊢
  clear hp
  have c0 : v0.cell? ⟨p, 0, none⟩ = some (.int .i64 7) := HX0.out.cell 0
  have c2 : v0.cell? ⟨p, 2, none⟩ = some (.int .i64 t) := HX0.out.cell 2
  have c3 : v0.cell? ⟨p, 3, none⟩ = some (.int .i64 w) := HX0.out.cell 3
  go_upto_region 25 with (fail)
  refine wp_region_lit ?_
  refine wpList_calls rfl (some 51) rfl 26 #[.int .i64 3, .int .i64 12, .int .i64 0, .int .i64 (-1)] (by go_simp) _ (two_any _ _ _ _ v0) ?_
  rintro e v1 ⟨rfl, hb⟩
  refine ⟨_, rfl, ?_⟩
  replace HR0 := Lib.hid (HR0.out.below hb HR0.out.lt); replace HB0 := Lib.hid (HB0.out.trans (hb.mono HB0.out.size))
  clear hb
  refine wpList_store_row rfl 45 (.tmp 2) (.tmp 51) rfl (p + 1) (rpC 2 ⟨3, 12, 0, -1⟩) rfl rfl 45 (rpC 0 zN) HR0.out rp_info rfl (rpC_one _ _) ?_
  go_wp2_with (fail)
  refine bodyPost_ret_by (results_cell_row Tryd.results14 _ _ (p + 1) 45 (rpC 2 ⟨3, 12, 0, -1⟩) (0, 0) _ rfl (setRow_blk HR0.out) Tryd.underlying45 rfl rp_info) rfl ?_
  exact ⟨rfl, below_setRow HB0.out (by have := HP.out; omega) _⟩
set_option maxRecDepth 100000 in
set_option maxHeartbeats 4000000 in
theorem of_brk (c t w : Int) (r : Rs) (v : World) (n1 : ¬ c = 1) (n2 : ¬ c = 2) (n3 : ¬ c = 3) (n4 : ¬ c = 4) (n5 : ¬ c = 5) (n6 : ¬ c = 6) (n7 : ¬ c = 7)  : Calls Tryd.prog 14 #[ouV c t w r] v fun e v' => e = .returned (rpV 2 ⟨3, 12, 0, -1⟩) ∧ Below v.heap.size v v' := by
  have HX0 := Lib.hid ((Blk.new v 41 (ouC c t w r)).alloc (.cells (rpC 0 zN) 45))
  have HR0 := Lib.hid (show Blk ((v.alloc (.cells (ouC c t w r) 41)).alloc (.cells (rpC 0 zN) 45)) (v.heap.size + 1) 45 (rpC 0 zN) by
    have := Blk.new (v.alloc (.cells (ouC c t w r) 41)) 45 (rpC 0 zN)
    rwa [show (v.alloc (.cells (ouC c t w r) 41)).heap.size = v.heap.size + 1 by simp] at this)
  have HB0 := Lib.hid (((Below.refl v.heap.size v).alloc (Nat.le_refl _) (.cells (ouC c t w r) 41)).alloc (by simp) (.cells (rpC 0 zN) 45))
  have e1 : (c == 1) = false := by simp [n1]
  have e2 : (c == 2) = false := by simp [n2]
  have e3 : (c == 3) = false := by simp [n3]
  have e4 : (c == 4) = false := by simp [n4]
  have e5 : (c == 5) = false := by simp [n5]
  have e6 : (c == 6) = false := by simp [n6]
  have e7 : (c == 7) = false := by simp [n7]
  go_enter Tryd.func14, Tryd.ntmps14
  go_upto_region 1 with (fail)
  change Code.wp _ _ _ _ ((v.alloc (.cells (ouC c t w r) 41)).alloc (.cells (rpC 0 zN) 45))
  have hsz : (v.alloc (.cells (ouC c t w r) 41)).heap.size = v.heap.size + 1 := by simp
  generalize (v.alloc (.cells (ouC c t w r) 41)).alloc (.cells (rpC 0 zN) 45) = v0 at *
  try rw [hsz]
  clear hsz
  obtain ⟨p, hp⟩ : ∃ p, p = v.heap.size := ⟨_, rfl⟩
  have HP := Lib.hid hp
  rw [← hp] at HX0 HR0 ⊢
  clear hp
  have c0 : v0.cell? ⟨p, 0, none⟩ = some (.int .i64 c) := HX0.out.cell 0
  have c2 : v0.cell? ⟨p, 2, none⟩ = some (.int .i64 t) := HX0.out.cell 2
  have c3 : v0.cell? ⟨p, 3, none⟩ = some (.int .i64 w) := HX0.out.cell 3
  go_upto_region 25 with (fail)
  refine wp_region_lit ?_
  refine wpList_calls rfl (some 51) rfl 26 #[.int .i64 3, .int .i64 12, .int .i64 0, .int .i64 (-1)] (by go_simp) _ (two_any _ _ _ _ v0) ?_
  rintro e v1 ⟨rfl, hb⟩
  refine ⟨_, rfl, ?_⟩
  replace HR0 := Lib.hid (HR0.out.below hb HR0.out.lt); replace HB0 := Lib.hid (HB0.out.trans (hb.mono HB0.out.size))
  clear hb
  refine wpList_store_row rfl 45 (.tmp 2) (.tmp 51) rfl (p + 1) (rpC 2 ⟨3, 12, 0, -1⟩) rfl rfl 45 (rpC 0 zN) HR0.out rp_info rfl (rpC_one _ _) ?_
  go_wp2_with (fail)
  refine bodyPost_ret_by (results_cell_row Tryd.results14 _ _ (p + 1) 45 (rpC 2 ⟨3, 12, 0, -1⟩) (0, 0) _ rfl (setRow_blk HR0.out) Tryd.underlying45 rfl rp_info) rfl ?_
  exact ⟨rfl, below_setRow HB0.out (by have := HP.out; omega) _⟩
/-- The document's Of, whatever the outcome has besides. -/
theorem refOf_any (c t w : Int) (r : Rs) (v : World) : Calls Tryd.prog 14 #[ouV c t w r] v fun e v' => e = .returned (rpV (ofX c t w).1 (ofX c t w).2) ∧ Below v.heap.size v v' := by
  unfold ofX
  split
  · rename_i h; subst h; exact of_good t w r v
  split
  · rename_i h; subst h; exact of_conf t w r v
  split
  · rename_i h; obtain ⟨rfl, h0, h1⟩ := h; exact of_diff t w r v h0 h1
  split
  · rename_i h; subst h; exact of_beyo t w r v
  split
  · rename_i h; subst h; exact of_wron t w r v
  split
  · rename_i h; subst h; exact of_noun t w r v
  split
  · rename_i h; obtain ⟨rfl, rfl⟩ := h; exact of_told1 t r v
  split
  · rename_i h; obtain ⟨rfl, rfl⟩ := h; exact of_told2 t r v
  split
  · rename_i h; obtain ⟨rfl, rfl⟩ := h; exact of_told3 t r v
  split
  · rename_i h; obtain ⟨rfl, rfl⟩ := h; exact of_told4 t r v
  · rename_i n1 n2 n3 n4 n5 n6 k1 k2 k3 k4
    by_cases h3 : c = 3
    · subst h3
      by_cases h0 : 0 ≤ t
      · exact of_brk3b t w r v h0 (fun h => n3 ⟨rfl, h0, h⟩)
      · exact of_brk3a t w r v h0
    · by_cases h7 : c = 7
      · subst h7
        exact of_brk7 t w r v (fun h => k1 ⟨rfl, h⟩) (fun h => k2 ⟨rfl, h⟩) (fun h => k3 ⟨rfl, h⟩) (fun h => k4 ⟨rfl, h⟩)
      · exact of_brk c t w r v n1 n2 h3 n4 n5 n6 h7
end Go.Proofs.YthcaeihpdlgcaaaDoor
