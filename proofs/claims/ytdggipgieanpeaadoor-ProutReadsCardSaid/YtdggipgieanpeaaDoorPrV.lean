/- The command of a list: the code's Change. -/
import Derived.Test.YtdggipgieanpeaaDoorPrT
namespace Go.Proofs.YtdggipgieanpeaaDoor.Pc
open Go.RowKit
theorem results_kc2 {fn : Func} {p u : Tmp} (h : fn.results = #[.cell p 43, .tmp u]) (tmps : Array Value) (w : World) (g : Nat) (x : Kc) (hp : tmps.getD p undef = .pointer (some ⟨g, 0, none⟩)) (hg : Blk w g 43 (kcC x)) :
    (results fn tmps).run Tryd.prog w = .ok (.tuple #[kcV x, tmps.getD u undef]) w := by
  rw [results_cell_tmp h, hp]
  have := run_loadVar_row (P := Tryd.prog) w g 43 43 (kcC x) (0, 0) _ hg Tryd.underlying43 rfl kc_inf
  simp [asAddr, this, Result.andThen]
/-- What is read of a text. -/
def rdZ (s : ByteArray) : Ls := if s.size = 24 then rdL s else zLs
theorem rdZ_is {s : ByteArray} (h : isL s = true) : rdZ s = rdL s := by unfold rdZ; rw [if_pos (of_decide_eq_true h).1]
theorem kdOf_kd {a : Int} (h : (kdOf a).op ≠ 0) : ∃ i : Nat, kdOf a = kd i := by
  unfold kdOf at h ⊢
  split at h
  · rename_i hc; exact ⟨a.toNat, by rw [if_pos hc]⟩
  · exact absurd rfl h
set_option maxRecDepth 100000 in
set_option maxHeartbeats 4000000 in
theorem change_k (a t : Int) (s : ByteArray) (k : Kd) (l : Ls) (hk : kdOf a = k) (hl : rdZ s = l) (q0 : ((kdOf a).op != 0) = false) (bl : Bool) (q1 : isL s = bl) (w : World) : Calls Tryd.prog 11 #[.int .i64 a, .int .i64 t, .string s] w fun e w' => e = .returned (chV (chX a t s)) ∧ Below w.heap.size w w' := by
  have HKO := Lib.hid (fun v => kindOf_any a v)
  have HRD := Lib.hid (fun v => read_any s v)
  rw [show rdV s = .tuple #[lsV (rdZ s), .bool (isL s)] from rfl, hl, q1] at HRD
  have HV := Lib.hid (ch_code a t s)
  rw [if_neg (fun h => by rw [bne_eq_false_iff_eq] at q0; exact h.1 q0)] at HV
  rw [q0, hk] at HKO
  clear hk hl q0 q1
  have HR0 := Lib.hid (Blk.new w 43 (kcC zK))
  have HB0 := Lib.hid ((Below.refl w.heap.size w).alloc (Nat.le_refl _) (.cells (kcC zK) 43))
  go_enter Tryd.func11, Tryd.ntmps11
  go_upto_region 1 with (fail)
  change Code.wp _ _ _ _ (w.alloc (.cells (kcC zK) 43))
  generalize w.alloc (.cells (kcC zK) 43) = v0 at *
  obtain ⟨p, hp⟩ : ∃ p, p = w.heap.size := ⟨_, rfl⟩
  have HP := Lib.hid hp
  rw [← hp] at HR0 ⊢
  clear hp
  refine wp_region_lit ?_
  refine wpList_runs rfl (some 13) rfl (.int .i64 a) v0 (by rfl) ?_
  refine wpList_calls rfl (some 14) rfl 21 #[.int .i64 a] (by unfold execOp; simp [resolve, invoke, go_sem]) _ (HKO.out v0) ?_
  rintro e v1 ⟨rfl, hb⟩
  refine ⟨_, rfl, ?_⟩
  have HR1 := Lib.hid (HR0.out.below hb HR0.out.lt); have HB1 := Lib.hid (HB0.out.trans (hb.mono HB0.out.size))
  clear hb HR0 HB0
  simp only [Act.put, List.setIfInBounds_toArray, List.set_cons_zero, List.set_cons_succ]
  refine wpList_runs rfl (some 12) rfl (.tuple #[kdV k, .bool false]) v1 (by rfl) ?_
  simp only [Act.put, List.setIfInBounds_toArray, List.set_cons_zero, List.set_cons_succ]
  refine wpList_runs rfl (some 15) rfl (kdV k) v1 (by kernel_rfl) ?_
  refine wpList_runs rfl (some 16) rfl (.bool false) v1 (by kernel_rfl) ?_
  simp only [Act.put, List.setIfInBounds_toArray, List.set_cons_zero, List.set_cons_succ]
  refine wpList_runs rfl (some 8) rfl (.pointer (some ⟨v1.heap.size, 0, none⟩)) (v1.alloc (.cells (kdC zKd) 61)) (by kernel_rfl) ?_
  simp only [Act.put, List.setIfInBounds_toArray, List.set_cons_zero, List.set_cons_succ]
  have hal := (Below.refl v1.heap.size v1).alloc (Nat.le_refl _) (.cells (kdC zKd) 61)
  have HG := Lib.hid (Blk.new v1 61 (kdC zKd))
  have HR := Lib.hid (HR1.out.below hal HR1.out.lt); have HB := Lib.hid (HB1.out.trans (hal.mono HB1.out.size))
  obtain ⟨g, hg⟩ : ∃ g, g = v1.heap.size := ⟨_, rfl⟩
  have HPG := Lib.hid (show p < g by rw [hg]; exact HR1.out.lt)
  rw [← hg] at HG ⊢
  clear hal hg HR1 HB1
  generalize v1.alloc (.cells (kdC zKd) 61) = v2 at *
  refine wpList_store_row rfl 61 (.tmp 8) (.tmp 15) rfl g (kdC k) rfl rfl 61 (kdC zKd) HG.out kd_info rfl (kdC_one _) ?_
  replace HR := Lib.hid (show Blk (v2.setRow g (kdC k)) p 43 (kcC zK) from (setRow_other v2 g p _ (by have := HPG.out; omega)).trans HR.out)
  replace HG := Lib.hid (setRow_blk (cs' := kdC k) HG.out)
  replace HB := Lib.hid (below_only HB.out (setRow_only v2 g (kdC k)) (by have := HP.out; have := HPG.out; omega))
  generalize v2.setRow g (kdC k) = v3 at *
  simp only [Act.put]
  refine wpList_runs rfl (some 9) rfl (.bool false) v3 (by rfl) ?_
  simp only [Act.put, List.setIfInBounds_toArray, List.set_cons_zero, List.set_cons_succ]
  go_upto_region 2 with (fail)
  refine wp_region_lit ?_
  refine wpList_runs rfl (some 18) rfl (.string s) v3 (by rfl) ?_
  refine wpList_calls rfl (some 19) rfl 22 #[.string s] (by unfold execOp; simp [resolve, invoke, go_sem]) _ (HRD.out v3) ?_
  rintro e v4 ⟨rfl, hb⟩
  refine ⟨_, rfl, ?_⟩
  replace HR := Lib.hid (HR.out.below hb HR.out.lt); replace HG := Lib.hid (HG.out.below hb HG.out.lt); replace HB := Lib.hid (HB.out.trans (hb.mono HB.out.size))
  clear hb
  simp only [Act.put, List.setIfInBounds_toArray, List.set_cons_zero, List.set_cons_succ]
  refine wpList_runs rfl (some 17) rfl (.tuple #[lsV l, .bool bl]) v4 (by rfl) ?_
  simp only [Act.put, List.setIfInBounds_toArray, List.set_cons_zero, List.set_cons_succ]
  refine wpList_runs rfl (some 20) rfl (lsV l) v4 (by kernel_rfl) ?_
  refine wpList_runs rfl (some 21) rfl (.bool bl) v4 (by kernel_rfl) ?_
  simp only [Act.put, List.setIfInBounds_toArray, List.set_cons_zero, List.set_cons_succ]
  refine wpList_runs rfl (some 10) rfl (.pointer (some ⟨v4.heap.size, 0, none⟩)) (v4.alloc (.cells (lsC zLs) 65)) (by kernel_rfl) ?_
  simp only [Act.put, List.setIfInBounds_toArray, List.set_cons_zero, List.set_cons_succ]
  have hal := (Below.refl v4.heap.size v4).alloc (Nat.le_refl _) (.cells (lsC zLs) 65)
  have HL := Lib.hid (Blk.new v4 65 (lsC zLs))
  have HGL := Lib.hid HG.out.lt
  replace HR := Lib.hid (HR.out.below hal HR.out.lt); replace HG := Lib.hid (HG.out.below hal HG.out.lt); replace HB := Lib.hid (HB.out.trans (hal.mono HB.out.size))
  obtain ⟨m, hm⟩ : ∃ m, m = v4.heap.size := ⟨_, rfl⟩
  rw [← hm] at HL HGL ⊢
  clear hal hm
  generalize v4.alloc (.cells (lsC zLs) 65) = v5 at *
  refine wpList_store_row rfl 65 (.tmp 10) (.tmp 20) rfl m (lsC l) rfl rfl 65 (lsC zLs) HL.out ls_info rfl (lsC_one _) ?_
  replace HR := Lib.hid (show Blk (v5.setRow m (lsC l)) p 43 (kcC zK) from (setRow_other v5 m p _ (by have := HPG.out; have := HGL.out; omega)).trans HR.out)
  replace HG := Lib.hid (show Blk (v5.setRow m (lsC l)) g 61 (kdC k) from (setRow_other v5 m g _ (by have := HGL.out; omega)).trans HG.out)
  replace HL := Lib.hid (setRow_blk (cs' := lsC l) HL.out)
  replace HB := Lib.hid (below_only HB.out (setRow_only v5 m (lsC l)) (by have := HP.out; have := HPG.out; have := HGL.out; omega))
  generalize v5.setRow m (lsC l) = v6 at *
  simp only [Act.put]
  refine wpList_runs rfl (some 11) rfl (.bool bl) v6 (by rfl) ?_
  simp only [Act.put, List.setIfInBounds_toArray, List.set_cons_zero, List.set_cons_succ]
  go_upto_region 4 with (fail)
  refine wp_region_lit ?_
  refine wpList_runs rfl (some 35) rfl (kcV zK) v6 (by kernel_rfl) ?_
  refine wpList_store_row rfl 43 (.tmp 6) (.tmp 35) rfl p (kcC zK) rfl rfl 43 (kcC zK) HR.out kc_inf rfl (kcC_one _) ?_
  go_wp2_with (fail)
  refine bodyPost_ret_by (results_kc2 rfl _ _ p zK rfl (setRow_blk HR.out)) rfl ?_
  exact ⟨by rw [HV.out]; rfl, below_setRow HB.out (Nat.le_of_eq HP.out.symm) _⟩
set_option maxRecDepth 100000 in
set_option maxHeartbeats 4000000 in
theorem change_l (a t : Int) (s : ByteArray) (k : Kd) (l : Ls) (hk : kdOf a = k) (hl : rdZ s = l) (q0 : ((kdOf a).op != 0) = true) (q1 : isL s = false) (w : World) : Calls Tryd.prog 11 #[.int .i64 a, .int .i64 t, .string s] w fun e w' => e = .returned (chV (chX a t s)) ∧ Below w.heap.size w w' := by
  have HKO := Lib.hid (fun v => kindOf_any a v)
  have HRD := Lib.hid (fun v => read_any s v)
  rw [show rdV s = .tuple #[lsV (rdZ s), .bool (isL s)] from rfl, hl, q1] at HRD
  have HV := Lib.hid (ch_code a t s)
  rw [if_neg (fun h => by have := h.2.1; rw [q1] at this; exact absurd this (by decide))] at HV
  rw [q0, hk] at HKO
  clear hk hl q0 q1
  have HR0 := Lib.hid (Blk.new w 43 (kcC zK))
  have HB0 := Lib.hid ((Below.refl w.heap.size w).alloc (Nat.le_refl _) (.cells (kcC zK) 43))
  go_enter Tryd.func11, Tryd.ntmps11
  go_upto_region 1 with (fail)
  change Code.wp _ _ _ _ (w.alloc (.cells (kcC zK) 43))
  generalize w.alloc (.cells (kcC zK) 43) = v0 at *
  obtain ⟨p, hp⟩ : ∃ p, p = w.heap.size := ⟨_, rfl⟩
  have HP := Lib.hid hp
  rw [← hp] at HR0 ⊢
  clear hp
  refine wp_region_lit ?_
  refine wpList_runs rfl (some 13) rfl (.int .i64 a) v0 (by rfl) ?_
  refine wpList_calls rfl (some 14) rfl 21 #[.int .i64 a] (by unfold execOp; simp [resolve, invoke, go_sem]) _ (HKO.out v0) ?_
  rintro e v1 ⟨rfl, hb⟩
  refine ⟨_, rfl, ?_⟩
  have HR1 := Lib.hid (HR0.out.below hb HR0.out.lt); have HB1 := Lib.hid (HB0.out.trans (hb.mono HB0.out.size))
  clear hb HR0 HB0
  simp only [Act.put, List.setIfInBounds_toArray, List.set_cons_zero, List.set_cons_succ]
  refine wpList_runs rfl (some 12) rfl (.tuple #[kdV k, .bool true]) v1 (by rfl) ?_
  simp only [Act.put, List.setIfInBounds_toArray, List.set_cons_zero, List.set_cons_succ]
  refine wpList_runs rfl (some 15) rfl (kdV k) v1 (by kernel_rfl) ?_
  refine wpList_runs rfl (some 16) rfl (.bool true) v1 (by kernel_rfl) ?_
  simp only [Act.put, List.setIfInBounds_toArray, List.set_cons_zero, List.set_cons_succ]
  refine wpList_runs rfl (some 8) rfl (.pointer (some ⟨v1.heap.size, 0, none⟩)) (v1.alloc (.cells (kdC zKd) 61)) (by kernel_rfl) ?_
  simp only [Act.put, List.setIfInBounds_toArray, List.set_cons_zero, List.set_cons_succ]
  have hal := (Below.refl v1.heap.size v1).alloc (Nat.le_refl _) (.cells (kdC zKd) 61)
  have HG := Lib.hid (Blk.new v1 61 (kdC zKd))
  have HR := Lib.hid (HR1.out.below hal HR1.out.lt); have HB := Lib.hid (HB1.out.trans (hal.mono HB1.out.size))
  obtain ⟨g, hg⟩ : ∃ g, g = v1.heap.size := ⟨_, rfl⟩
  have HPG := Lib.hid (show p < g by rw [hg]; exact HR1.out.lt)
  rw [← hg] at HG ⊢
  clear hal hg HR1 HB1
  generalize v1.alloc (.cells (kdC zKd) 61) = v2 at *
  refine wpList_store_row rfl 61 (.tmp 8) (.tmp 15) rfl g (kdC k) rfl rfl 61 (kdC zKd) HG.out kd_info rfl (kdC_one _) ?_
  replace HR := Lib.hid (show Blk (v2.setRow g (kdC k)) p 43 (kcC zK) from (setRow_other v2 g p _ (by have := HPG.out; omega)).trans HR.out)
  replace HG := Lib.hid (setRow_blk (cs' := kdC k) HG.out)
  replace HB := Lib.hid (below_only HB.out (setRow_only v2 g (kdC k)) (by have := HP.out; have := HPG.out; omega))
  generalize v2.setRow g (kdC k) = v3 at *
  simp only [Act.put]
  refine wpList_runs rfl (some 9) rfl (.bool true) v3 (by rfl) ?_
  simp only [Act.put, List.setIfInBounds_toArray, List.set_cons_zero, List.set_cons_succ]
  go_upto_region 2 with (fail)
  refine wp_region_lit ?_
  refine wpList_runs rfl (some 18) rfl (.string s) v3 (by rfl) ?_
  refine wpList_calls rfl (some 19) rfl 22 #[.string s] (by unfold execOp; simp [resolve, invoke, go_sem]) _ (HRD.out v3) ?_
  rintro e v4 ⟨rfl, hb⟩
  refine ⟨_, rfl, ?_⟩
  replace HR := Lib.hid (HR.out.below hb HR.out.lt); replace HG := Lib.hid (HG.out.below hb HG.out.lt); replace HB := Lib.hid (HB.out.trans (hb.mono HB.out.size))
  clear hb
  simp only [Act.put, List.setIfInBounds_toArray, List.set_cons_zero, List.set_cons_succ]
  refine wpList_runs rfl (some 17) rfl (.tuple #[lsV l, .bool false]) v4 (by rfl) ?_
  simp only [Act.put, List.setIfInBounds_toArray, List.set_cons_zero, List.set_cons_succ]
  refine wpList_runs rfl (some 20) rfl (lsV l) v4 (by kernel_rfl) ?_
  refine wpList_runs rfl (some 21) rfl (.bool false) v4 (by kernel_rfl) ?_
  simp only [Act.put, List.setIfInBounds_toArray, List.set_cons_zero, List.set_cons_succ]
  refine wpList_runs rfl (some 10) rfl (.pointer (some ⟨v4.heap.size, 0, none⟩)) (v4.alloc (.cells (lsC zLs) 65)) (by kernel_rfl) ?_
  simp only [Act.put, List.setIfInBounds_toArray, List.set_cons_zero, List.set_cons_succ]
  have hal := (Below.refl v4.heap.size v4).alloc (Nat.le_refl _) (.cells (lsC zLs) 65)
  have HL := Lib.hid (Blk.new v4 65 (lsC zLs))
  have HGL := Lib.hid HG.out.lt
  replace HR := Lib.hid (HR.out.below hal HR.out.lt); replace HG := Lib.hid (HG.out.below hal HG.out.lt); replace HB := Lib.hid (HB.out.trans (hal.mono HB.out.size))
  obtain ⟨m, hm⟩ : ∃ m, m = v4.heap.size := ⟨_, rfl⟩
  rw [← hm] at HL HGL ⊢
  clear hal hm
  generalize v4.alloc (.cells (lsC zLs) 65) = v5 at *
  refine wpList_store_row rfl 65 (.tmp 10) (.tmp 20) rfl m (lsC l) rfl rfl 65 (lsC zLs) HL.out ls_info rfl (lsC_one _) ?_
  replace HR := Lib.hid (show Blk (v5.setRow m (lsC l)) p 43 (kcC zK) from (setRow_other v5 m p _ (by have := HPG.out; have := HGL.out; omega)).trans HR.out)
  replace HG := Lib.hid (show Blk (v5.setRow m (lsC l)) g 61 (kdC k) from (setRow_other v5 m g _ (by have := HGL.out; omega)).trans HG.out)
  replace HL := Lib.hid (setRow_blk (cs' := lsC l) HL.out)
  replace HB := Lib.hid (below_only HB.out (setRow_only v5 m (lsC l)) (by have := HP.out; have := HPG.out; have := HGL.out; omega))
  generalize v5.setRow m (lsC l) = v6 at *
  simp only [Act.put]
  refine wpList_runs rfl (some 11) rfl (.bool false) v6 (by rfl) ?_
  simp only [Act.put, List.setIfInBounds_toArray, List.set_cons_zero, List.set_cons_succ]
  go_upto_region 4 with (fail)
  refine wp_region_lit ?_
  refine wpList_runs rfl (some 35) rfl (kcV zK) v6 (by kernel_rfl) ?_
  refine wpList_store_row rfl 43 (.tmp 6) (.tmp 35) rfl p (kcC zK) rfl rfl 43 (kcC zK) HR.out kc_inf rfl (kcC_one _) ?_
  go_wp2_with (fail)
  refine bodyPost_ret_by (results_kc2 rfl _ _ p zK rfl (setRow_blk HR.out)) rfl ?_
  exact ⟨by rw [HV.out]; rfl, below_setRow HB.out (Nat.le_of_eq HP.out.symm) _⟩
set_option maxRecDepth 100000 in
set_option maxHeartbeats 4000000 in
theorem change_a (a t : Int) (s : ByteArray) (k : Kd) (l : Ls) (hk : kdOf a = k) (hl : rdZ s = l) (q0 : ((kdOf a).op != 0) = true) (q1 : isL s = true) (q2 : alB k t l = false) (w : World) : Calls Tryd.prog 11 #[.int .i64 a, .int .i64 t, .string s] w fun e w' => e = .returned (chV (chX a t s)) ∧ Below w.heap.size w w' := by
  have HKO := Lib.hid (fun v => kindOf_any a v)
  have HRD := Lib.hid (fun v => read_any s v)
  rw [show rdV s = .tuple #[lsV (rdZ s), .bool (isL s)] from rfl, hl, q1] at HRD
  have HV := Lib.hid (ch_code a t s)
  rw [if_neg (fun h => by have := h.2.2; rw [hk, ← rdZ_is q1, hl, q2] at this; exact absurd this (by decide))] at HV
  rw [q0, hk] at HKO
  have HAL := Lib.hid (fun v => allows_any k t l v)
  rw [q2] at HAL
  clear q2
  clear hk hl q0 q1
  have HR0 := Lib.hid (Blk.new w 43 (kcC zK))
  have HB0 := Lib.hid ((Below.refl w.heap.size w).alloc (Nat.le_refl _) (.cells (kcC zK) 43))
  go_enter Tryd.func11, Tryd.ntmps11
  go_upto_region 1 with (fail)
  change Code.wp _ _ _ _ (w.alloc (.cells (kcC zK) 43))
  generalize w.alloc (.cells (kcC zK) 43) = v0 at *
  obtain ⟨p, hp⟩ : ∃ p, p = w.heap.size := ⟨_, rfl⟩
  have HP := Lib.hid hp
  rw [← hp] at HR0 ⊢
  clear hp
  refine wp_region_lit ?_
  refine wpList_runs rfl (some 13) rfl (.int .i64 a) v0 (by rfl) ?_
  refine wpList_calls rfl (some 14) rfl 21 #[.int .i64 a] (by unfold execOp; simp [resolve, invoke, go_sem]) _ (HKO.out v0) ?_
  rintro e v1 ⟨rfl, hb⟩
  refine ⟨_, rfl, ?_⟩
  have HR1 := Lib.hid (HR0.out.below hb HR0.out.lt); have HB1 := Lib.hid (HB0.out.trans (hb.mono HB0.out.size))
  clear hb HR0 HB0
  simp only [Act.put, List.setIfInBounds_toArray, List.set_cons_zero, List.set_cons_succ]
  refine wpList_runs rfl (some 12) rfl (.tuple #[kdV k, .bool true]) v1 (by rfl) ?_
  simp only [Act.put, List.setIfInBounds_toArray, List.set_cons_zero, List.set_cons_succ]
  refine wpList_runs rfl (some 15) rfl (kdV k) v1 (by kernel_rfl) ?_
  refine wpList_runs rfl (some 16) rfl (.bool true) v1 (by kernel_rfl) ?_
  simp only [Act.put, List.setIfInBounds_toArray, List.set_cons_zero, List.set_cons_succ]
  refine wpList_runs rfl (some 8) rfl (.pointer (some ⟨v1.heap.size, 0, none⟩)) (v1.alloc (.cells (kdC zKd) 61)) (by kernel_rfl) ?_
  simp only [Act.put, List.setIfInBounds_toArray, List.set_cons_zero, List.set_cons_succ]
  have hal := (Below.refl v1.heap.size v1).alloc (Nat.le_refl _) (.cells (kdC zKd) 61)
  have HG := Lib.hid (Blk.new v1 61 (kdC zKd))
  have HR := Lib.hid (HR1.out.below hal HR1.out.lt); have HB := Lib.hid (HB1.out.trans (hal.mono HB1.out.size))
  obtain ⟨g, hg⟩ : ∃ g, g = v1.heap.size := ⟨_, rfl⟩
  have HPG := Lib.hid (show p < g by rw [hg]; exact HR1.out.lt)
  rw [← hg] at HG ⊢
  clear hal hg HR1 HB1
  generalize v1.alloc (.cells (kdC zKd) 61) = v2 at *
  refine wpList_store_row rfl 61 (.tmp 8) (.tmp 15) rfl g (kdC k) rfl rfl 61 (kdC zKd) HG.out kd_info rfl (kdC_one _) ?_
  replace HR := Lib.hid (show Blk (v2.setRow g (kdC k)) p 43 (kcC zK) from (setRow_other v2 g p _ (by have := HPG.out; omega)).trans HR.out)
  replace HG := Lib.hid (setRow_blk (cs' := kdC k) HG.out)
  replace HB := Lib.hid (below_only HB.out (setRow_only v2 g (kdC k)) (by have := HP.out; have := HPG.out; omega))
  generalize v2.setRow g (kdC k) = v3 at *
  simp only [Act.put]
  refine wpList_runs rfl (some 9) rfl (.bool true) v3 (by rfl) ?_
  simp only [Act.put, List.setIfInBounds_toArray, List.set_cons_zero, List.set_cons_succ]
  go_upto_region 2 with (fail)
  refine wp_region_lit ?_
  refine wpList_runs rfl (some 18) rfl (.string s) v3 (by rfl) ?_
  refine wpList_calls rfl (some 19) rfl 22 #[.string s] (by unfold execOp; simp [resolve, invoke, go_sem]) _ (HRD.out v3) ?_
  rintro e v4 ⟨rfl, hb⟩
  refine ⟨_, rfl, ?_⟩
  replace HR := Lib.hid (HR.out.below hb HR.out.lt); replace HG := Lib.hid (HG.out.below hb HG.out.lt); replace HB := Lib.hid (HB.out.trans (hb.mono HB.out.size))
  clear hb
  simp only [Act.put, List.setIfInBounds_toArray, List.set_cons_zero, List.set_cons_succ]
  refine wpList_runs rfl (some 17) rfl (.tuple #[lsV l, .bool true]) v4 (by rfl) ?_
  simp only [Act.put, List.setIfInBounds_toArray, List.set_cons_zero, List.set_cons_succ]
  refine wpList_runs rfl (some 20) rfl (lsV l) v4 (by kernel_rfl) ?_
  refine wpList_runs rfl (some 21) rfl (.bool true) v4 (by kernel_rfl) ?_
  simp only [Act.put, List.setIfInBounds_toArray, List.set_cons_zero, List.set_cons_succ]
  refine wpList_runs rfl (some 10) rfl (.pointer (some ⟨v4.heap.size, 0, none⟩)) (v4.alloc (.cells (lsC zLs) 65)) (by kernel_rfl) ?_
  simp only [Act.put, List.setIfInBounds_toArray, List.set_cons_zero, List.set_cons_succ]
  have hal := (Below.refl v4.heap.size v4).alloc (Nat.le_refl _) (.cells (lsC zLs) 65)
  have HL := Lib.hid (Blk.new v4 65 (lsC zLs))
  have HGL := Lib.hid HG.out.lt
  replace HR := Lib.hid (HR.out.below hal HR.out.lt); replace HG := Lib.hid (HG.out.below hal HG.out.lt); replace HB := Lib.hid (HB.out.trans (hal.mono HB.out.size))
  obtain ⟨m, hm⟩ : ∃ m, m = v4.heap.size := ⟨_, rfl⟩
  rw [← hm] at HL HGL ⊢
  clear hal hm
  generalize v4.alloc (.cells (lsC zLs) 65) = v5 at *
  refine wpList_store_row rfl 65 (.tmp 10) (.tmp 20) rfl m (lsC l) rfl rfl 65 (lsC zLs) HL.out ls_info rfl (lsC_one _) ?_
  replace HR := Lib.hid (show Blk (v5.setRow m (lsC l)) p 43 (kcC zK) from (setRow_other v5 m p _ (by have := HPG.out; have := HGL.out; omega)).trans HR.out)
  replace HG := Lib.hid (show Blk (v5.setRow m (lsC l)) g 61 (kdC k) from (setRow_other v5 m g _ (by have := HGL.out; omega)).trans HG.out)
  replace HL := Lib.hid (setRow_blk (cs' := lsC l) HL.out)
  replace HB := Lib.hid (below_only HB.out (setRow_only v5 m (lsC l)) (by have := HP.out; have := HPG.out; have := HGL.out; omega))
  generalize v5.setRow m (lsC l) = v6 at *
  simp only [Act.put]
  refine wpList_runs rfl (some 11) rfl (.bool true) v6 (by rfl) ?_
  simp only [Act.put, List.setIfInBounds_toArray, List.set_cons_zero, List.set_cons_succ]
  have c0 : v6.cell? ⟨g, 0, none⟩ = some (.int .i64 k.op) := HG.out.cell 0
  have c1 : v6.cell? ⟨g, 1, none⟩ = some (.int .i64 k.se) := HG.out.cell 1
  have c2 : v6.cell? ⟨g, 2, none⟩ = some (.bool k.ty) := HG.out.cell 2
  have c3 : v6.cell? ⟨g, 3, none⟩ = some (.bool k.st) := HG.out.cell 3
  have c4 : v6.cell? ⟨g, 4, none⟩ = some (.bool k.ig) := HG.out.cell 4
  have d0 : v6.cell? ⟨m, 0, none⟩ = some (.int .u64 (l.k : Int)) := HL.out.cell 0
  have d1 : v6.cell? ⟨m, 1, none⟩ = some (.int .u64 (l.s : Int)) := HL.out.cell 1
  have d2 : v6.cell? ⟨m, 2, none⟩ = some (.bool l.a) := HL.out.cell 2
  go_wp2_with (fail)
  refine (HAL.out v6).mono ?_; rintro e v7 ⟨rfl, hb⟩
  clear c0 c1 c2 c3 c4 d0 d1 d2
  replace HR := Lib.hid (HR.out.below hb HR.out.lt); replace HG := Lib.hid (HG.out.below hb HG.out.lt); replace HL := Lib.hid (HL.out.below hb HL.out.lt); replace HB := Lib.hid (HB.out.trans (hb.mono HB.out.size))
  clear hb
  go_upto_region 4 with (fail)
  refine wp_region_lit ?_
  refine wpList_runs rfl (some 35) rfl (kcV zK) v7 (by kernel_rfl) ?_
  refine wpList_store_row rfl 43 (.tmp 6) (.tmp 35) rfl p (kcC zK) rfl rfl 43 (kcC zK) HR.out kc_inf rfl (kcC_one _) ?_
  go_wp2_with (fail)
  refine bodyPost_ret_by (results_kc2 rfl _ _ p zK rfl (setRow_blk HR.out)) rfl ?_
  exact ⟨by rw [HV.out]; rfl, below_setRow HB.out (Nat.le_of_eq HP.out.symm) _⟩
set_option maxRecDepth 100000 in
set_option maxHeartbeats 4000000 in
theorem change_y (a t : Int) (s : ByteArray) (k : Kd) (l : Ls) (hk : kdOf a = k) (hl : rdZ s = l) (q0 : ((kdOf a).op != 0) = true) (q1 : isL s = true) (q2 : alB k t l = true) (w : World) : Calls Tryd.prog 11 #[.int .i64 a, .int .i64 t, .string s] w fun e w' => e = .returned (chV (chX a t s)) ∧ Below w.heap.size w w' := by
  have HKO := Lib.hid (fun v => kindOf_any a v)
  have HRD := Lib.hid (fun v => read_any s v)
  rw [show rdV s = .tuple #[lsV (rdZ s), .bool (isL s)] from rfl, hl, q1] at HRD
  have HV := Lib.hid (ch_code a t s)
  have hop : (kdOf a).op ≠ 0 := by rwa [bne_iff_ne] at q0
  obtain ⟨i, hi⟩ := kdOf_kd hop
  rw [if_pos ⟨hop, q1, by rw [hk, ← rdZ_is q1, hl]; exact q2⟩, hk, ← rdZ_is q1, hl] at HV
  have HCM := Lib.hid (fun v => command_any i (by rw [← hi]; exact hop) t l v)
  rw [← hi, hk] at HCM
  clear hop hi
  rw [q0, hk] at HKO
  have HAL := Lib.hid (fun v => allows_any k t l v)
  rw [q2] at HAL
  clear q2
  clear hk hl q0 q1
  have HR0 := Lib.hid (Blk.new w 43 (kcC zK))
  have HB0 := Lib.hid ((Below.refl w.heap.size w).alloc (Nat.le_refl _) (.cells (kcC zK) 43))
  go_enter Tryd.func11, Tryd.ntmps11
  go_upto_region 1 with (fail)
  change Code.wp _ _ _ _ (w.alloc (.cells (kcC zK) 43))
  generalize w.alloc (.cells (kcC zK) 43) = v0 at *
  obtain ⟨p, hp⟩ : ∃ p, p = w.heap.size := ⟨_, rfl⟩
  have HP := Lib.hid hp
  rw [← hp] at HR0 ⊢
  clear hp
  refine wp_region_lit ?_
  refine wpList_runs rfl (some 13) rfl (.int .i64 a) v0 (by rfl) ?_
  refine wpList_calls rfl (some 14) rfl 21 #[.int .i64 a] (by unfold execOp; simp [resolve, invoke, go_sem]) _ (HKO.out v0) ?_
  rintro e v1 ⟨rfl, hb⟩
  refine ⟨_, rfl, ?_⟩
  have HR1 := Lib.hid (HR0.out.below hb HR0.out.lt); have HB1 := Lib.hid (HB0.out.trans (hb.mono HB0.out.size))
  clear hb HR0 HB0
  simp only [Act.put, List.setIfInBounds_toArray, List.set_cons_zero, List.set_cons_succ]
  refine wpList_runs rfl (some 12) rfl (.tuple #[kdV k, .bool true]) v1 (by rfl) ?_
  simp only [Act.put, List.setIfInBounds_toArray, List.set_cons_zero, List.set_cons_succ]
  refine wpList_runs rfl (some 15) rfl (kdV k) v1 (by kernel_rfl) ?_
  refine wpList_runs rfl (some 16) rfl (.bool true) v1 (by kernel_rfl) ?_
  simp only [Act.put, List.setIfInBounds_toArray, List.set_cons_zero, List.set_cons_succ]
  refine wpList_runs rfl (some 8) rfl (.pointer (some ⟨v1.heap.size, 0, none⟩)) (v1.alloc (.cells (kdC zKd) 61)) (by kernel_rfl) ?_
  simp only [Act.put, List.setIfInBounds_toArray, List.set_cons_zero, List.set_cons_succ]
  have hal := (Below.refl v1.heap.size v1).alloc (Nat.le_refl _) (.cells (kdC zKd) 61)
  have HG := Lib.hid (Blk.new v1 61 (kdC zKd))
  have HR := Lib.hid (HR1.out.below hal HR1.out.lt); have HB := Lib.hid (HB1.out.trans (hal.mono HB1.out.size))
  obtain ⟨g, hg⟩ : ∃ g, g = v1.heap.size := ⟨_, rfl⟩
  have HPG := Lib.hid (show p < g by rw [hg]; exact HR1.out.lt)
  rw [← hg] at HG ⊢
  clear hal hg HR1 HB1
  generalize v1.alloc (.cells (kdC zKd) 61) = v2 at *
  refine wpList_store_row rfl 61 (.tmp 8) (.tmp 15) rfl g (kdC k) rfl rfl 61 (kdC zKd) HG.out kd_info rfl (kdC_one _) ?_
  replace HR := Lib.hid (show Blk (v2.setRow g (kdC k)) p 43 (kcC zK) from (setRow_other v2 g p _ (by have := HPG.out; omega)).trans HR.out)
  replace HG := Lib.hid (setRow_blk (cs' := kdC k) HG.out)
  replace HB := Lib.hid (below_only HB.out (setRow_only v2 g (kdC k)) (by have := HP.out; have := HPG.out; omega))
  generalize v2.setRow g (kdC k) = v3 at *
  simp only [Act.put]
  refine wpList_runs rfl (some 9) rfl (.bool true) v3 (by rfl) ?_
  simp only [Act.put, List.setIfInBounds_toArray, List.set_cons_zero, List.set_cons_succ]
  go_upto_region 2 with (fail)
  refine wp_region_lit ?_
  refine wpList_runs rfl (some 18) rfl (.string s) v3 (by rfl) ?_
  refine wpList_calls rfl (some 19) rfl 22 #[.string s] (by unfold execOp; simp [resolve, invoke, go_sem]) _ (HRD.out v3) ?_
  rintro e v4 ⟨rfl, hb⟩
  refine ⟨_, rfl, ?_⟩
  replace HR := Lib.hid (HR.out.below hb HR.out.lt); replace HG := Lib.hid (HG.out.below hb HG.out.lt); replace HB := Lib.hid (HB.out.trans (hb.mono HB.out.size))
  clear hb
  simp only [Act.put, List.setIfInBounds_toArray, List.set_cons_zero, List.set_cons_succ]
  refine wpList_runs rfl (some 17) rfl (.tuple #[lsV l, .bool true]) v4 (by rfl) ?_
  simp only [Act.put, List.setIfInBounds_toArray, List.set_cons_zero, List.set_cons_succ]
  refine wpList_runs rfl (some 20) rfl (lsV l) v4 (by kernel_rfl) ?_
  refine wpList_runs rfl (some 21) rfl (.bool true) v4 (by kernel_rfl) ?_
  simp only [Act.put, List.setIfInBounds_toArray, List.set_cons_zero, List.set_cons_succ]
  refine wpList_runs rfl (some 10) rfl (.pointer (some ⟨v4.heap.size, 0, none⟩)) (v4.alloc (.cells (lsC zLs) 65)) (by kernel_rfl) ?_
  simp only [Act.put, List.setIfInBounds_toArray, List.set_cons_zero, List.set_cons_succ]
  have hal := (Below.refl v4.heap.size v4).alloc (Nat.le_refl _) (.cells (lsC zLs) 65)
  have HL := Lib.hid (Blk.new v4 65 (lsC zLs))
  have HGL := Lib.hid HG.out.lt
  replace HR := Lib.hid (HR.out.below hal HR.out.lt); replace HG := Lib.hid (HG.out.below hal HG.out.lt); replace HB := Lib.hid (HB.out.trans (hal.mono HB.out.size))
  obtain ⟨m, hm⟩ : ∃ m, m = v4.heap.size := ⟨_, rfl⟩
  rw [← hm] at HL HGL ⊢
  clear hal hm
  generalize v4.alloc (.cells (lsC zLs) 65) = v5 at *
  refine wpList_store_row rfl 65 (.tmp 10) (.tmp 20) rfl m (lsC l) rfl rfl 65 (lsC zLs) HL.out ls_info rfl (lsC_one _) ?_
  replace HR := Lib.hid (show Blk (v5.setRow m (lsC l)) p 43 (kcC zK) from (setRow_other v5 m p _ (by have := HPG.out; have := HGL.out; omega)).trans HR.out)
  replace HG := Lib.hid (show Blk (v5.setRow m (lsC l)) g 61 (kdC k) from (setRow_other v5 m g _ (by have := HGL.out; omega)).trans HG.out)
  replace HL := Lib.hid (setRow_blk (cs' := lsC l) HL.out)
  replace HB := Lib.hid (below_only HB.out (setRow_only v5 m (lsC l)) (by have := HP.out; have := HPG.out; have := HGL.out; omega))
  generalize v5.setRow m (lsC l) = v6 at *
  simp only [Act.put]
  refine wpList_runs rfl (some 11) rfl (.bool true) v6 (by rfl) ?_
  simp only [Act.put, List.setIfInBounds_toArray, List.set_cons_zero, List.set_cons_succ]
  have c0 : v6.cell? ⟨g, 0, none⟩ = some (.int .i64 k.op) := HG.out.cell 0
  have c1 : v6.cell? ⟨g, 1, none⟩ = some (.int .i64 k.se) := HG.out.cell 1
  have c2 : v6.cell? ⟨g, 2, none⟩ = some (.bool k.ty) := HG.out.cell 2
  have c3 : v6.cell? ⟨g, 3, none⟩ = some (.bool k.st) := HG.out.cell 3
  have c4 : v6.cell? ⟨g, 4, none⟩ = some (.bool k.ig) := HG.out.cell 4
  have d0 : v6.cell? ⟨m, 0, none⟩ = some (.int .u64 (l.k : Int)) := HL.out.cell 0
  have d1 : v6.cell? ⟨m, 1, none⟩ = some (.int .u64 (l.s : Int)) := HL.out.cell 1
  have d2 : v6.cell? ⟨m, 2, none⟩ = some (.bool l.a) := HL.out.cell 2
  go_wp2_with (fail)
  refine (HAL.out v6).mono ?_; rintro e v7 ⟨rfl, hb⟩
  clear c0 c1 c2 c3 c4 d0 d1 d2
  replace HR := Lib.hid (HR.out.below hb HR.out.lt); replace HG := Lib.hid (HG.out.below hb HG.out.lt); replace HL := Lib.hid (HL.out.below hb HL.out.lt); replace HB := Lib.hid (HB.out.trans (hb.mono HB.out.size))
  clear hb
  go_upto_region 5 with (fail)
  have c0 : v7.cell? ⟨g, 0, none⟩ = some (.int .i64 k.op) := HG.out.cell 0
  have c1 : v7.cell? ⟨g, 1, none⟩ = some (.int .i64 k.se) := HG.out.cell 1
  have c2 : v7.cell? ⟨g, 2, none⟩ = some (.bool k.ty) := HG.out.cell 2
  have c3 : v7.cell? ⟨g, 3, none⟩ = some (.bool k.st) := HG.out.cell 3
  have c4 : v7.cell? ⟨g, 4, none⟩ = some (.bool k.ig) := HG.out.cell 4
  have d0 : v7.cell? ⟨m, 0, none⟩ = some (.int .u64 (l.k : Int)) := HL.out.cell 0
  have d1 : v7.cell? ⟨m, 1, none⟩ = some (.int .u64 (l.s : Int)) := HL.out.cell 1
  have d2 : v7.cell? ⟨m, 2, none⟩ = some (.bool l.a) := HL.out.cell 2
  refine wp_region_lit ?_
  refine wpList_runs rfl (some 36) rfl (kdV k) v7 (by go_simp) ?_
  refine wpList_runs rfl (some 37) rfl (.int .i64 t) v7 (by rfl) ?_
  simp only [Act.put, List.setIfInBounds_toArray, List.set_cons_zero, List.set_cons_succ]
  refine wpList_runs rfl (some 38) rfl (lsV l) v7 (by go_simp) ?_
  simp only [Act.put, List.setIfInBounds_toArray, List.set_cons_zero, List.set_cons_succ]
  clear c0 c1 c2 c3 c4 d0 d1 d2
  refine wpList_calls rfl (some 39) rfl 24 #[kdV k, .int .i64 t, lsV l] (by unfold execOp; simp [resolve, invoke, go_sem]) _ (HCM.out v7) ?_
  rintro e v8 ⟨rfl, hb⟩
  refine ⟨_, rfl, ?_⟩
  replace HR := Lib.hid (HR.out.below hb HR.out.lt); replace HB := Lib.hid (HB.out.trans (hb.mono HB.out.size))
  clear hb
  generalize cmK k t l = X at *
  simp only [Act.put, List.setIfInBounds_toArray, List.set_cons_zero, List.set_cons_succ]
  refine wpList_store_row rfl 43 (.tmp 6) (.tmp 39) rfl p (kcC X) rfl rfl 43 (kcC zK) HR.out kc_inf rfl (kcC_one _) ?_
  go_wp2_with (fail)
  refine bodyPost_ret_by (results_kc2 rfl _ _ p X rfl (setRow_blk HR.out)) rfl ?_
  exact ⟨by rw [HV.out]; rfl, below_setRow HB.out (Nat.le_of_eq HP.out.symm) _⟩
theorem change_any (a t : Int) (s : ByteArray) (w : World) : Calls Tryd.prog 11 #[.int .i64 a, .int .i64 t, .string s] w fun e w' => e = .returned (chV (chX a t s)) ∧ Below w.heap.size w w' := by
  cases q0 : ((kdOf a).op != 0) with
  | false => exact change_k a t s _ _ rfl rfl q0 _ rfl w
  | true =>
    cases q1 : isL s with
    | false => exact change_l a t s _ _ rfl rfl q0 q1 w
    | true =>
      cases q2 : alB (kdOf a) t (rdZ s) with
      | false => exact change_a a t s _ _ rfl rfl q0 q1 q2 w
      | true => exact change_y a t s _ _ rfl rfl q0 q1 q2 w
end Go.Proofs.YtdggipgieanpeaaDoor.Pc
