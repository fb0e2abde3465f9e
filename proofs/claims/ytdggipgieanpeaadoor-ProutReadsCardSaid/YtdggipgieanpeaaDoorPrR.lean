/- The list of a change, read: the code's read. -/
import Derived.Test.YtdggipgieanpeaaDoorPrQ
import Derived.Test.YtdggipgieanpeaaDoorBits
namespace Go.Proofs.YtdggipgieanpeaaDoor.Pc
open Go.RowKit
theorem ls_info : (Tryd.prog.info? 65).map (·.size) = some 3 := by kernel_rfl
theorem lsC_one (l : Ls) : (lsC l).all (·.oneCell') = true := by simp [lsC, Value.oneCell']
theorem results_ls {fn : Func} {p u : Tmp} (h : fn.results = #[.cell p 65, .tmp u]) (tmps : Array Value) (w : World) (g : Nat) (x : Ls) (hp : tmps.getD p undef = .pointer (some ⟨g, 0, none⟩)) (hg : Blk w g 65 (lsC x)) :
    (results fn tmps).run Tryd.prog w = .ok (.tuple #[lsV x, tmps.getD u undef]) w := by
  rw [results_cell_tmp h, hp]
  have := run_loadVar_row (P := Tryd.prog) w g 65 65 (lsC x) (0, 0) _ hg Tryd.underlying65 rfl ls_info
  simp [asAddr, this, Result.andThen]
/-- What the code's read answers. -/
def rdV (s : ByteArray) : Value := .tuple #[lsV (if s.size = 24 then rdL s else zLs), .bool (isL s)]
theorem bit_zero (n : Nat) : (bitsI (n : Int) 0 1 == 1) = (n % 2 == 1) := by
  unfold bitsI
  rw [if_pos (by decide)]
  show (((n / 1 % 2 : Nat) : Int) == 1) = (n % 2 == 1)
  rw [Nat.div_one]
  cases h : (n % 2 == 1) with
  | true => rw [beq_iff_eq] at h ⊢; omega
  | false => rw [beq_eq_false_iff_ne] at h ⊢; omega
set_option maxRecDepth 100000 in
set_option maxHeartbeats 4000000 in
theorem read_no (s : ByteArray) (hs : ¬ s.size = 24) (w : World) : Calls Tryd.prog 22 #[.string s] w fun e w' => e = .returned (rdV s) ∧ Below w.heap.size w w' := by
  have HV := Lib.hid (show rdV s = .tuple #[lsV zLs, .bool false] by unfold rdV; rw [if_neg hs, is_no hs])
  have q : ((s.size : Int) != 24) = true := by rw [bne_iff_ne]; omega
  have HR0 := Lib.hid (Blk.new w 65 (lsC zLs))
  have HB0 := Lib.hid ((Below.refl w.heap.size w).alloc (Nat.le_refl _) (.cells (lsC zLs) 65))
  clear hs
  go_enter Tryd.func22, Tryd.ntmps22
  go_upto_region 1 with (fail)
  change Code.wp _ _ _ _ (w.alloc (.cells (lsC zLs) 65))
  generalize w.alloc (.cells (lsC zLs) 65) = v0 at *
  obtain ⟨p, hp⟩ : ∃ p, p = w.heap.size := ⟨_, rfl⟩
  have HP := Lib.hid hp
  rw [← hp] at HR0 ⊢
  clear hp
  go_upto_region 2 with (fail)
  refine wp_region_lit ?_
  refine wpList_runs rfl (some 8) rfl (lsV zLs) v0 (by kernel_rfl) ?_
  refine wpList_store_row rfl 65 (.tmp 2) (.tmp 8) rfl p (lsC zLs) rfl rfl 65 (lsC zLs) HR0.out ls_info rfl (lsC_one _) ?_
  go_wp2_with (fail)
  refine bodyPost_ret_by (results_ls rfl _ _ p zLs rfl (setRow_blk HR0.out)) rfl ?_
  exact ⟨by rw [HV.out]; rfl, below_setRow HB0.out (Nat.le_of_eq HP.out.symm) _⟩
set_option maxRecDepth 100000 in
set_option maxHeartbeats 4000000 in
theorem read_yes (s : ByteArray) (hs : s.size = 24) (w : World) : Calls Tryd.prog 22 #[.string s] w fun e w' => e = .returned (rdV s) ∧ Below w.heap.size w w' := by
  have HV := Lib.hid (show rdV s = .tuple #[lsV (rdL s), .bool (isL s)] by unfold rdV; rw [if_pos hs])
  have q : ((s.size : Int) != 24) = false := by rw [bne_eq_false_iff_eq]; omega
  have hix := fun w => index_byt s 20 20 rfl (by omega) w
  have hb20 := byt_lt s 20
  have HBT := Lib.hid (fun v => bit_any (byt s 20) 0 v (by omega) (by unfold In64; decide))
  rw [bit_zero] at HBT
  have k0 : bigR s 0 8 = big s 0 8 := bigR_yes (a := 0) (n := 8) (okB_yes (by omega))
  have k8 : bigR s 8 8 = big s 8 8 := bigR_yes (a := 8) (n := 8) (okB_yes (by omega))
  have o0 : okB s 0 8 = true := okB_yes (by omega)
  have o8 : okB s 8 8 = true := okB_yes (by omega)
  have HB1 := Lib.hid (fun v => big_any s 0 8 v (by unfold maxLen; omega))
  have HB2 := Lib.hid (fun v => big_any s 8 8 v (by unfold maxLen; omega))
  rw [k0, o0] at HB1
  rw [k8, o8] at HB2
  have HE := Lib.hid (is_iff hs)
  have HW := Lib.hid (fun v => write_any (rdL s) v)
  have HRD := Lib.hid (show rdL s = ⟨big s 0 8, big s 8 8, byt s 20 % 2 == 1⟩ from rfl)
  generalize rdL s = l at *
  generalize big s 0 8 = key at *
  generalize big s 8 8 = oth at *
  generalize (byt s 20 % 2 == 1) = on at *
  generalize byt s 20 = b at *
  obtain rfl := HRD.out
  clear k0 k8 o0 o8 HRD
  have e1 : IntKind.u64.wrap (b : Int) = (b : Int) := IntWalk.u64_in _ (by omega)
  have HR0 := Lib.hid (Blk.new w 65 (lsC zLs))
  have HB0 := Lib.hid ((Below.refl w.heap.size w).alloc (Nat.le_refl _) (.cells (lsC zLs) 65))
  clear hs hb20
  generalize wrL ⟨key, oth, on⟩ = R at *
  go_enter Tryd.func22, Tryd.ntmps22
  go_upto_region 1 with (fail)
  change Code.wp _ _ _ _ (w.alloc (.cells (lsC zLs) 65))
  generalize w.alloc (.cells (lsC zLs) 65) = v0 at *
  obtain ⟨p, hp⟩ : ∃ p, p = w.heap.size := ⟨_, rfl⟩
  have HP := Lib.hid hp
  rw [← hp] at HR0 ⊢
  clear hp
  go_upto_region 3 with (fail)
  refine wp_region_lit ?_
  refine wpList_runs rfl (some 9) rfl (.string s) v0 (by rfl) ?_
  refine wpList_runs rfl (some 10) rfl (.int .u8 (b : Int)) v0 (by have h := hix v0; go_simp) ?_
  refine wpList_runs rfl (some 11) rfl (.int .u64 (b : Int)) v0 (by go_simp) ?_
  refine wpList_calls rfl (some 12) rfl 29 #[.int .u64 (b : Int), .int .i64 0] (by unfold execOp; simp [resolve, invoke, go_sem]) _ (HBT.out v0) ?_
  rintro e v1 ⟨rfl, hb⟩
  refine ⟨_, rfl, ?_⟩
  have HR1 := Lib.hid (HR0.out.below hb HR0.out.lt)
  have HBa := Lib.hid (HB0.out.trans (hb.mono HB0.out.size))
  clear hb HR0 HB0 hix
  simp only [Act.put, List.setIfInBounds_toArray, List.set_cons_zero, List.set_cons_succ]
  refine wpList_runs rfl (some 13) rfl (lsV ⟨0, 0, on⟩) v1 (by kernel_rfl) ?_
  simp only [Act.put, List.setIfInBounds_toArray, List.set_cons_zero, List.set_cons_succ]
  refine wpList_runs rfl (some 4) rfl (.pointer (some ⟨v1.heap.size, 0, none⟩)) (v1.alloc (.cells (lsC zLs) 65)) (by kernel_rfl) ?_
  simp only [Act.put, List.setIfInBounds_toArray, List.set_cons_zero, List.set_cons_succ]
  have hal := (Below.refl v1.heap.size v1).alloc (Nat.le_refl _) (.cells (lsC zLs) 65)
  have HG := Lib.hid (Blk.new v1 65 (lsC zLs))
  have HR := Lib.hid (HR1.out.below hal HR1.out.lt)
  have HB := Lib.hid (HBa.out.trans (hal.mono HBa.out.size))
  obtain ⟨g, hg⟩ : ∃ g, g = v1.heap.size := ⟨_, rfl⟩
  have HPG := Lib.hid (show p < g by rw [hg]; exact HR1.out.lt)
  rw [← hg] at HG ⊢
  clear hal hg HR1 HBa
  generalize v1.alloc (.cells (lsC zLs) 65) = v2 at *
  refine wpList_store_row rfl 65 (.tmp 4) (.tmp 13) rfl g (lsC ⟨0, 0, on⟩) rfl rfl 65 (lsC zLs) HG.out ls_info rfl (lsC_one _) ?_
  replace HR := Lib.hid (show Blk (v2.setRow g (lsC ⟨0, 0, on⟩)) p 65 (lsC zLs) from (setRow_other v2 g p _ (by have := HPG.out; omega)).trans HR.out)
  replace HG := Lib.hid (setRow_blk (cs' := lsC ⟨0, 0, on⟩) HG.out)
  replace HB := Lib.hid (below_only HB.out (setRow_only v2 g (lsC ⟨0, 0, on⟩)) (by have := HP.out; have := HPG.out; omega))
  generalize v2.setRow g (lsC ⟨0, 0, on⟩) = v3 at *
  simp only [Act.put]
  go_wp2_with (fail)
  refine (HB1.out _).mono ?_; rintro e x1 ⟨rfl, hb⟩
  replace HR := Lib.hid (HR.out.below hb HR.out.lt); replace HG := Lib.hid (HG.out.below hb HG.out.lt); replace HB := Lib.hid (HB.out.trans (hb.mono HB.out.size))
  clear hb
  have g0 : x1.cell? ⟨g, 0, none⟩ = some (.int .u64 0) := HG.out.cell 0
  have e0 := HG.out.free 0
  go_upto_region 5 with (fail)
  clear g0 e0
  replace HG := Lib.hid (show Blk (x1.setCell ⟨g, 0, none⟩ (.int .u64 (key : Int))) g 65 (lsC ⟨key, 0, on⟩) from HG.out.put 0 (.int .u64 (key : Int)))
  replace HR := Lib.hid (HR.out.far (p := ⟨g, 0, none⟩) (by have := HPG.out; dsimp only; omega) (.int .u64 (key : Int)))
  replace HB := Lib.hid (HB.out.setCell (p := ⟨g, 0, none⟩) (by have := HPG.out; have := HP.out; dsimp only; omega) (.int .u64 (key : Int)))
  generalize World.setCell x1 ⟨g, 0, none⟩ (.int .u64 (key : Int)) = y1 at *
  go_wp2_with (fail)
  refine (HB2.out _).mono ?_; rintro e x2 ⟨rfl, hb⟩
  replace HR := Lib.hid (HR.out.below hb HR.out.lt); replace HG := Lib.hid (HG.out.below hb HG.out.lt); replace HB := Lib.hid (HB.out.trans (hb.mono HB.out.size))
  clear hb
  have g0 : x2.cell? ⟨g, 1, none⟩ = some (.int .u64 0) := HG.out.cell 1
  have e0 := HG.out.free 1
  go_upto_region 6 with (fail)
  clear g0 e0
  replace HG := Lib.hid (show Blk (x2.setCell ⟨g, 1, none⟩ (.int .u64 (oth : Int))) g 65 (lsC ⟨key, oth, on⟩) from HG.out.put 1 (.int .u64 (oth : Int)))
  replace HR := Lib.hid (HR.out.far (p := ⟨g, 1, none⟩) (by have := HPG.out; dsimp only; omega) (.int .u64 (oth : Int)))
  replace HB := Lib.hid (HB.out.setCell (p := ⟨g, 1, none⟩) (by have := HPG.out; have := HP.out; dsimp only; omega) (.int .u64 (oth : Int)))
  generalize World.setCell x2 ⟨g, 1, none⟩ (.int .u64 (oth : Int)) = y2 at *
  refine wp_region_held_drew (S := fun v => Blk v g 65 (lsC ⟨key, oth, on⟩)) (by kernel_rfl) ?_ (fun hHeld => ?_)
  · exact HG.out.drew
  replace HR := Lib.hid HR.out.drew; replace HG := Lib.hid HG.out.drew; replace HB := Lib.hid HB.out.drew
  generalize y2.drew = y3 at *
  refine takeH (i := 0) (v := ?_) rfl (by kernel_rfl) (by kernel_rfl) (by kernel_rfl) (fun _ _ _ h => h) (some 26) rfl (Or.inl ⟨by rfl, ?_⟩) (by assumption) ?_
  rotate_left 1
  · intro wz hSw
    have c0 : wz.cell? ⟨g, 0, none⟩ = some (.int .u64 (key : Int)) := hSw.cell 0
    have c1 : wz.cell? ⟨g, 1, none⟩ = some (.int .u64 (oth : Int)) := hSw.cell 1
    have c2 : wz.cell? ⟨g, 2, none⟩ = some (.bool on) := hSw.cell 2
    go_simp
    try with_reducible rfl
  simp only [Act.put, List.setIfInBounds_toArray, List.set_cons_zero, List.set_cons_succ]
  refine takeH (i := 1) (v := ?_) rfl (by kernel_rfl) (by kernel_rfl) (by kernel_rfl) (fun _ _ _ h => h) (some 27) rfl (Or.inl ⟨by rfl, ?_⟩) (by assumption) ?_
  rotate_left 1
  · intro wz hSw
    have c0 : wz.cell? ⟨g, 0, none⟩ = some (.int .u64 (key : Int)) := hSw.cell 0
    have c1 : wz.cell? ⟨g, 1, none⟩ = some (.int .u64 (oth : Int)) := hSw.cell 1
    have c2 : wz.cell? ⟨g, 2, none⟩ = some (.bool on) := hSw.cell 2
    go_simp
    try with_reducible rfl
  simp only [Act.put, List.setIfInBounds_toArray, List.set_cons_zero, List.set_cons_succ]
  refine takeH (i := 3) (v := ?_) rfl (by kernel_rfl) (by kernel_rfl) (by kernel_rfl) (fun _ _ _ h => h) (some 29) rfl (Or.inl ⟨by rfl, ?_⟩) (by assumption) ?_
  rotate_left 1
  · intro wz hSw
    go_simp
    try with_reducible rfl
  simp only [Act.put, List.setIfInBounds_toArray, List.set_cons_zero, List.set_cons_succ]
  refine wpAnyH_ready (rs := [2]) (by kernel_rfl) (by simp) ?_
  refine AllReadyH.cons rfl (fun KK hKK => ?_) AllReadyH.nil
  refine step_enter (by rfl) 19 #[lsV ⟨key, oth, on⟩] (by unfold execOp; simp [resolve, invoke, go_sem]) _ (HW.out y3) (some 28) rfl ?_
  rintro e x3 ⟨rfl, hb⟩
  refine ⟨_, rfl, ?_⟩
  replace HR := Lib.hid (HR.out.below hb HR.out.lt); replace HG := Lib.hid (HG.out.below hb HG.out.lt); replace HB := Lib.hid (HB.out.trans (hb.mono HB.out.size))
  clear hb
  refine hKK.out _ _ ?_ (fun hHeld => ?_)
  · exact HG.out
  clear hKK KK
  simp only [Act.put, List.setIfInBounds_toArray, List.set_cons_zero, List.set_cons_succ]
  obtain ⟨ok, hok⟩ : ∃ ok : Bool, ok = isL s := ⟨_, rfl⟩
  rw [← hok] at HE HV
  clear hok
  cases ok
  case false =>
    have hRs : ¬ R = s := fun h => absurd (HE.out.2 h) (by decide)
    have hRl : ¬ R.toList = s.toList := fun h => hRs (bytesL (by rw [ByteArray.toList_eq, ByteArray.toList_eq] at h; exact h))
    have hRb : (R.toList == s.toList) = false := by rw [beq_eq_false_iff_ne]; exact hRl
    clear hRs
    refine takeH (i := 4) (v := .bool false) rfl (by kernel_rfl) (by kernel_rfl) (by kernel_rfl) (fun _ _ _ h => h) (some 30) rfl (Or.inl ⟨by rfl, ?_⟩) (by assumption) ?_
    · intro wz hSw
      go_simp
    simp only [Act.put, List.setIfInBounds_toArray, List.set_cons_zero, List.set_cons_succ]
    refine wpAnyH_ready (rs := [5]) (by kernel_rfl) (by simp) ?_
    refine AllReadyH.cons rfl (fun KK hKK => ?_) AllReadyH.nil
    refine step_store (by rfl) 65 (.tmp 2) (.tmp 26) rfl p (lsC ⟨key, oth, on⟩) rfl rfl 65 (lsC zLs) HR.out ls_info rfl (lsC_one _) rfl ?_
    refine hKK.out _ _ ((setRow_other _ p g _ (by have := HPG.out; omega)).trans HG.out) (fun hHeld => ?_)
    clear hKK KK
    refine wpAnyH_ready (rs := [6]) (by kernel_rfl) (by simp) ?_
    refine AllReadyH.cons rfl (fun KK hKK => ?_) AllReadyH.nil
    refine step_value (by rfl) (.bool false) _ (by rfl) (some 3) rfl ?_
    refine hKK.out _ _ (by assumption) (fun hHeld => ?_)
    clear hKK KK
    simp only [Act.put, List.setIfInBounds_toArray, List.set_cons_zero, List.set_cons_succ]
    refine wpAnyH_done (by kernel_rfl) ?_ _
    go_wp2_with (fail)
    refine bodyPost_ret_by (results_ls rfl _ _ p ⟨key, oth, on⟩ rfl (setRow_blk HR.out)) rfl ?_
    exact ⟨by rw [HV.out]; rfl, below_setRow HB.out (Nat.le_of_eq HP.out.symm) _⟩
  case true =>
    have hRs : R = s := HE.out.1 rfl
    subst hRs
    refine takeH (i := 4) (v := .bool true) rfl (by kernel_rfl) (by kernel_rfl) (by kernel_rfl) (fun _ _ _ h => h) (some 30) rfl (Or.inl ⟨by rfl, ?_⟩) (by assumption) ?_
    · intro wz hSw
      go_simp
    simp only [Act.put, List.setIfInBounds_toArray, List.set_cons_zero, List.set_cons_succ]
    refine wpAnyH_ready (rs := [5]) (by kernel_rfl) (by simp) ?_
    refine AllReadyH.cons rfl (fun KK hKK => ?_) AllReadyH.nil
    refine step_store (by rfl) 65 (.tmp 2) (.tmp 26) rfl p (lsC ⟨key, oth, on⟩) rfl rfl 65 (lsC zLs) HR.out ls_info rfl (lsC_one _) rfl ?_
    refine hKK.out _ _ ((setRow_other _ p g _ (by have := HPG.out; omega)).trans HG.out) (fun hHeld => ?_)
    clear hKK KK
    refine wpAnyH_ready (rs := [6]) (by kernel_rfl) (by simp) ?_
    refine AllReadyH.cons rfl (fun KK hKK => ?_) AllReadyH.nil
    refine step_value (by rfl) (.bool true) _ (by rfl) (some 3) rfl ?_
    refine hKK.out _ _ (by assumption) (fun hHeld => ?_)
    clear hKK KK
    simp only [Act.put, List.setIfInBounds_toArray, List.set_cons_zero, List.set_cons_succ]
    refine wpAnyH_done (by kernel_rfl) ?_ _
    go_wp2_with (fail)
    refine bodyPost_ret_by (results_ls rfl _ _ p ⟨key, oth, on⟩ rfl (setRow_blk HR.out)) rfl ?_
    exact ⟨by rw [HV.out]; rfl, below_setRow HB.out (Nat.le_of_eq HP.out.symm) _⟩
theorem read_any (s : ByteArray) (w : World) : Calls Tryd.prog 22 #[.string s] w fun e w' => e = .returned (rdV s) ∧ Below w.heap.size w w' := by
  by_cases hs : s.size = 24
  · exact read_yes s hs w
  · exact read_no s hs w
end Go.Proofs.YtdggipgieanpeaaDoor.Pc
