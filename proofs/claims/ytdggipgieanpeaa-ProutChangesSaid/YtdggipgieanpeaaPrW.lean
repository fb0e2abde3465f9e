/- The list of a command: the code's List. -/
import Derived.Test.YtdggipgieanpeaaPrV
import Derived.Test.YtdggipgieanpeaaPrU
import Derived.OwnWalk
namespace Go.Proofs.Ytdggipgieanpeaa.Pc
open Go.RowKit
theorem index_kds (k : Nat) (hk : k < 7) (w : World) : (Instr.index 61 (.agg kdsC) (.int .i64 (k : Int))).run Try.prog w = .ok (kdV (kd k)) w := by
  have hk' : k = 0 ∨ k = 1 ∨ k = 2 ∨ k = 3 ∨ k = 4 ∨ k = 5 ∨ k = 6 := by omega
  rcases hk' with rfl | rfl | rfl | rfl | rfl | rfl | rfl
  · exact (show (Instr.index 61 (.agg kdsC) (.int .i64 ((0 : Nat) : Int))).run Try.prog w = .ok (kdV (kd 0)) w by kernel_rfl)
  · exact (show (Instr.index 61 (.agg kdsC) (.int .i64 ((1 : Nat) : Int))).run Try.prog w = .ok (kdV (kd 1)) w by kernel_rfl)
  · exact (show (Instr.index 61 (.agg kdsC) (.int .i64 ((2 : Nat) : Int))).run Try.prog w = .ok (kdV (kd 2)) w by kernel_rfl)
  · exact (show (Instr.index 61 (.agg kdsC) (.int .i64 ((3 : Nat) : Int))).run Try.prog w = .ok (kdV (kd 3)) w by kernel_rfl)
  · exact (show (Instr.index 61 (.agg kdsC) (.int .i64 ((4 : Nat) : Int))).run Try.prog w = .ok (kdV (kd 4)) w by kernel_rfl)
  · exact (show (Instr.index 61 (.agg kdsC) (.int .i64 ((5 : Nat) : Int))).run Try.prog w = .ok (kdV (kd 5)) w by kernel_rfl)
  · exact (show (Instr.index 61 (.agg kdsC) (.int .i64 ((6 : Nat) : Int))).run Try.prog w = .ok (kdV (kd 6)) w by kernel_rfl)
theorem ch_rn {i : Nat} {t : Int} {s : ByteArray} {d : Kc} (h : chX (i : Int) t s = some d) : d.rn = 0 := by
  obtain ⟨ha, rfl⟩ := ch_form h
  rcases ha with rfl | rfl | rfl | rfl | rfl | rfl <;> rfl
set_option maxRecDepth 100000 in
set_option maxHeartbeats 8000000 in
theorem list_any (c : Kc) (w : World) : Calls Try.prog 9 #[kcV c] w fun e w' => e = .returned (plV (liX c)) ∧ Below w.heap.size w w' := by
  have HK := Lib.hid kinds_any
  have HN := Lib.hid (li_none (c := c))
  have HC0 := Lib.hid (Blk.new w 26 (kcC c))
  have HB0 := Lib.hid ((Below.refl w.heap.size w).alloc (Nat.le_refl _) (.cells (kcC c) 26))
  go_enter Try.func9, Try.ntmps9
  go_upto_region 1 with (fail)
  change Code.wp _ _ _ _ (w.alloc (.cells (kcC c) 26))
  generalize w.alloc (.cells (kcC c) 26) = v0 at *
  obtain ⟨p, hp⟩ : ∃ p, p = w.heap.size := ⟨_, rfl⟩
  have HP := Lib.hid hp
  rw [← hp] at HC0 ⊢
  clear hp
  go_wp2_with (fail)
  refine (HK.out v0).mono ?_; rintro e v1 ⟨rfl, hb⟩
  have HC1 := Lib.hid (HC0.out.below hb HC0.out.lt); have HB1 := Lib.hid (HB0.out.trans (hb.mono HB0.out.size))
  clear hb HC0 HB0
  go_wp2_with (fail)
  go_loopw [11] (fun i wr => ∃ k : Nat, k ≤ 7 ∧ i = .int .i64 k ∧ Hid (Blk wr p 26 (kcC c)) ∧ Hid (Below w.heap.size w wr) ∧ Hid (∀ j, j < k → hitB c j = false)) (fun i _ => 7 - (intOf i).toNat)
  case atStart => exact ⟨0, by decide, rfl, HC1, HB1, Lib.hid (fun j h => by omega)⟩
  case round =>
    obtain ⟨k, hk, rfl, HC, HB, HJ⟩ := hrel
    by_cases hk7 : (k : Int) < 7
    case neg =>
      have HV := Lib.hid (HN.out (fun j h => HJ.out j (by omega)))
      go_wp2_with (fail)
      go_ret3
      exact ⟨by rw [HV.out]; rfl, HB.out⟩
    have HHIT := Lib.hid (show hitB c k = true → liX c = some ((k : Int), wrL (liK (kd k) c)) from li_hit)
    have HDEF := Lib.hid (show hitB c k = (match chX (k : Int) c.ty (wrL (liK (kd k) c)) with | none => false | some d => sameK c d) from rfl)
    have HRN := Lib.hid (fun d (h : chX (k : Int) c.ty (wrL (liK (kd k) c)) = some d) => ch_rn h)
    have HKL := Lib.hid (fun v => klist_any k c v)
    have HWR := Lib.hid (fun v => write_any (liK (kd k) c) v)
    have HCH := Lib.hid (fun v => change_any (k : Int) c.ty (wrL (liK (kd k) c)) v)
    have hix := index_kds k (by omega)
    have HNOT := Lib.hid (fun h : hitB c k = false => h)
    obtain ⟨hb, hhb⟩ : ∃ hb, hb = hitB c k := ⟨_, rfl⟩
    rw [← hhb] at HHIT HDEF
    have HNOT := Lib.hid (fun h : hb = false => hhb.symm.trans h)
    clear hhb
    generalize wrL (liK (kd k) c) = s at *
    generalize liK (kd k) c = l at *
    generalize kd k = x at *
    go_upto_region 3 with (fail)
    refine wp_region_lit ?_
    refine wpList_runs rfl (some 13) rfl (.int .i64 (k : Int)) wr (by rfl) ?_
    refine wpList_runs rfl (some 14) rfl (kdV x) wr (by have h := hix wr; go_simp) ?_
    simp only [Act.put, List.setIfInBounds_toArray, List.set_cons_zero, List.set_cons_succ]
    refine wpList_runs rfl (some 6) rfl (.pointer (some ⟨wr.heap.size, 0, none⟩)) (wr.alloc (.cells (kdC zKd) 50)) (by kernel_rfl) ?_
    simp only [Act.put, List.setIfInBounds_toArray, List.set_cons_zero, List.set_cons_succ]
    clear hix
    have hal := (Below.refl wr.heap.size wr).alloc (Nat.le_refl _) (.cells (kdC zKd) 50)
    have HG := Lib.hid (Blk.new wr 50 (kdC zKd))
    have HCL := Lib.hid HC.out.lt
    replace HC := Lib.hid (HC.out.below hal HC.out.lt); replace HB := Lib.hid (HB.out.trans (hal.mono HB.out.size))
    obtain ⟨g, hg⟩ : ∃ g, g = wr.heap.size := ⟨_, rfl⟩
    rw [← hg] at HG HCL ⊢
    clear hal hg
    generalize wr.alloc (.cells (kdC zKd) 50) = v2 at *
    refine wpList_runs rfl (some 5) rfl (.int .i64 (k : Int)) v2 (by rfl) ?_
    simp only [Act.put, List.setIfInBounds_toArray, List.set_cons_zero, List.set_cons_succ]
    refine wpList_store_row rfl 50 (.tmp 6) (.tmp 14) rfl g (kdC x) rfl rfl 50 (kdC zKd) HG.out kd_info rfl (kdC_one _) ?_
    replace HC := Lib.hid (show Blk (v2.setRow g (kdC x)) p 26 (kcC c) from (setRow_other v2 g p _ (by have := HCL.out; omega)).trans HC.out)
    replace HG := Lib.hid (setRow_blk (cs' := kdC x) HG.out)
    replace HB := Lib.hid (below_only HB.out (setRow_only v2 g (kdC x)) (by have := HP.out; have := HCL.out; omega))
    generalize v2.setRow g (kdC x) = v3 at *
    simp only [Act.put]
    go_upto_region 4 with (fail)
    refine wp_region_lit ?_
    refine wpList_load_row rfl 50 (.tmp 6) rfl g rfl 50 (kdC x) (0, 0) _ HG.out Try.underlying50 rfl kd_info ?_
    simp only [Act.put, List.setIfInBounds_toArray, List.set_cons_zero, List.set_cons_succ]
    refine wpList_load_row rfl 26 (.tmp 1) rfl p rfl 26 (kcC c) (0, 0) _ HC.out Try.underlying26 rfl kc_inf ?_
    simp only [Act.put, List.setIfInBounds_toArray, List.set_cons_zero, List.set_cons_succ]
    refine wpList_calls rfl (some 17) rfl 19 #[kdV x, kcV c] (by unfold execOp; simp [resolve, invoke, go_sem]) _ (HKL.out v3) ?_
    rintro e v4 ⟨rfl, hb4⟩
    refine ⟨_, rfl, ?_⟩
    replace HC := Lib.hid (HC.out.below hb4 HC.out.lt); replace HB := Lib.hid (HB.out.trans (hb4.mono HB.out.size))
    clear hb4 HG
    simp only [Act.put, List.setIfInBounds_toArray, List.set_cons_zero, List.set_cons_succ]
    refine wpList_calls rfl (some 18) rfl 20 #[lsV l] (by unfold execOp; simp [resolve, invoke, go_sem]) _ (HWR.out v4) ?_
    rintro e v5 ⟨rfl, hb5⟩
    refine ⟨_, rfl, ?_⟩
    replace HC := Lib.hid (HC.out.below hb5 HC.out.lt); replace HB := Lib.hid (HB.out.trans (hb5.mono HB.out.size))
    clear hb5
    simp only [Act.put, List.setIfInBounds_toArray, List.set_cons_zero, List.set_cons_succ]
    refine wpList_runs rfl (some 7) rfl (.string s) v5 (by rfl) ?_
    simp only [Act.put, List.setIfInBounds_toArray, List.set_cons_zero, List.set_cons_succ]
    go_upto_region 5 with (fail)
    have c11 : v5.cell? ⟨p, 11, none⟩ = some (.int .i64 c.ty) := HC.out.cell 11
    refine wp_region_lit ?_
    refine wpList_runs rfl (some 20) rfl (.int .i64 (k : Int)) v5 (by rfl) ?_
    refine wpList_runs rfl (some 21) rfl (.pointer (some ⟨p, 11, none⟩)) v5 (by go_simp) ?_
    simp only [Act.put, List.setIfInBounds_toArray, List.set_cons_zero, List.set_cons_succ]
    refine wpList_runs rfl (some 22) rfl (.int .i64 c.ty) v5 (by go_simp) ?_
    refine wpList_runs rfl (some 23) rfl (.string s) v5 (by rfl) ?_
    simp only [Act.put, List.setIfInBounds_toArray, List.set_cons_zero, List.set_cons_succ]
    clear c11
    refine wpList_calls rfl (some 24) rfl 7 #[.int .i64 (k : Int), .int .i64 c.ty, .string s] (by unfold execOp; simp [resolve, invoke, go_sem]) _ (HCH.out v5) ?_
    rintro e v6 ⟨rfl, hb6⟩
    refine ⟨_, rfl, ?_⟩
    replace HC := Lib.hid (HC.out.below hb6 HC.out.lt); replace HB := Lib.hid (HB.out.trans (hb6.mono HB.out.size))
    clear hb6
    simp only [Act.put, List.setIfInBounds_toArray, List.set_cons_zero, List.set_cons_succ]
    obtain ⟨d, er, hd, hed⟩ : ∃ (d : Kc) (er : Int), chV (chX (k : Int) c.ty s) = .tuple #[kcV d, .int .i64 er] ∧ ((er = 0 ∧ chX (k : Int) c.ty s = some d) ∨ (er = 180 ∧ chX (k : Int) c.ty s = none)) := by
      cases hx : chX (k : Int) c.ty s with
      | none => exact ⟨zK, 180, rfl, .inr ⟨rfl, rfl⟩⟩
      | some y => exact ⟨y, 0, rfl, .inl ⟨rfl, rfl⟩⟩
    have HED := Lib.hid hed
    clear hed
    rw [hd]
    clear hd
    refine wpList_runs rfl (some 19) rfl (.tuple #[kcV d, .int .i64 er]) v6 (by rfl) ?_
    simp only [Act.put, List.setIfInBounds_toArray, List.set_cons_zero, List.set_cons_succ]
    refine wpList_runs rfl (some 25) rfl (kcV d) v6 (by kernel_rfl) ?_
    refine wpList_runs rfl (some 26) rfl (.int .i64 er) v6 (by kernel_rfl) ?_
    simp only [Act.put, List.setIfInBounds_toArray, List.set_cons_zero, List.set_cons_succ]
    refine wpList_runs rfl (some 8) rfl (.pointer (some ⟨v6.heap.size, 0, none⟩)) (v6.alloc (.cells (kcC zK) 26)) (by kernel_rfl) ?_
    simp only [Act.put, List.setIfInBounds_toArray, List.set_cons_zero, List.set_cons_succ]
    have hal := (Below.refl v6.heap.size v6).alloc (Nat.le_refl _) (.cells (kcC zK) 26)
    have HD := Lib.hid (Blk.new v6 26 (kcC zK))
    have HCM := Lib.hid HC.out.lt
    replace HC := Lib.hid (HC.out.below hal HC.out.lt); replace HB := Lib.hid (HB.out.trans (hal.mono HB.out.size))
    obtain ⟨m, hm⟩ : ∃ m, m = v6.heap.size := ⟨_, rfl⟩
    rw [← hm] at HD HCM ⊢
    clear hal hm
    generalize v6.alloc (.cells (kcC zK) 26) = v7 at *
    refine wpList_store_row rfl 26 (.tmp 8) (.tmp 25) rfl m (kcC d) rfl rfl 26 (kcC zK) HD.out kc_inf rfl (kcC_one _) ?_
    replace HC := Lib.hid (show Blk (v7.setRow m (kcC d)) p 26 (kcC c) from (setRow_other v7 m p _ (by have := HCM.out; omega)).trans HC.out)
    replace HD := Lib.hid (setRow_blk (cs' := kcC d) HD.out)
    replace HB := Lib.hid (below_only HB.out (setRow_only v7 m (kcC d)) (by have := HP.out; have := HCM.out; omega))
    generalize v7.setRow m (kcC d) = v8 at *
    simp only [Act.put]
    refine wpList_runs rfl (some 9) rfl (.int .i64 er) v8 (by rfl) ?_
    simp only [Act.put, List.setIfInBounds_toArray, List.set_cons_zero, List.set_cons_succ]
    rcases HED.out with ⟨rfl, hc⟩ | ⟨rfl, hc⟩
    · have HSD := Lib.hid (show hb = sameK c d by rw [HDEF.out, hc])
      have hrn := Lib.hid (HRN.out d hc)
      have HPS := Lib.hid (fun v => psame_any c d hrn.out v)
      clear hc HED HDEF
      cases hsm : sameK c d with
      | true =>
        rw [hsm] at HSD HPS
        have HV := Lib.hid (HHIT.out HSD.out)
        clear hsm
        have c0 : v8.cell? ⟨p, 0, none⟩ = some (.int .i64 c.op) := HC.out.cell 0
        have c1 : v8.cell? ⟨p, 1, none⟩ = some (.int .i64 c.lu) := HC.out.cell 1
        have c2 : v8.cell? ⟨p, 2, none⟩ = some (.string c.ho) := HC.out.cell 2
        have c3 : v8.cell? ⟨p, 3, none⟩ = some (.int .i64 c.lb) := HC.out.cell 3
        have c4 : v8.cell? ⟨p, 4, none⟩ = some (.int .i64 c.bl) := HC.out.cell 4
        have c5 : v8.cell? ⟨p, 5, none⟩ = some (.string c.da) := HC.out.cell 5
        have c6 : v8.cell? ⟨p, 6, none⟩ = some (.bool c.fu) := HC.out.cell 6
        have c7 : v8.cell? ⟨p, 7, none⟩ = some (.slice c.rA c.rn c.rc) := HC.out.cell 7
        have c8 : v8.cell? ⟨p, 8, none⟩ = some (.int .u64 (c.ke : Int)) := HC.out.cell 8
        have c9 : v8.cell? ⟨p, 9, none⟩ = some (.int .u64 (c.nk : Int)) := HC.out.cell 9
        have c10 : v8.cell? ⟨p, 10, none⟩ = some (.int .u64 (c.ot : Int)) := HC.out.cell 10
        have c11 : v8.cell? ⟨p, 11, none⟩ = some (.int .i64 c.ty) := HC.out.cell 11
        have c12 : v8.cell? ⟨p, 12, none⟩ = some (.bool c.ig) := HC.out.cell 12
        have c13 : v8.cell? ⟨p, 13, none⟩ = some (.int .i64 c.ap) := HC.out.cell 13
        have d0 : v8.cell? ⟨m, 0, none⟩ = some (.int .i64 d.op) := HD.out.cell 0
        have d1 : v8.cell? ⟨m, 1, none⟩ = some (.int .i64 d.lu) := HD.out.cell 1
        have d2 : v8.cell? ⟨m, 2, none⟩ = some (.string d.ho) := HD.out.cell 2
        have d3 : v8.cell? ⟨m, 3, none⟩ = some (.int .i64 d.lb) := HD.out.cell 3
        have d4 : v8.cell? ⟨m, 4, none⟩ = some (.int .i64 d.bl) := HD.out.cell 4
        have d5 : v8.cell? ⟨m, 5, none⟩ = some (.string d.da) := HD.out.cell 5
        have d6 : v8.cell? ⟨m, 6, none⟩ = some (.bool d.fu) := HD.out.cell 6
        have d7 : v8.cell? ⟨m, 7, none⟩ = some (.slice d.rA d.rn d.rc) := HD.out.cell 7
        have d8 : v8.cell? ⟨m, 8, none⟩ = some (.int .u64 (d.ke : Int)) := HD.out.cell 8
        have d9 : v8.cell? ⟨m, 9, none⟩ = some (.int .u64 (d.nk : Int)) := HD.out.cell 9
        have d10 : v8.cell? ⟨m, 10, none⟩ = some (.int .u64 (d.ot : Int)) := HD.out.cell 10
        have d11 : v8.cell? ⟨m, 11, none⟩ = some (.int .i64 d.ty) := HD.out.cell 11
        have d12 : v8.cell? ⟨m, 12, none⟩ = some (.bool d.ig) := HD.out.cell 12
        have d13 : v8.cell? ⟨m, 13, none⟩ = some (.int .i64 d.ap) := HD.out.cell 13
        go_wp2_with (fail)
        refine (HPS.out v8).mono ?_; rintro e v9 ⟨rfl, hb9⟩
        clear c0 c1 c2 c3 c4 c5 c6 c7 c8 c9 c10 c11 c12 c13
        clear d0 d1 d2 d3 d4 d5 d6 d7 d8 d9 d10 d11 d12 d13
        replace HB := Lib.hid (HB.out.trans (hb9.mono HB.out.size))
        clear hb9
        go_wp2_with (fail)
        go_ret3
        exact ⟨by rw [HV.out]; rfl, HB.out⟩
      | false =>
        rw [hsm] at HSD HPS
        have HJ1 := Lib.hid (show ∀ j, j < k + 1 → hitB c j = false from fun j hj => by
          by_cases h : j = k
          · subst h; exact HNOT.out HSD.out
          · exact HJ.out j (by omega))
        clear hsm
        have c0 : v8.cell? ⟨p, 0, none⟩ = some (.int .i64 c.op) := HC.out.cell 0
        have c1 : v8.cell? ⟨p, 1, none⟩ = some (.int .i64 c.lu) := HC.out.cell 1
        have c2 : v8.cell? ⟨p, 2, none⟩ = some (.string c.ho) := HC.out.cell 2
        have c3 : v8.cell? ⟨p, 3, none⟩ = some (.int .i64 c.lb) := HC.out.cell 3
        have c4 : v8.cell? ⟨p, 4, none⟩ = some (.int .i64 c.bl) := HC.out.cell 4
        have c5 : v8.cell? ⟨p, 5, none⟩ = some (.string c.da) := HC.out.cell 5
        have c6 : v8.cell? ⟨p, 6, none⟩ = some (.bool c.fu) := HC.out.cell 6
        have c7 : v8.cell? ⟨p, 7, none⟩ = some (.slice c.rA c.rn c.rc) := HC.out.cell 7
        have c8 : v8.cell? ⟨p, 8, none⟩ = some (.int .u64 (c.ke : Int)) := HC.out.cell 8
        have c9 : v8.cell? ⟨p, 9, none⟩ = some (.int .u64 (c.nk : Int)) := HC.out.cell 9
        have c10 : v8.cell? ⟨p, 10, none⟩ = some (.int .u64 (c.ot : Int)) := HC.out.cell 10
        have c11 : v8.cell? ⟨p, 11, none⟩ = some (.int .i64 c.ty) := HC.out.cell 11
        have c12 : v8.cell? ⟨p, 12, none⟩ = some (.bool c.ig) := HC.out.cell 12
        have c13 : v8.cell? ⟨p, 13, none⟩ = some (.int .i64 c.ap) := HC.out.cell 13
        have d0 : v8.cell? ⟨m, 0, none⟩ = some (.int .i64 d.op) := HD.out.cell 0
        have d1 : v8.cell? ⟨m, 1, none⟩ = some (.int .i64 d.lu) := HD.out.cell 1
        have d2 : v8.cell? ⟨m, 2, none⟩ = some (.string d.ho) := HD.out.cell 2
        have d3 : v8.cell? ⟨m, 3, none⟩ = some (.int .i64 d.lb) := HD.out.cell 3
        have d4 : v8.cell? ⟨m, 4, none⟩ = some (.int .i64 d.bl) := HD.out.cell 4
        have d5 : v8.cell? ⟨m, 5, none⟩ = some (.string d.da) := HD.out.cell 5
        have d6 : v8.cell? ⟨m, 6, none⟩ = some (.bool d.fu) := HD.out.cell 6
        have d7 : v8.cell? ⟨m, 7, none⟩ = some (.slice d.rA d.rn d.rc) := HD.out.cell 7
        have d8 : v8.cell? ⟨m, 8, none⟩ = some (.int .u64 (d.ke : Int)) := HD.out.cell 8
        have d9 : v8.cell? ⟨m, 9, none⟩ = some (.int .u64 (d.nk : Int)) := HD.out.cell 9
        have d10 : v8.cell? ⟨m, 10, none⟩ = some (.int .u64 (d.ot : Int)) := HD.out.cell 10
        have d11 : v8.cell? ⟨m, 11, none⟩ = some (.int .i64 d.ty) := HD.out.cell 11
        have d12 : v8.cell? ⟨m, 12, none⟩ = some (.bool d.ig) := HD.out.cell 12
        have d13 : v8.cell? ⟨m, 13, none⟩ = some (.int .i64 d.ap) := HD.out.cell 13
        go_wp2_with (fail)
        refine (HPS.out v8).mono ?_; rintro e v9 ⟨rfl, hb9⟩
        clear c0 c1 c2 c3 c4 c5 c6 c7 c8 c9 c10 c11 c12 c13
        clear d0 d1 d2 d3 d4 d5 d6 d7 d8 d9 d10 d11 d12 d13
        replace HC := Lib.hid (HC.out.below hb9 HC.out.lt)
        replace HB := Lib.hid (HB.out.trans (hb9.mono HB.out.size))
        clear hb9
        go_wp2_with (fail)
        go_roundw
        case rel => exact ⟨k + 1, by omega, by go_num, HC, HB, HJ1⟩
        case measure => simp [intOf]; omega
    · have HSD := Lib.hid (show hb = false by rw [HDEF.out, hc])
      clear hc HED HDEF
      have HJ1 := Lib.hid (show ∀ j, j < k + 1 → hitB c j = false from fun j hj => by
        by_cases h : j = k
        · subst h; exact HNOT.out HSD.out
        · exact HJ.out j (by omega))
      go_wp2_with (fail)
      go_roundw
      case rel => exact ⟨k + 1, by omega, by go_num, HC, HB, HJ1⟩
      case measure => simp [intOf]; omega
end Go.Proofs.Ytdggipgieanpeaa.Pc
