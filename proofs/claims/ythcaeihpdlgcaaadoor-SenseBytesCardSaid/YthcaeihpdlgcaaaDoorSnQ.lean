/- What reports an outcome, and the outcome that is reported. -/
import Derived.Test.YthcaeihpdlgcaaaDoorSnQm
import Derived.Laws.ResultCell
namespace Go.Proofs.YthcaeihpdlgcaaaDoor
open Go.RowKit
theorem results_tmp_cell {fn : Func} {p u : Tmp} {ty : TypeId} (h : fn.results = #[.tmp u, .cell p ty]) (tmps : Array Value) (P : Program) (w : World) :
    (results fn tmps).run P w =
      ((asAddr (tmps.getD p undef)).run P w).andThen fun a w₁ => ((loadVar ty a).run P w₁).andThen fun v w₂ => .ok (.tuple #[tmps.getD u undef, v]) w₂ := by
  simp only [results, h]
  simp [Sem.run_bind, Result.andThen]
theorem results_tmp4 {fn : Func} {t u v x : Tmp} (h : fn.results = #[.tmp t, .tmp u, .tmp v, .tmp x]) (tmps : Array Value) (P : Program) (w : World) :
    (results fn tmps).run P w = .ok (.tuple #[tmps.getD t undef, tmps.getD u undef, tmps.getD v undef, tmps.getD x undef]) w := by
  simp [results, h]
theorem results_of {fn : Func} {p u : Tmp} (h : fn.results = #[.tmp u, .cell p 23]) (tmps : Array Value) (w : World) (g : Nat) (x : Sn) (hp : tmps.getD p undef = .pointer (some ⟨g, 0, none⟩)) (hg : Blk w g 23 (snC x)) :
    (results fn tmps).run Tryd.prog w = .ok (.tuple #[tmps.getD u undef, snV x]) w := by
  rw [results_tmp_cell h, hp]
  have := run_loadVar_row (P := Tryd.prog) w g 23 23 (snC x) (0, 0) _ hg Tryd.underlying23 rfl sn_info
  simp [asAddr, this, Result.andThen]
theorem below_only_one {g : Nat} {w v v' : World} (h : Below w.heap.size w v) (hg : w.heap.size ≤ g) (ho : Only (fun k => k = g) v v') : Below w.heap.size w v' :=
  h.trans (below_only ho h.size (fun k hk => by rw [hk]; exact hg))
set_option maxRecDepth 100000 in
set_option maxHeartbeats 4000000 in
theorem off_any (c t u : Int) (r : Rs) (w : World) (ht : RT w) : Calls Tryd.prog 13 #[ouV c t u r] w fun e w' => e = .returned (.tuple #[.int .i64 (ofX c t u).1, snV (ofX c t u).2]) ∧ Below w.heap.size w w' := by
  have HT := Lib.hid ht
  have HO0 := Lib.hid ((Blk.new w 41 (ouC c t u r)).alloc (.cells (snC zN) 23))
  have HZ0 := Lib.hid (show Blk ((w.alloc (.cells (ouC c t u r) 41)).alloc (.cells (snC zN) 23)) (w.heap.size + 1) 23 (snC zN) by
    have := Blk.new (w.alloc (.cells (ouC c t u r) 41)) 23 (snC zN)
    rwa [show (w.alloc (.cells (ouC c t u r) 41)).heap.size = w.heap.size + 1 by simp] at this)
  have HB0 := Lib.hid (((Below.refl w.heap.size w).alloc (Nat.le_refl _) (.cells (ouC c t u r) 41)).alloc (by simp) (.cells (snC zN) 23))
  have HF := Lib.hid (fun v (hv : RT v) => find_any 24 (ocV c t u) (oB c t u) v hv (fun _ _ => rfl) (fun r v => oIsOf_any c t u r v))
  have HF8 := Lib.hid (fun v (hv : RT v) => find_any 24 (ocV 8 0 0) (oB 8 0 0) v hv (fun _ _ => rfl) (fun r v => oIsOf_any 8 0 0 r v))
  rw [of_row c t u]
  cases hf : rwT.find? (oB c t u) with
  | some ro =>
    have QF := Lib.hid (show fiV (rwT.find? (oB c t u)) = .tuple #[rwV ro, .bool true] by rw [hf]; rfl)
    have HV := Lib.hid (show rowO c t u = ro by unfold rowO; rw [hf]; rfl)
    clear hf ht
    go_enter Tryd.func13, Tryd.ntmps13
    go_upto_region 1 with (fail)
    change Code.wp _ _ _ _ ((w.alloc (.cells (ouC c t u r) 41)).alloc (.cells (snC zN) 23))
    have hsz : (w.alloc (.cells (ouC c t u r) 41)).heap.size = w.heap.size + 1 := by simp
    generalize (w.alloc (.cells (ouC c t u r) 41)).alloc (.cells (snC zN) 23) = v0 at *
    try rw [hsz]
    clear hsz
    obtain ⟨p, hp⟩ : ∃ p, p = w.heap.size := ⟨_, rfl⟩
    have HP := Lib.hid hp
    rw [← hp] at HO0 HZ0 ⊢
    clear hp
    have c0 : v0.cell? ⟨p, 0, none⟩ = some (.int .i64 c) := HO0.out.cell 0
    have c2 : v0.cell? ⟨p, 2, none⟩ = some (.int .i64 t) := HO0.out.cell 2
    have c3 : v0.cell? ⟨p, 3, none⟩ = some (.int .i64 u) := HO0.out.cell 3
    go_wp2_with (fail)
    refine (HF.out v0 (HT.out.below HB0.out)).mono ?_; rintro e v1 ⟨rfl, hb⟩
    have HB1 := Lib.hid (HB0.out.trans (hb.mono HB0.out.size)); have HO1 := Lib.hid (HO0.out.below hb HO0.out.lt); have HZ1 := Lib.hid (HZ0.out.below hb HZ0.out.lt); clear hb HB0 HO0 HZ0 c0 c2 c3
    rw [QF.out]
    go_upto_region 2 with (fail)
    change Code.wp _ _ _ _ (v1.alloc (.cells (rwC ro) 61))
    have hal := (Below.refl v1.heap.size v1).alloc (Nat.le_refl _) (.cells (rwC ro) 61)
    have HB := Lib.hid (HB1.out.trans (hal.mono HB1.out.size)); have HO := Lib.hid (HO1.out.below hal HO1.out.lt); have HZ := Lib.hid (HZ1.out.below hal HZ1.out.lt); have HG := Lib.hid (Blk.new v1 61 (rwC ro))
    obtain ⟨g, hg⟩ : ∃ g, g = v1.heap.size := ⟨_, rfl⟩
    have HPG := Lib.hid (show p + 1 < g by rw [hg]; exact HZ1.out.lt)
    rw [← hg] at HG ⊢
    clear hal hg HB1 HO1 HZ1
    generalize v1.alloc (.cells (rwC ro) 61) = v2 at *
    go_upto_region 4 with (fail)
    refine wp_region_held_drew (S := (fun v => Blk v p 41 (ouC c t u r) ∧ Blk v g 61 (rwC ro))) (by kernel_rfl) ?_ (fun hHeld => ?_)
    · exact ⟨HO.out.drew, HG.out.drew⟩
    replace HB := Lib.hid HB.out.drew; replace HO := Lib.hid HO.out.drew; replace HG := Lib.hid HG.out.drew; replace HZ := Lib.hid HZ.out.drew
    generalize World.drew _ = x0 at *
    refine takeH (i := 0) (v := ?_) rfl (by kernel_rfl) (by kernel_rfl) (by kernel_rfl) (fun _ _ _ h => h) (some 26) rfl (Or.inl ⟨by rfl, ?_⟩) (by assumption) ?_
    rotate_left 1
    · intro wz hSw
      go_simp
      try with_reducible rfl
    simp only [Act.put, List.setIfInBounds_toArray, List.set_cons_zero, List.set_cons_succ]
    refine takeH (i := 1) (v := ?_) rfl (by kernel_rfl) (by kernel_rfl) (by kernel_rfl) (fun _ _ _ h => h) (some 27) rfl (Or.inl ⟨by rfl, ?_⟩) (by assumption) ?_
    rotate_left 1
    · intro wz hSw
      have c2 : wz.cell? ⟨p, 2, none⟩ = some (.int .i64 t) := hSw.1.cell 2
      have d2 : wz.cell? ⟨g, 2, none⟩ = some (.int .i64 ro.s) := hSw.2.cell 2
      go_simp
      try with_reducible rfl
    simp only [Act.put, List.setIfInBounds_toArray, List.set_cons_zero, List.set_cons_succ]
    refine takeH (i := 2) (v := (rwV ro)) rfl (by kernel_rfl) (by kernel_rfl) (by kernel_rfl) (fun _ _ _ h => h) (some 28) rfl ?_ (by assumption) ?_
    · exact yieldsIf_load_mid (by rfl) 61 (.tmp 4) rfl g 0 (by rfl) (rwC ro).toList _ (fun wz hSw => hSw.2.range 0 _ (fun j v h => by rw [Nat.zero_add]; simpa using h)) Tryd.underlying61 rfl rw_info
    simp only [Act.put, List.setIfInBounds_toArray, List.set_cons_zero, List.set_cons_succ]
    refine takeH (i := 3) (v := ?_) rfl (by kernel_rfl) (by kernel_rfl) (by kernel_rfl) (fun _ _ _ h => h) (some 29) rfl (Or.inl ⟨by rfl, ?_⟩) (by assumption) ?_
    rotate_left 1
    · intro wz hSw
      go_simp
      try with_reducible rfl
    simp only [Act.put, List.setIfInBounds_toArray, List.set_cons_zero, List.set_cons_succ]
    refine takeH (i := 4) (v := ?_) rfl (by kernel_rfl) (by kernel_rfl) (by kernel_rfl) (fun _ _ _ h => h) (some 30) rfl (Or.inl ⟨by rfl, ?_⟩) (by assumption) ?_
    rotate_left 1
    · intro wz hSw
      have c2 : wz.cell? ⟨p, 2, none⟩ = some (.int .i64 t) := hSw.1.cell 2
      have d2 : wz.cell? ⟨g, 2, none⟩ = some (.int .i64 ro.s) := hSw.2.cell 2
      go_simp
      try with_reducible rfl
    simp only [Act.put, List.setIfInBounds_toArray, List.set_cons_zero, List.set_cons_succ]
    refine wpAnyH_ready (rs := [5]) (by kernel_rfl) (by simp) ?_
    refine AllReadyH.cons rfl (fun KK hKK => ?_) AllReadyH.nil
    refine step_call2 (by rfl) 25 (.tmp 28) (.tmp 30) _ (by rfl) _ _ (by rfl) (by rfl) (fun _ _ => rfl) _ (sense_any ro t x0) (some 31) rfl ?_
    rintro e x1 ⟨rfl, hb⟩
    refine ⟨_, rfl, ?_⟩
    replace HB := Lib.hid (HB.out.trans (hb.mono HB.out.size)); replace HO := Lib.hid (HO.out.below hb HO.out.lt); replace HG := Lib.hid (HG.out.below hb HG.out.lt); replace HZ := Lib.hid (HZ.out.below hb HZ.out.lt); clear hb
    refine hKK.out _ _ ⟨HO.out, HG.out⟩ (fun hHeld => ?_)
    clear hKK KK
    simp only [Act.put, List.setIfInBounds_toArray, List.set_cons_zero, List.set_cons_succ]
    refine takeH (i := 6) (v := ?_) rfl (by kernel_rfl) (by kernel_rfl) (by kernel_rfl) (fun _ _ _ h => h) (some 2) rfl (Or.inl ⟨by rfl, ?_⟩) (by assumption) ?_
    rotate_left 1
    · intro wz hSw
      go_simp
      try with_reducible rfl
    simp only [Act.put, List.setIfInBounds_toArray, List.set_cons_zero, List.set_cons_succ]
    refine wpAnyH_ready (rs := [7]) (by kernel_rfl) (by simp) ?_
    refine AllReadyH.cons rfl (fun KK hKK => ?_) AllReadyH.nil
    refine step_store (by rfl) 23 (.tmp 3) (.tmp 31) rfl (p + 1) (snC (senR ro t)) (by rfl) (by rfl) 23 (snC zN) HZ.out sn_info rfl (snC_one _) none rfl ?_
    intro x2 hz ho
    have HX := Lib.hid hz; have HO2 := Lib.hid (HO.out.only ho (by omega)); have HG2 := Lib.hid (HG.out.only ho (by have := HPG.out; omega))
    have HB2 := Lib.hid (below_only_one HB.out (by rw [← HP.out]; omega) ho); clear hz ho
    refine hKK.out _ _ ⟨HO2.out, HG2.out⟩ (fun hHeld => ?_)
    clear hKK KK
    simp only [Act.put]
    refine wpAnyH_done (by kernel_rfl) ?_ _
    go_wp2_with (fail)
    refine bodyPost_ret_by (results_of rfl _ _ (p + 1) (senR ro t) rfl HX.out) rfl ?_
    exact ⟨by rw [HV.out]; rfl, HB2.out⟩
  | none =>
    have QF := Lib.hid (show fiV (rwT.find? (oB c t u)) = .tuple #[rwV zRw, .bool false] by rw [hf]; rfl)
    have HV := Lib.hid (show rowO c t u = rwI 6 by unfold rowO; rw [hf]; rfl)
    clear hf ht
    go_enter Tryd.func13, Tryd.ntmps13
    go_upto_region 1 with (fail)
    change Code.wp _ _ _ _ ((w.alloc (.cells (ouC c t u r) 41)).alloc (.cells (snC zN) 23))
    have hsz : (w.alloc (.cells (ouC c t u r) 41)).heap.size = w.heap.size + 1 := by simp
    generalize (w.alloc (.cells (ouC c t u r) 41)).alloc (.cells (snC zN) 23) = v0 at *
    try rw [hsz]
    clear hsz
    obtain ⟨p, hp⟩ : ∃ p, p = w.heap.size := ⟨_, rfl⟩
    have HP := Lib.hid hp
    rw [← hp] at HO0 HZ0 ⊢
    clear hp
    have c0 : v0.cell? ⟨p, 0, none⟩ = some (.int .i64 c) := HO0.out.cell 0
    have c2 : v0.cell? ⟨p, 2, none⟩ = some (.int .i64 t) := HO0.out.cell 2
    have c3 : v0.cell? ⟨p, 3, none⟩ = some (.int .i64 u) := HO0.out.cell 3
    go_wp2_with (fail)
    refine (HF.out v0 (HT.out.below HB0.out)).mono ?_; rintro e v1 ⟨rfl, hb⟩
    have HB1 := Lib.hid (HB0.out.trans (hb.mono HB0.out.size)); have HO1 := Lib.hid (HO0.out.below hb HO0.out.lt); have HZ1 := Lib.hid (HZ0.out.below hb HZ0.out.lt); clear hb HB0 HO0 HZ0 c0 c2 c3
    rw [QF.out]
    go_upto_region 2 with (fail)
    change Code.wp _ _ _ _ (v1.alloc (.cells (rwC zRw) 61))
    have hal := (Below.refl v1.heap.size v1).alloc (Nat.le_refl _) (.cells (rwC zRw) 61)
    have HB := Lib.hid (HB1.out.trans (hal.mono HB1.out.size)); have HO := Lib.hid (HO1.out.below hal HO1.out.lt); have HZ := Lib.hid (HZ1.out.below hal HZ1.out.lt); have HG := Lib.hid (Blk.new v1 61 (rwC zRw))
    obtain ⟨g, hg⟩ : ∃ g, g = v1.heap.size := ⟨_, rfl⟩
    have HPG := Lib.hid (show p + 1 < g by rw [hg]; exact HZ1.out.lt)
    rw [← hg] at HG ⊢
    clear hal hg HB1 HO1 HZ1
    generalize v1.alloc (.cells (rwC zRw) 61) = v2 at *
    go_upto_region 3 with (fail)
    refine wp_region_lit ?_
    refine wpList_runs rfl (some 21) rfl (ocV 8 0 0) v2 (by kernel_rfl) ?_
    simp only [Act.put, List.setIfInBounds_toArray, List.set_cons_zero, List.set_cons_succ]
    refine wpList_runs rfl (some 22) rfl (.func (.func 24) #[ocV 8 0 0] #[]) v2 (by go_simp) ?_
    simp only [Act.put, List.setIfInBounds_toArray, List.set_cons_zero, List.set_cons_succ]
    refine wpList_calls rfl (some 23) rfl 23 #[.func (.func 24) #[ocV 8 0 0] #[]] (by go_simp) _ (HF8.out v2 (HT.out.below HB.out)) ?_
    rintro e v3 ⟨rfl, hb⟩
    refine ⟨_, rfl, ?_⟩
    replace HB := Lib.hid (HB.out.trans (hb.mono HB.out.size)); replace HO := Lib.hid (HO.out.below hb HO.out.lt); replace HZ := Lib.hid (HZ.out.below hb HZ.out.lt); replace HG := Lib.hid (HG.out.below hb HG.out.lt); clear hb
    simp only [Act.put, List.setIfInBounds_toArray, List.set_cons_zero, List.set_cons_succ]
    rw [show fiV (rwT.find? (oB 8 0 0)) = .tuple #[rwV (rwI 6), .bool true] from rfl]
    refine wpList_runs rfl (some 20) rfl (.tuple #[rwV (rwI 6), .bool true]) v3 (by go_simp) ?_
    refine wpList_runs rfl (some 24) rfl (rwV (rwI 6)) v3 (by go_simp) ?_
    refine wpList_runs rfl (some 25) rfl (.bool true) v3 (by go_simp) ?_
    simp only [Act.put, List.setIfInBounds_toArray, List.set_cons_zero, List.set_cons_succ]
    refine wpList_store_row rfl 61 (.tmp 4) (.tmp 24) rfl g (rwC (rwI 6)) rfl rfl 61 (rwC zRw) HG.out rw_info rfl (rwC_one _) ?_
    have HG2 := Lib.hid (setRow_blk (cs' := rwC (rwI 6)) HG.out)
    have ho := setRow_only v3 g (rwC (rwI 6))
    have HB2 := Lib.hid (below_only_one HB.out (by rw [← HP.out]; have := HPG.out; omega) ho); have HO2 := Lib.hid (HO.out.only ho (by have := HPG.out; omega)); have HZ2 := Lib.hid (HZ.out.only ho (by have := HPG.out; omega)); clear ho HB HO HZ HG
    generalize v3.setRow g (rwC (rwI 6)) = v4 at *
    have HB := HB2; have HO := HO2; have HZ := HZ2; have HG := HG2; clear HB2 HO2 HZ2 HG2
    go_upto_region 4 with (fail)
    refine wp_region_held_drew (S := (fun v => Blk v p 41 (ouC c t u r) ∧ Blk v g 61 (rwC (rwI 6)))) (by kernel_rfl) ?_ (fun hHeld => ?_)
    · exact ⟨HO.out.drew, HG.out.drew⟩
    replace HB := Lib.hid HB.out.drew; replace HO := Lib.hid HO.out.drew; replace HG := Lib.hid HG.out.drew; replace HZ := Lib.hid HZ.out.drew
    generalize World.drew _ = x0 at *
    refine takeH (i := 0) (v := ?_) rfl (by kernel_rfl) (by kernel_rfl) (by kernel_rfl) (fun _ _ _ h => h) (some 26) rfl (Or.inl ⟨by rfl, ?_⟩) (by assumption) ?_
    rotate_left 1
    · intro wz hSw
      go_simp
      try with_reducible rfl
    simp only [Act.put, List.setIfInBounds_toArray, List.set_cons_zero, List.set_cons_succ]
    refine takeH (i := 1) (v := ?_) rfl (by kernel_rfl) (by kernel_rfl) (by kernel_rfl) (fun _ _ _ h => h) (some 27) rfl (Or.inl ⟨by rfl, ?_⟩) (by assumption) ?_
    rotate_left 1
    · intro wz hSw
      have c2 : wz.cell? ⟨p, 2, none⟩ = some (.int .i64 t) := hSw.1.cell 2
      have d2 : wz.cell? ⟨g, 2, none⟩ = some (.int .i64 (rwI 6).s) := hSw.2.cell 2
      go_simp
      try with_reducible rfl
    simp only [Act.put, List.setIfInBounds_toArray, List.set_cons_zero, List.set_cons_succ]
    refine takeH (i := 2) (v := (rwV (rwI 6))) rfl (by kernel_rfl) (by kernel_rfl) (by kernel_rfl) (fun _ _ _ h => h) (some 28) rfl ?_ (by assumption) ?_
    · exact yieldsIf_load_mid (by rfl) 61 (.tmp 4) rfl g 0 (by rfl) (rwC (rwI 6)).toList _ (fun wz hSw => hSw.2.range 0 _ (fun j v h => by rw [Nat.zero_add]; simpa using h)) Tryd.underlying61 rfl rw_info
    simp only [Act.put, List.setIfInBounds_toArray, List.set_cons_zero, List.set_cons_succ]
    refine takeH (i := 3) (v := ?_) rfl (by kernel_rfl) (by kernel_rfl) (by kernel_rfl) (fun _ _ _ h => h) (some 29) rfl (Or.inl ⟨by rfl, ?_⟩) (by assumption) ?_
    rotate_left 1
    · intro wz hSw
      go_simp
      try with_reducible rfl
    simp only [Act.put, List.setIfInBounds_toArray, List.set_cons_zero, List.set_cons_succ]
    refine takeH (i := 4) (v := ?_) rfl (by kernel_rfl) (by kernel_rfl) (by kernel_rfl) (fun _ _ _ h => h) (some 30) rfl (Or.inl ⟨by rfl, ?_⟩) (by assumption) ?_
    rotate_left 1
    · intro wz hSw
      have c2 : wz.cell? ⟨p, 2, none⟩ = some (.int .i64 t) := hSw.1.cell 2
      have d2 : wz.cell? ⟨g, 2, none⟩ = some (.int .i64 (rwI 6).s) := hSw.2.cell 2
      go_simp
      try with_reducible rfl
    simp only [Act.put, List.setIfInBounds_toArray, List.set_cons_zero, List.set_cons_succ]
    refine wpAnyH_ready (rs := [5]) (by kernel_rfl) (by simp) ?_
    refine AllReadyH.cons rfl (fun KK hKK => ?_) AllReadyH.nil
    refine step_call2 (by rfl) 25 (.tmp 28) (.tmp 30) _ (by rfl) _ _ (by rfl) (by rfl) (fun _ _ => rfl) _ (sense_any (rwI 6) t x0) (some 31) rfl ?_
    rintro e x1 ⟨rfl, hb⟩
    refine ⟨_, rfl, ?_⟩
    replace HB := Lib.hid (HB.out.trans (hb.mono HB.out.size)); replace HO := Lib.hid (HO.out.below hb HO.out.lt); replace HG := Lib.hid (HG.out.below hb HG.out.lt); replace HZ := Lib.hid (HZ.out.below hb HZ.out.lt); clear hb
    refine hKK.out _ _ ⟨HO.out, HG.out⟩ (fun hHeld => ?_)
    clear hKK KK
    simp only [Act.put, List.setIfInBounds_toArray, List.set_cons_zero, List.set_cons_succ]
    refine takeH (i := 6) (v := ?_) rfl (by kernel_rfl) (by kernel_rfl) (by kernel_rfl) (fun _ _ _ h => h) (some 2) rfl (Or.inl ⟨by rfl, ?_⟩) (by assumption) ?_
    rotate_left 1
    · intro wz hSw
      go_simp
      try with_reducible rfl
    simp only [Act.put, List.setIfInBounds_toArray, List.set_cons_zero, List.set_cons_succ]
    refine wpAnyH_ready (rs := [7]) (by kernel_rfl) (by simp) ?_
    refine AllReadyH.cons rfl (fun KK hKK => ?_) AllReadyH.nil
    refine step_store (by rfl) 23 (.tmp 3) (.tmp 31) rfl (p + 1) (snC (senR (rwI 6) t)) (by rfl) (by rfl) 23 (snC zN) HZ.out sn_info rfl (snC_one _) none rfl ?_
    intro x2 hz ho
    have HX := Lib.hid hz; have HO2 := Lib.hid (HO.out.only ho (by omega)); have HG2 := Lib.hid (HG.out.only ho (by have := HPG.out; omega))
    have HB2 := Lib.hid (below_only_one HB.out (by rw [← HP.out]; omega) ho); clear hz ho
    refine hKK.out _ _ ⟨HO2.out, HG2.out⟩ (fun hHeld => ?_)
    clear hKK KK
    simp only [Act.put]
    refine wpAnyH_done (by kernel_rfl) ?_ _
    go_wp2_with (fail)
    refine bodyPost_ret_by (results_of rfl _ _ (p + 1) (senR (rwI 6) t) rfl HX.out) rfl ?_
    exact ⟨by rw [HV.out]; rfl, HB2.out⟩
set_option maxRecDepth 100000 in
set_option maxHeartbeats 4000000 in
theorem code_any (n : Int) (x : Sn) (w : World) (ht : RT w) : Calls Tryd.prog 15 #[.int .i64 n, snV x] w fun e w' => e = .returned (.tuple #[.int .i64 (okC (codX n x)).c, .int .i64 (okC (codX n x)).t, .int .i64 (okC (codX n x)).w, .bool (codX n x).isSome]) ∧ Below w.heap.size w w' := by
  have HT := Lib.hid ht
  have HX0 := Lib.hid (Blk.new w 23 (snC x))
  have HB0 := Lib.hid ((Below.refl w.heap.size w).alloc (Nat.le_refl _) (.cells (snC x) 23))
  have HF := Lib.hid (fun v (hv : RT v) => find_any 27 (rpqV n x) (pB n x) v hv (fun _ _ => rfl) (fun r v => pIsOf_any n x r v))
  cases hf : rwT.find? (pB n x) with
  | some ro =>
    have QF := Lib.hid (show fiV (rwT.find? (pB n x)) = .tuple #[rwV ro, .bool true] by rw [hf]; rfl)
    cases hp : (ro.c == 3) with
    | true =>
      have QP := Lib.hid hp
      have HV := Lib.hid (show codX n x = some ⟨ro.c, x.t, ro.w⟩ by rw [cod_row n x ro hf]; unfold ocR; rw [if_pos (by simpa using hp)])
      clear hf ht hp
      go_enter Tryd.func15, Tryd.ntmps15
      go_upto_region 1 with (fail)
      change Code.wp _ _ _ _ (w.alloc (.cells (snC x) 23))
      generalize w.alloc (.cells (snC x) 23) = v0 at *
      obtain ⟨p, hp⟩ : ∃ p, p = w.heap.size := ⟨_, rfl⟩
      rw [← hp] at HX0 ⊢
      clear hp
      refine wp_region_lit ?_
      refine wpList_runs rfl (some 10) rfl (.int .i64 n) v0 (by rfl) ?_
      refine wpList_load_row rfl 23 (.tmp 3) rfl p rfl 23 (snC x) (0, 0) _ HX0.out Tryd.underlying23 rfl sn_info ?_
      simp only [Act.put, List.setIfInBounds_toArray, List.set_cons_zero, List.set_cons_succ]
      refine wpList_runs rfl (some 12) rfl (rpqV n x) v0 (by go_simp) ?_
      refine wpList_runs rfl (some 13) rfl (.func (.func 27) #[rpqV n x] #[]) v0 (by go_simp) ?_
      simp only [Act.put, List.setIfInBounds_toArray, List.set_cons_zero, List.set_cons_succ]
      refine wpList_calls rfl (some 14) rfl 23 #[.func (.func 27) #[rpqV n x] #[]] (by go_simp) _ (HF.out v0 (HT.out.below HB0.out)) ?_
      rintro e v1 ⟨rfl, hb⟩
      refine ⟨_, rfl, ?_⟩
      have HB1 := Lib.hid (HB0.out.trans (hb.mono HB0.out.size)); have HX1 := Lib.hid (HX0.out.below hb HX0.out.lt); clear hb HB0 HX0
      rw [QF.out]
      simp only [Act.put, List.setIfInBounds_toArray, List.set_cons_zero, List.set_cons_succ]
      go_upto_region 2 with (fail)
      change Code.wp _ _ _ _ (v1.alloc (.cells (rwC ro) 61))
      have hal := (Below.refl v1.heap.size v1).alloc (Nat.le_refl _) (.cells (rwC ro) 61)
      have HB := Lib.hid (HB1.out.trans (hal.mono HB1.out.size)); have HX := Lib.hid (HX1.out.below hal HX1.out.lt); have HG := Lib.hid (Blk.new v1 61 (rwC ro))
      obtain ⟨g, hg⟩ : ∃ g, g = v1.heap.size := ⟨_, rfl⟩
      rw [← hg] at HG ⊢
      clear hal hg HB1 HX1
      generalize v1.alloc (.cells (rwC ro) 61) = v2 at *
      refine wp_region_lit ?_
      refine wpList_load_row rfl 61 (.tmp 8) rfl g rfl 61 (rwC ro) (0, 0) _ HG.out Tryd.underlying61 rfl rw_info ?_
      simp only [Act.put, List.setIfInBounds_toArray, List.set_cons_zero, List.set_cons_succ]
      go_wp2_with (fail)
      refine (placed_any ro v2).mono ?_; rintro e v3 ⟨rfl, hb⟩
      have HB3 := Lib.hid (HB.out.trans (hb.mono HB.out.size)); have HX3 := Lib.hid (HX.out.below hb HX.out.lt); have HG3 := Lib.hid (HG.out.below hb HG.out.lt); clear hb HB HX HG
      rw [QP.out]
      have c3 : v3.cell? ⟨p, 3, none⟩ = some (.int .i64 x.t) := HX3.out.cell 3
      have d0 : v3.cell? ⟨g, 0, none⟩ = some (.int .i64 ro.c) := HG3.out.cell 0
      have d1 : v3.cell? ⟨g, 1, none⟩ = some (.int .i64 ro.w) := HG3.out.cell 1
      go_upto_region 4 with (fail)
      go_quiet (fail)
      go_wp2_with (fail)
      refine bodyPost_ret_by (results_tmp4 rfl _ _ _) rfl ?_
      exact ⟨by rw [HV.out]; rfl, HB3.out.trans (belDrew _ _ _)⟩
    | false =>
      have QP := Lib.hid hp
      have HV := Lib.hid (show codX n x = some ⟨ro.c, 0, ro.w⟩ by rw [cod_row n x ro hf]; unfold ocR; rw [if_neg (by simpa using hp)])
      clear hf ht hp
      go_enter Tryd.func15, Tryd.ntmps15
      go_upto_region 1 with (fail)
      change Code.wp _ _ _ _ (w.alloc (.cells (snC x) 23))
      generalize w.alloc (.cells (snC x) 23) = v0 at *
      obtain ⟨p, hp⟩ : ∃ p, p = w.heap.size := ⟨_, rfl⟩
      rw [← hp] at HX0 ⊢
      clear hp
      refine wp_region_lit ?_
      refine wpList_runs rfl (some 10) rfl (.int .i64 n) v0 (by rfl) ?_
      refine wpList_load_row rfl 23 (.tmp 3) rfl p rfl 23 (snC x) (0, 0) _ HX0.out Tryd.underlying23 rfl sn_info ?_
      simp only [Act.put, List.setIfInBounds_toArray, List.set_cons_zero, List.set_cons_succ]
      refine wpList_runs rfl (some 12) rfl (rpqV n x) v0 (by go_simp) ?_
      refine wpList_runs rfl (some 13) rfl (.func (.func 27) #[rpqV n x] #[]) v0 (by go_simp) ?_
      simp only [Act.put, List.setIfInBounds_toArray, List.set_cons_zero, List.set_cons_succ]
      refine wpList_calls rfl (some 14) rfl 23 #[.func (.func 27) #[rpqV n x] #[]] (by go_simp) _ (HF.out v0 (HT.out.below HB0.out)) ?_
      rintro e v1 ⟨rfl, hb⟩
      refine ⟨_, rfl, ?_⟩
      have HB1 := Lib.hid (HB0.out.trans (hb.mono HB0.out.size)); have HX1 := Lib.hid (HX0.out.below hb HX0.out.lt); clear hb HB0 HX0
      rw [QF.out]
      simp only [Act.put, List.setIfInBounds_toArray, List.set_cons_zero, List.set_cons_succ]
      go_upto_region 2 with (fail)
      change Code.wp _ _ _ _ (v1.alloc (.cells (rwC ro) 61))
      have hal := (Below.refl v1.heap.size v1).alloc (Nat.le_refl _) (.cells (rwC ro) 61)
      have HB := Lib.hid (HB1.out.trans (hal.mono HB1.out.size)); have HX := Lib.hid (HX1.out.below hal HX1.out.lt); have HG := Lib.hid (Blk.new v1 61 (rwC ro))
      obtain ⟨g, hg⟩ : ∃ g, g = v1.heap.size := ⟨_, rfl⟩
      rw [← hg] at HG ⊢
      clear hal hg HB1 HX1
      generalize v1.alloc (.cells (rwC ro) 61) = v2 at *
      refine wp_region_lit ?_
      refine wpList_load_row rfl 61 (.tmp 8) rfl g rfl 61 (rwC ro) (0, 0) _ HG.out Tryd.underlying61 rfl rw_info ?_
      simp only [Act.put, List.setIfInBounds_toArray, List.set_cons_zero, List.set_cons_succ]
      go_wp2_with (fail)
      refine (placed_any ro v2).mono ?_; rintro e v3 ⟨rfl, hb⟩
      have HB3 := Lib.hid (HB.out.trans (hb.mono HB.out.size)); have HX3 := Lib.hid (HX.out.below hb HX.out.lt); have HG3 := Lib.hid (HG.out.below hb HG.out.lt); clear hb HB HX HG
      rw [QP.out]
      have c3 : v3.cell? ⟨p, 3, none⟩ = some (.int .i64 x.t) := HX3.out.cell 3
      have d0 : v3.cell? ⟨g, 0, none⟩ = some (.int .i64 ro.c) := HG3.out.cell 0
      have d1 : v3.cell? ⟨g, 1, none⟩ = some (.int .i64 ro.w) := HG3.out.cell 1
      go_upto_region 4 with (fail)
      go_quiet (fail)
      go_wp2_with (fail)
      refine bodyPost_ret_by (results_tmp4 rfl _ _ _) rfl ?_
      exact ⟨by rw [HV.out]; rfl, HB3.out.trans (belDrew _ _ _)⟩
  | none =>
    have QF := Lib.hid (show fiV (rwT.find? (pB n x)) = .tuple #[rwV zRw, .bool false] by rw [hf]; rfl)
    have QP := Lib.hid (show (zRw.c == 3) = false from rfl)
    have HV := Lib.hid (cod_none n x hf)
    clear hf ht
    go_enter Tryd.func15, Tryd.ntmps15
    go_upto_region 1 with (fail)
    change Code.wp _ _ _ _ (w.alloc (.cells (snC x) 23))
    generalize w.alloc (.cells (snC x) 23) = v0 at *
    obtain ⟨p, hp⟩ : ∃ p, p = w.heap.size := ⟨_, rfl⟩
    rw [← hp] at HX0 ⊢
    clear hp
    refine wp_region_lit ?_
    refine wpList_runs rfl (some 10) rfl (.int .i64 n) v0 (by rfl) ?_
    refine wpList_load_row rfl 23 (.tmp 3) rfl p rfl 23 (snC x) (0, 0) _ HX0.out Tryd.underlying23 rfl sn_info ?_
    simp only [Act.put, List.setIfInBounds_toArray, List.set_cons_zero, List.set_cons_succ]
    refine wpList_runs rfl (some 12) rfl (rpqV n x) v0 (by go_simp) ?_
    refine wpList_runs rfl (some 13) rfl (.func (.func 27) #[rpqV n x] #[]) v0 (by go_simp) ?_
    simp only [Act.put, List.setIfInBounds_toArray, List.set_cons_zero, List.set_cons_succ]
    refine wpList_calls rfl (some 14) rfl 23 #[.func (.func 27) #[rpqV n x] #[]] (by go_simp) _ (HF.out v0 (HT.out.below HB0.out)) ?_
    rintro e v1 ⟨rfl, hb⟩
    refine ⟨_, rfl, ?_⟩
    have HB1 := Lib.hid (HB0.out.trans (hb.mono HB0.out.size)); have HX1 := Lib.hid (HX0.out.below hb HX0.out.lt); clear hb HB0 HX0
    rw [QF.out]
    simp only [Act.put, List.setIfInBounds_toArray, List.set_cons_zero, List.set_cons_succ]
    go_upto_region 2 with (fail)
    change Code.wp _ _ _ _ (v1.alloc (.cells (rwC zRw) 61))
    have hal := (Below.refl v1.heap.size v1).alloc (Nat.le_refl _) (.cells (rwC zRw) 61)
    have HB := Lib.hid (HB1.out.trans (hal.mono HB1.out.size)); have HX := Lib.hid (HX1.out.below hal HX1.out.lt); have HG := Lib.hid (Blk.new v1 61 (rwC zRw))
    obtain ⟨g, hg⟩ : ∃ g, g = v1.heap.size := ⟨_, rfl⟩
    rw [← hg] at HG ⊢
    clear hal hg HB1 HX1
    generalize v1.alloc (.cells (rwC zRw) 61) = v2 at *
    refine wp_region_lit ?_
    refine wpList_load_row rfl 61 (.tmp 8) rfl g rfl 61 (rwC zRw) (0, 0) _ HG.out Tryd.underlying61 rfl rw_info ?_
    simp only [Act.put, List.setIfInBounds_toArray, List.set_cons_zero, List.set_cons_succ]
    go_wp2_with (fail)
    refine (placed_any zRw v2).mono ?_; rintro e v3 ⟨rfl, hb⟩
    have HB3 := Lib.hid (HB.out.trans (hb.mono HB.out.size)); have HX3 := Lib.hid (HX.out.below hb HX.out.lt); have HG3 := Lib.hid (HG.out.below hb HG.out.lt); clear hb HB HX HG
    rw [QP.out]
    have c3 : v3.cell? ⟨p, 3, none⟩ = some (.int .i64 x.t) := HX3.out.cell 3
    have d0 : v3.cell? ⟨g, 0, none⟩ = some (.int .i64 zRw.c) := HG3.out.cell 0
    have d1 : v3.cell? ⟨g, 1, none⟩ = some (.int .i64 zRw.w) := HG3.out.cell 1
    go_upto_region 4 with (fail)
    go_quiet (fail)
    go_wp2_with (fail)
    refine bodyPost_ret_by (results_tmp4 rfl _ _ _) rfl ?_
    exact ⟨by rw [HV.out]; rfl, HB3.out.trans (belDrew _ _ _)⟩
end Go.Proofs.YthcaeihpdlgcaaaDoor
