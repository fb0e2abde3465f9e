/- The status and the sense of every outcome, and the outcome of any: the statement. -/
import Derived.Test.YthcaeihpdlgcaaaDoorSnI
namespace Go.Proofs.YthcaeihpdlgcaaaDoor
open Go.RowKit
set_option maxRecDepth 100000 in
set_option maxHeartbeats 16000000 in
theorem senseOf_any {T : World → Prop} (P : Code16 T) (c t u : Int) (r : Rs) (hc : In64 c) (ht4 : In64 t) (hu : In64 u) (n : Int) (hn : In64 n) (x : Sn) (hx : Bn x) (w : World) (ht : T w) : Calls Tryd.prog 4 #[ouV c t u r, .int .i64 n, snV x] w fun e w' => e = .returned (.bool true) ∧ Below w.heap.size w w' := by
  have HT := Lib.hid ht
  clear ht
  have HW := Lib.hid (fun v (hv : T v) => sense_wakes P v hv)
  have HOF := Lib.hid (fun v hv => P.off c t u v hv hc ht4 hu)
  have HRO := Lib.hid (fun v => refOf_any c t u r v)
  have HCO := Lib.hid (fun v hv => P.code n x v hv hn hx)
  have HRC := Lib.hid (fun v => refCode_any n x v)
  rw [codV_eq] at HRC
  generalize (codX n x).isSome = ok at *
  generalize okC (codX n x) = o at *
  generalize (ofX c t u).1 = st at *
  generalize (ofX c t u).2 = y at *
  have HSE := Lib.hid (fun v => senses_any y y v)
  rw [decide_eq_true (rfl : y = y)] at HSE
  have q1 : (st == st) = true := by simp
  have q2 : (o.c == o.c) = true := by simp
  have q3 : (o.t == o.t) = true := by simp
  have q4 : (o.w == o.w) = true := by simp
  have q5 : (ok == ok) = true := by simp
  clear hc ht4 hu hn hx
  have HB0 := Lib.hid (((Below.refl w.heap.size w).alloc (Nat.le_refl _) (.cells (ouC c t u r) 41)).alloc (by simp) (.cells (snC x) 23))
  have HO0 := Lib.hid ((Blk.new w 41 (ouC c t u r)).alloc (.cells (snC x) 23))
  have HX0 := Lib.hid (show Blk ((w.alloc (.cells (ouC c t u r) 41)).alloc (.cells (snC x) 23)) (w.heap.size + 1) 23 (snC x) by
    have := Blk.new (w.alloc (.cells (ouC c t u r) 41)) 23 (snC x)
    rwa [show (w.alloc (.cells (ouC c t u r) 41)).heap.size = w.heap.size + 1 by simp] at this)
  go_enter Tryd.func4, Tryd.ntmps4
  go_upto_region 1 with (fail)
  change Code.wp _ _ _ _ ((w.alloc (.cells (ouC c t u r) 41)).alloc (.cells (snC x) 23))
  have hsz : (w.alloc (.cells (ouC c t u r) 41)).heap.size = w.heap.size + 1 := by simp
  generalize (w.alloc (.cells (ouC c t u r) 41)).alloc (.cells (snC x) 23) = v0 at *
  try rw [hsz]
  clear hsz
  obtain ⟨p, hp⟩ : ∃ p, p = w.heap.size := ⟨_, rfl⟩
  rw [← hp] at HO0 HX0 ⊢
  clear hp
  have HB := HB0; have HO := HO0; have HX := HX0
  clear HB0 HO0 HX0
  have c0 : v0.cell? ⟨p, 0, none⟩ = some (.int .i64 c) := HO.out.cell 0
  have c2 : v0.cell? ⟨p, 2, none⟩ = some (.int .i64 t) := HO.out.cell 2
  have c3 : v0.cell? ⟨p, 3, none⟩ = some (.int .i64 u) := HO.out.cell 3
  go_wp2_with (fail)
  refine (HOF.out v0 (tt P HT HB)).mono ?_; rintro e v1 ⟨rfl, hb⟩
  replace HB := Lib.hid (HB.out.trans (hb.mono HB.out.size)); replace HO := Lib.hid (HO.out.below hb HO.out.lt); replace HX := Lib.hid (HX.out.below hb HX.out.lt); clear hb
  clear c0 c2 c3
  go_upto_region 2 with (fail)
  change Code.wp _ _ _ _ (v1.alloc (.cells (snC y) 23))
  have hb := (Below.refl v1.heap.size v1).alloc (Nat.le_refl _) (.cells (snC y) 23)
  replace HB := Lib.hid (HB.out.trans (hb.mono HB.out.size)); replace HO := Lib.hid (HO.out.below hb HO.out.lt); replace HX := Lib.hid (HX.out.below hb HX.out.lt); 
  have HY := Lib.hid (Blk.new v1 23 (snC y))
  obtain ⟨g, hg⟩ : ∃ g, g = v1.heap.size := ⟨_, rfl⟩
  rw [← hg] at HY ⊢
  clear hb hg
  generalize v1.alloc (.cells (snC y) 23) = v2 at *
  refine wp_region_lit ?_
  refine wpList_load_row rfl 41 (.tmp 3) rfl p rfl 41 (ouC c t u r) (0, 0) _ HO.out Tryd.underlying41 rfl ou_info ?_
  go_wp2_with (fail)
  refine (HRO.out v2).mono ?_; rintro e v3 ⟨rfl, hb⟩
  replace HB := Lib.hid (HB.out.trans (hb.mono HB.out.size)); replace HX := Lib.hid (HX.out.below hb HX.out.lt); replace HY := Lib.hid (HY.out.below hb HY.out.lt); clear hb
  clear HO
  go_upto_region 3 with (fail)
  change Code.wp _ _ _ _ (v3.alloc (.cells (rpC st y) 45))
  have hb := (Below.refl v3.heap.size v3).alloc (Nat.le_refl _) (.cells (rpC st y) 45)
  replace HB := Lib.hid (HB.out.trans (hb.mono HB.out.size)); replace HX := Lib.hid (HX.out.below hb HX.out.lt); replace HY := Lib.hid (HY.out.below hb HY.out.lt); 
  have HR := Lib.hid (Blk.new v3 45 (rpC st y))
  obtain ⟨q, hg⟩ : ∃ g, g = v3.heap.size := ⟨_, rfl⟩
  rw [← hg] at HR ⊢
  clear hb hg
  generalize v3.alloc (.cells (rpC st y) 45) = v4 at *
  refine wp_region_lit ?_
  refine wpList_runs rfl (some 30) rfl (.int .i64 n) v4 (by rfl) ?_
  refine wpList_load_row rfl 23 (.tmp 5) rfl (p + 1) rfl 23 (snC x) (0, 0) _ HX.out Tryd.underlying23 rfl sn_info ?_
  go_wp2_with (fail)
  refine (HCO.out v4 (tt P HT HB)).mono ?_; rintro e v5 ⟨rfl, hb⟩
  replace HB := Lib.hid (HB.out.trans (hb.mono HB.out.size)); replace HX := Lib.hid (HX.out.below hb HX.out.lt); replace HY := Lib.hid (HY.out.below hb HY.out.lt); replace HR := Lib.hid (HR.out.below hb HR.out.lt); clear hb
  go_upto_region 4 with (fail)
  refine wp_region_lit ?_
  refine wpList_runs rfl (some 38) rfl (.int .i64 n) v5 (by rfl) ?_
  refine wpList_load_row rfl 23 (.tmp 5) rfl (p + 1) rfl 23 (snC x) (0, 0) _ HX.out Tryd.underlying23 rfl sn_info ?_
  refine wpList_calls rfl (some 40) rfl 16 #[.int .i64 n, snV x] (by go_simp) _ (HRC.out v5) ?_
  rintro e v6 ⟨rfl, hb⟩
  refine ⟨_, rfl, ?_⟩
  replace HB := Lib.hid (HB.out.trans (hb.mono HB.out.size)); replace HY := Lib.hid (HY.out.below hb HY.out.lt); replace HR := Lib.hid (HR.out.below hb HR.out.lt); 
  clear hb HX
  have HB6 := HB; have HY6 := HY; have HR6 := HR
  simp only [Act.put, List.setIfInBounds_toArray, List.set_cons_zero, List.set_cons_succ]
  refine wpList_runs rfl (some 37) rfl (.tuple #[ouV o.c o.t o.w zR, .bool ok]) v6 (by rfl) ?_
  simp only [Act.put, List.setIfInBounds_toArray, List.set_cons_zero, List.set_cons_succ]
  refine wpList_runs rfl (some 41) rfl (ouV o.c o.t o.w zR) v6 (by rfl) ?_
  simp only [Act.put, List.setIfInBounds_toArray, List.set_cons_zero, List.set_cons_succ]
  refine wpList_runs rfl (some 42) rfl (.bool ok) v6 (by rfl) ?_
  simp only [Act.put, List.setIfInBounds_toArray, List.set_cons_zero, List.set_cons_succ]
  refine wpList_runs rfl (some 14) rfl (.pointer (some ⟨v6.heap.size, 0, none⟩)) (v6.alloc (.cells (ouC 0 0 0 zR) 41)) (by kernel_rfl) ?_
  have hb := (Below.refl v6.heap.size v6).alloc (Nat.le_refl _) (.cells (ouC 0 0 0 zR) 41)
  replace HB := Lib.hid (HB.out.trans (hb.mono HB.out.size)); replace HY := Lib.hid (HY.out.below hb HY.out.lt); replace HR := Lib.hid (HR.out.below hb HR.out.lt); 
  have HK0 := Lib.hid (Blk.new v6 41 (ouC 0 0 0 zR))
  have HLT := Lib.hid (show w.heap.size ≤ v6.heap.size ∧ g < v6.heap.size ∧ q < v6.heap.size from ⟨HB6.out.size, HY6.out.lt, HR6.out.lt⟩)
  obtain ⟨k, hk⟩ : ∃ k, k = v6.heap.size := ⟨_, rfl⟩
  rw [← hk] at HK0 HLT ⊢
  clear hb hk HB6 HY6 HR6
  generalize v6.alloc (.cells (ouC 0 0 0 zR) 41) = v6a at *
  simp only [Act.put, List.setIfInBounds_toArray, List.set_cons_zero, List.set_cons_succ]
  refine wpList_store_row rfl 41 (.tmp 14) (.tmp 41) rfl k (ouC o.c o.t o.w zR) rfl rfl 41 (ouC 0 0 0 zR) HK0.out ou_info rfl (ouC_one _ _ _) ?_
  have HK := Lib.hid (setRow_blk (cs' := ouC o.c o.t o.w zR) HK0.out)
  have hon := setRow_only v6a k (ouC o.c o.t o.w zR)
  replace HY := Lib.hid (HY.out.only hon (by have := HLT.out; omega)); replace HR := Lib.hid (HR.out.only hon (by have := HLT.out; omega))
  replace HB := Lib.hid (below_setRow HB.out HLT.out.1 (ouC o.c o.t o.w zR))
  clear hon HK0 HLT
  generalize v6a.setRow k (ouC o.c o.t o.w zR) = v7 at *
  go_upto_region 5 with (fail)
  have e0 : v7.cell? ⟨q, 0, none⟩ = some (.int .i64 st) := HR.out.cell 0
  have d0 : v7.cell? ⟨q, 1, none⟩ = some (.int .i64 y.k) := HR.out.cell 1
  have d1 : v7.cell? ⟨q, 2, none⟩ = some (.int .i64 y.a) := HR.out.cell 2
  have d2 : v7.cell? ⟨q, 3, none⟩ = some (.int .i64 y.q) := HR.out.cell 3
  have d3 : v7.cell? ⟨q, 4, none⟩ = some (.int .i64 y.t) := HR.out.cell 4
  have b0 : v7.cell? ⟨g, 0, none⟩ = some (.int .i64 y.k) := HY.out.cell 0
  have b1 : v7.cell? ⟨g, 1, none⟩ = some (.int .i64 y.a) := HY.out.cell 1
  have b2 : v7.cell? ⟨g, 2, none⟩ = some (.int .i64 y.q) := HY.out.cell 2
  have b3 : v7.cell? ⟨g, 3, none⟩ = some (.int .i64 y.t) := HY.out.cell 3
  go_wp2_with (fail)
  refine (HSE.out v7).mono ?_; rintro e v8 ⟨rfl, hb⟩
  replace HB := Lib.hid (HB.out.trans (hb.mono HB.out.size)); replace HK := Lib.hid (HK.out.below hb HK.out.lt); clear hb
  clear e0 d0 d1 d2 d3 b0 b1 b2 b3
  have k0 : v8.cell? ⟨k, 0, none⟩ = some (.int .i64 o.c) := HK.out.cell 0
  have k2 : v8.cell? ⟨k, 2, none⟩ = some (.int .i64 o.t) := HK.out.cell 2
  have k3 : v8.cell? ⟨k, 3, none⟩ = some (.int .i64 o.w) := HK.out.cell 3
  go_wp2_with (fail)
  refine (HW.out v8 (tt P HT HB)).mono ?_; rintro e v9 ⟨rfl, hb⟩
  replace HB := Lib.hid (HB.out.trans (hb.mono HB.out.size)); clear hb
  go_wp2_with (fail)
  go_ret
  exact ⟨rfl, HB.out⟩
end Go.Proofs.YthcaeihpdlgcaaaDoor
