/- The keys and the holder that are told are the table's. -/
import Derived.Test.YtdggipgieanpeaaDoorPrK
import Derived.Deep.DeepCutAuto
namespace Go.Proofs.YtdggipgieanpeaaDoor
open Go.RowKit
set_option maxRecDepth 100000 in
set_option maxHeartbeats 16000000 in
theorem proutReads_any {T : World → Prop} (P : Code18 T) (Q : Code18r T) (A : Option Addr) (c : Nat) (l : List Rk) (ty : Int) (ho : ByteArray) (ge : Nat) (ap : Bool) (hty : In64 ty) (hge : ge < 4294967296) (w : World) (hl : Rks w A l) (ht : T w) :
    Calls Tryd.prog 3 #[tbV A l.length c ty ho ge ap] w fun e w' => e = .returned (.bool true) ∧ Below w.heap.size w w' := by
  obtain ⟨n, hn⟩ : ∃ n, n = l.length := ⟨_, rfl⟩
  rw [← hn]
  have HN := Lib.hid hn
  have HT := Lib.hid ht; have HTY := Lib.hid hty; have HGE := Lib.hid hge
  have HX := Lib.hid (Blk.new w 27 (tbC A n c ty ho ge ap))
  have HB := Lib.hid ((Below.refl w.heap.size w).alloc (Nat.le_refl _) (.cells (tbC A n c ty ho ge ap) 27))
  have HL := Lib.hid (hl.below HB.out)
  have HWK := Lib.hid (fun v tv => prout_wakes P v tv)
  have HLG := Lib.hid (fun v hv => largeT_any A n c ty ho ge ap l HN.out v hv)
  clear hn ht hty hge hl
  go_enter Tryd.func3, Tryd.ntmps3
  go_upto_region 1 with (fail)
  change Code.wp _ _ _ _ (w.alloc (.cells (tbC A n c ty ho ge ap) 27))
  generalize w.alloc (.cells (tbC A n c ty ho ge ap) 27) = v0 at *
  obtain ⟨p, hp⟩ : ∃ p, p = w.heap.size := ⟨_, rfl⟩
  rw [← hp] at HX ⊢
  clear hp
  refine wp_region_lit ?_
  refine wpList_load_row rfl 27 (.tmp 1) rfl p rfl 27 (tbC A n c ty ho ge ap) (0, 0) _ HX.out Tryd.underlying27 rfl tb_info ?_
  simp only [Act.put, List.setIfInBounds_toArray, List.set_cons_zero, List.set_cons_succ]
  go_wp2_with (fail)
  refine (HLG.out v0 HL.out).mono ?_; rintro e v1 ⟨r, rfl, hr, hb⟩
  replace HB := Lib.hid (HB.out.trans (hb.mono HB.out.size)); replace HX := Lib.hid (HX.out.below hb HX.out.lt); replace HL := Lib.hid (HL.out.below hb)
  clear hb
  have HR := Lib.hid hr; clear hr
  cases r with
  | true =>
    go_wp2_with (fail)
    refine (HWK.out v1 (tt18 P HT HB)).mono ?_; rintro e vz ⟨rfl, hb⟩
    replace HB := Lib.hid (HB.out.trans (hb.mono HB.out.size)); clear hb
    go_wp2_with (fail)
    go_ret
    exact ⟨rfl, HB.out⟩
  | false =>
    have c0 : v1.cell? ⟨p, 0, none⟩ = some (.slice A n c) := HX.out.cell 0
    by_cases h16 : n ≤ 16
    · have q16 : ¬ (16 : Int) < (n : Int) := by omega
      obtain ⟨r1, r2⟩ := HR.out rfl
      have hlen : l.length ≤ 16 := by have := HN.out; omega
      have hwf : ∀ x ∈ l, x.Wf := fun x hx => rks_wf HL.out hx
      obtain ⟨ks1, ks2, ks3, ks4⟩ := keys_nums (g := ge) HGE.out hlen hwf
      rw [← HN.out] at ks1 ks3
      have HHO : Hid (∀ A1 c1 v, T v → Rks v A1 l → Calls Tryd.prog 7 #[.int .u32 (ge : Int), .agg #[.int .i64 ty, .string ho], .slice A1 n c1] v fun e w' => e = .returned (.string (holdS ge ty (keyO ho l))) ∧ Below v.heap.size v w') := Lib.hid (fun A1 c1 v tv hv => by
        have h := Q.holder ge ty ho A1 c1 l v tv HGE.out HTY.out r2 hv (by omega)
        rwa [← HN.out] at h)
      have HKS : Hid (∀ A1 c1 v, T v → Rks v A1 l → n ≤ c1 → Calls Tryd.prog 6 #[.int .u32 (ge : Int), .slice A1 n c1] v fun e w' => e = .returned (.string (keysS ge l)) ∧ Below v.heap.size v w') := Lib.hid (fun A1 c1 v tv hv hc => by
        have h := P.keys ge A1 c1 l v tv HGE.out hv (by have := HN.out; omega) (by omega)
        rwa [← HN.out] at h)
      have HM := Lib.hid (show l.length ≤ 100000 by omega)
      have HHD := Lib.hid (show (1 ≤ ty ∧ ty ≤ 6 → (holdS ge ty (keyO ho l)).size = 24 ∧ big (holdS ge ty (keyO ho l)) 0 4 = ge ∧ big (holdS ge ty (keyO ho l)) 4 4 = 16 ∧ byt (holdS ge ty (keyO ho l)) 21 = nuI ty) ∧ (¬ (1 ≤ ty ∧ ty ≤ 6) → (holdS ge ty (keyO ho l)).size = 8 ∧ big (holdS ge ty (keyO ho l)) 0 4 = ge ∧ big (holdS ge ty (keyO ho l)) 4 4 = 0) from ⟨fun h => hold_yes HGE.out h _, fun h => hold_no HGE.out h _⟩)
      generalize holdS ge ty (keyO ho l) = hs at *
      have hb0 : big hs 0 4 = ge ∧ 8 ≤ hs.size ∧ hs.size ≤ 24 := by
        by_cases h : 1 ≤ ty ∧ ty ≤ 6
        · have := HHD.out.1 h; omega
        · have := HHD.out.2 h; omega
      generalize hks : keysS ge l = ks at *
      have HQ0 : Hid (∀ v, Calls Tryd.prog 8 #[.string ks, .int .i64 0, .int .i64 4] v fun e w' => e = .returned (.int .u64 (ge : Int)) ∧ w' = v) := Lib.hid (fun v => by
        have h := num_any ks 0 4 v (by omega) (by decide) (by omega)
        rwa [ks2] at h)
      have HQ4 : Hid (∀ v, Calls Tryd.prog 8 #[.string ks, .int .i64 4, .int .i64 4] v fun e w' => e = .returned (.int .u64 ((8 * n : Nat) : Int)) ∧ w' = v) := Lib.hid (fun v => by
        have h := num_any ks 4 4 v (by omega) (by decide) (by omega)
        rwa [ks3] at h)
      have HG0 : Hid (∀ v, Calls Tryd.prog 8 #[.string hs, .int .i64 0, .int .i64 4] v fun e w' => e = .returned (.int .u64 (ge : Int)) ∧ w' = v) := Lib.hid (fun v => by
        have h := num_any hs 0 4 v (by omega) (by decide) (by omega)
        rwa [hb0.1] at h)
      have HKQ : Hid (∀ (k : Nat) (x : Rk), l[k]? = some x → ∀ v, Calls Tryd.prog 8 #[.string ks, .int .i64 ((8 + 8 * k : Nat) : Int), .int .i64 8] v fun e w' => e = .returned (.int .u64 (x.k : Int)) ∧ w' = v) := Lib.hid (fun k x hx v => by
        have hk := (List.getElem?_eq_some_iff.1 hx).1
        have h := num_any ks (8 + 8 * k) 8 v (by omega) (by decide) (by have := HN.out; omega)
        rwa [ks4 k x hx] at h)
      obtain ⟨N8, hN8⟩ : ∃ N8 : Nat, N8 = 8 * n := ⟨_, rfl⟩
      obtain ⟨M, hM⟩ : ∃ M : Nat, M = 8 + N8 := ⟨_, rfl⟩
      rw [← hN8] at HQ4
      have e1 : IntKind.i64.wrap (8 * (n : Int)) = (N8 : Int) := by rw [IntWalk.i64_in _ (by omega)]; omega
      have e2 : IntKind.i64.wrap (8 + (N8 : Int)) = (M : Int) := by rw [IntWalk.i64_in _ (by omega)]; omega
      have e3 : (ks.size : Int) = (M : Int) := by omega
      have e4 : ((M : Int) != (M : Int)) = false := by simp
      have e5 : IntKind.u64.wrap (ge : Int) = (ge : Int) := IntWalk.u64_in _ (by have := HGE.out; omega)
      have e6 : ((ge : Int) != (ge : Int)) = false := by simp
      have e7 : IntKind.u64.wrap (N8 : Int) = (N8 : Int) := IntWalk.u64_in _ (by omega)
      have e8 : ((N8 : Int) != (N8 : Int)) = false := by simp
      have e9 : ¬ (hs.size : Int) < 8 := by omega
      have e10 : decide ((hs.size : Int) < 8) = false := decide_eq_false e9
      have e11 : (8 : Int) ≤ (hs.size : Int) := by omega
      have HHZ := Lib.hid (show hs.size ≤ 24 from hb0.2.2)
      have HN16 := Lib.hid h16
      clear ks1 ks2 ks3 ks4 hks hN8 hM hb0 r1 r2 hlen hwf h16 HR
      go_upto_region 3 with (fail)
      refine wp_region_held_drew (S := (fun v => Blk v p 27 (tbC A n c ty ho ge ap))) (by kernel_rfl) ?_ (fun hHeld => ?_)
      · exact HX.out.drew
      replace HB := Lib.hid HB.out.drew; replace HX := Lib.hid HX.out.drew; replace HL := Lib.hid (HL.out.below (Below.refl _ _).drew)
      generalize World.drew _ = x0 at *
      refine takeH (i := 0) (v := ?_) rfl (by kernel_rfl) (by kernel_rfl) (by kernel_rfl) (fun _ _ _ h => h) (some 16) rfl (Or.inl ⟨by rfl, ?_⟩) (by assumption) ?_
      rotate_left 1
      · intro wz hSw
        go_simp
        try with_reducible rfl
      simp only [Act.put, List.setIfInBounds_toArray, List.set_cons_zero, List.set_cons_succ]
      refine takeH (i := 1) (v := ?_) rfl (by kernel_rfl) (by kernel_rfl) (by kernel_rfl) (fun _ _ _ h => h) (some 17) rfl (Or.inl ⟨by rfl, ?_⟩) (by assumption) ?_
      rotate_left 1
      · intro wz hSw
        have c0 : wz.cell? ⟨p, 0, none⟩ = some (.slice A n c) := hSw.cell 0
        have c1 : wz.cell? ⟨p, 1, none⟩ = some (.int .i64 ty) := hSw.cell 1
        have c3 : wz.cell? ⟨p, 3, none⟩ = some (.int .u32 (ge : Int)) := hSw.cell 3
        go_simp
        try with_reducible rfl
      simp only [Act.put, List.setIfInBounds_toArray, List.set_cons_zero, List.set_cons_succ]
      refine takeH (i := 3) (v := ?_) rfl (by kernel_rfl) (by kernel_rfl) (by kernel_rfl) (fun _ _ _ h => h) (some 19) rfl (Or.inl ⟨by rfl, ?_⟩) (by assumption) ?_
      rotate_left 1
      · intro wz hSw
        go_simp
        try with_reducible rfl
      simp only [Act.put, List.setIfInBounds_toArray, List.set_cons_zero, List.set_cons_succ]
      refine takeH (i := 4) (v := ?_) rfl (by kernel_rfl) (by kernel_rfl) (by kernel_rfl) (fun _ _ _ h => h) (some 20) rfl (Or.inl ⟨by rfl, ?_⟩) (by assumption) ?_
      rotate_left 1
      · intro wz hSw
        have c0 : wz.cell? ⟨p, 0, none⟩ = some (.slice A n c) := hSw.cell 0
        have c1 : wz.cell? ⟨p, 1, none⟩ = some (.int .i64 ty) := hSw.cell 1
        have c3 : wz.cell? ⟨p, 3, none⟩ = some (.int .u32 (ge : Int)) := hSw.cell 3
        go_simp
        try with_reducible rfl
      simp only [Act.put, List.setIfInBounds_toArray, List.set_cons_zero, List.set_cons_succ]
      refine wpAnyH_ready (rs := [2]) (by kernel_rfl) (by simp) ?_
      refine AllReadyH.cons rfl (fun KK hKK => ?_) AllReadyH.nil
      refine step_alloc (by rfl) (.slice (some ⟨x0.heap.size, 0, none⟩) 0 0) (x0.alloc (.cells #[] 36)) (by go_simp) (some 18) rfl ?_
      refine hKK.out _ _ (HX.out.alloc _) (fun hHeld => ?_)
      clear hKK KK
      simp only [Act.put, List.setIfInBounds_toArray, List.set_cons_zero, List.set_cons_succ]
      have hal := (Below.refl x0.heap.size x0).alloc (Nat.le_refl _) (.cells #[] 36)
      obtain ⟨A1, c1, x2, hap, hr1, hgr, _, hcp⟩ := run_append_rks (x0.alloc (.cells #[] 36)) 22 x0.heap.size (.slice (some ⟨x0.heap.size, 0, none⟩) 0 0) (own_noneK x0) A c l (HL.out.below hal) HM.out (by simp)
      have HCP := Lib.hid (show n ≤ c1 by have := HN.out; omega)
      clear hcp
      rw [← HN.out] at hap
      have hb : Below x0.heap.size x0 x2 := hal.grown hgr (by simp) (fun k hk => Nat.le_of_eq (Option.some.inj hk))
      refine wpAnyH_ready (rs := [5]) (by kernel_rfl) (by simp) ?_
      refine AllReadyH.cons rfl (fun KK hKK => ?_) AllReadyH.nil
      refine step_append (by rfl) (.tmp 18) (.tmp 20) 22 22 (by rfl) (.slice (some ⟨x0.heap.size, 0, none⟩) 0 0) (.slice A n c) (.slice A1 n c1) (by rfl) (by rfl) 22 rfl x2 hap (some 21) rfl ?_
      replace HB := Lib.hid (HB.out.trans (hb.mono HB.out.size)); replace HX := Lib.hid (HX.out.below hb HX.out.lt); replace HL := Lib.hid (HL.out.below hb)
      have HR1 := Lib.hid hr1
      clear hal hap hgr hr1 hb
      refine hKK.out _ _ HX.out (fun hHeld => ?_)
      clear hKK KK
      simp only [Act.put, List.setIfInBounds_toArray, List.set_cons_zero, List.set_cons_succ]
      refine wpAnyH_ready (rs := [6]) (by kernel_rfl) (by simp) ?_
      refine AllReadyH.cons rfl (fun KK hKK => ?_) AllReadyH.nil
      refine step_enter (by rfl) 6 _ (by go_simp) _ (HKS.out A1 c1 x2 (tt18 P HT HB) HR1.out HCP.out) (some 22) rfl ?_
      rintro e x3 ⟨rfl, hb⟩
      refine ⟨_, rfl, ?_⟩
      replace HB := Lib.hid (HB.out.trans (hb.mono HB.out.size)); replace HX := Lib.hid (HX.out.below hb HX.out.lt); replace HL := Lib.hid (HL.out.below hb)
      clear hb HR1
      refine hKK.out _ _ HX.out (fun hHeld => ?_)
      clear hKK KK
      simp only [Act.put, List.setIfInBounds_toArray, List.set_cons_zero, List.set_cons_succ]
      refine takeH (i := 7) (v := ?_) rfl (by kernel_rfl) (by kernel_rfl) (by kernel_rfl) (fun _ _ _ h => h) (some 3) rfl (Or.inl ⟨by rfl, ?_⟩) (by assumption) ?_
      rotate_left 1
      · intro wz hSw
        go_simp
        try with_reducible rfl
      simp only [Act.put, List.setIfInBounds_toArray, List.set_cons_zero, List.set_cons_succ]
      refine wpAnyH_done (by kernel_rfl) ?_ _
      clear c0
      go_upto_region 4 with (fail)
      refine wp_region_held_drew (S := (fun v => Blk v p 27 (tbC A n c ty ho ge ap))) (by kernel_rfl) ?_ (fun hHeld => ?_)
      · exact HX.out.drew
      replace HB := Lib.hid HB.out.drew; replace HX := Lib.hid HX.out.drew; replace HL := Lib.hid (HL.out.below (Below.refl _ _).drew)
      generalize World.drew _ = x4 at *
      refine takeH (i := 0) (v := ?_) rfl (by kernel_rfl) (by kernel_rfl) (by kernel_rfl) (fun _ _ _ h => h) (some 23) rfl (Or.inl ⟨by rfl, ?_⟩) (by assumption) ?_
      rotate_left 1
      · intro wz hSw
        go_simp
        try with_reducible rfl
      simp only [Act.put, List.setIfInBounds_toArray, List.set_cons_zero, List.set_cons_succ]
      refine takeH (i := 1) (v := ?_) rfl (by kernel_rfl) (by kernel_rfl) (by kernel_rfl) (fun _ _ _ h => h) (some 24) rfl (Or.inl ⟨by rfl, ?_⟩) (by assumption) ?_
      rotate_left 1
      · intro wz hSw
        have c0 : wz.cell? ⟨p, 0, none⟩ = some (.slice A n c) := hSw.cell 0
        have c1 : wz.cell? ⟨p, 1, none⟩ = some (.int .i64 ty) := hSw.cell 1
        have c3 : wz.cell? ⟨p, 3, none⟩ = some (.int .u32 (ge : Int)) := hSw.cell 3
        go_simp
        try with_reducible rfl
      simp only [Act.put, List.setIfInBounds_toArray, List.set_cons_zero, List.set_cons_succ]
      refine takeH (i := 2) (v := ?_) rfl (by kernel_rfl) (by kernel_rfl) (by kernel_rfl) (fun _ _ _ h => h) (some 25) rfl (Or.inl ⟨by rfl, ?_⟩) (by assumption) ?_
      rotate_left 1
      · intro wz hSw
        go_simp
        try with_reducible rfl
      simp only [Act.put, List.setIfInBounds_toArray, List.set_cons_zero, List.set_cons_succ]
      refine takeH (i := 3) (v := .agg #[.int .i64 ty, .string ho]) rfl (by kernel_rfl) (by kernel_rfl) (by kernel_rfl) (fun _ _ _ h => h) (some 26) rfl ?_ (by assumption) ?_
      · exact yieldsIf_load_mid (by rfl) 24 (.tmp 25) rfl p 1 (by rfl) [.int .i64 ty, .string ho] _ (fun wz hSw => fun j v hj => (hSw.cell (1 + j)).trans (by match j, hj with | 0, hj => exact hj | 1, hj => exact hj)) Tryd.underlying24 rfl (by kernel_rfl)
      simp only [Act.put, List.setIfInBounds_toArray, List.set_cons_zero, List.set_cons_succ]
      refine takeH (i := 5) (v := ?_) rfl (by kernel_rfl) (by kernel_rfl) (by kernel_rfl) (fun _ _ _ h => h) (some 28) rfl (Or.inl ⟨by rfl, ?_⟩) (by assumption) ?_
      rotate_left 1
      · intro wz hSw
        go_simp
        try with_reducible rfl
      simp only [Act.put, List.setIfInBounds_toArray, List.set_cons_zero, List.set_cons_succ]
      refine takeH (i := 6) (v := ?_) rfl (by kernel_rfl) (by kernel_rfl) (by kernel_rfl) (fun _ _ _ h => h) (some 29) rfl (Or.inl ⟨by rfl, ?_⟩) (by assumption) ?_
      rotate_left 1
      · intro wz hSw
        have c0 : wz.cell? ⟨p, 0, none⟩ = some (.slice A n c) := hSw.cell 0
        have c1 : wz.cell? ⟨p, 1, none⟩ = some (.int .i64 ty) := hSw.cell 1
        have c3 : wz.cell? ⟨p, 3, none⟩ = some (.int .u32 (ge : Int)) := hSw.cell 3
        go_simp
        try with_reducible rfl
      simp only [Act.put, List.setIfInBounds_toArray, List.set_cons_zero, List.set_cons_succ]
      refine wpAnyH_ready (rs := [4]) (by kernel_rfl) (by simp) ?_
      refine AllReadyH.cons rfl (fun KK hKK => ?_) AllReadyH.nil
      refine step_alloc (by rfl) (.slice (some ⟨x4.heap.size, 0, none⟩) 0 0) (x4.alloc (.cells #[] 36)) (by go_simp) (some 27) rfl ?_
      refine hKK.out _ _ (HX.out.alloc _) (fun hHeld => ?_)
      clear hKK KK
      simp only [Act.put, List.setIfInBounds_toArray, List.set_cons_zero, List.set_cons_succ]
      have hal := (Below.refl x4.heap.size x4).alloc (Nat.le_refl _) (.cells #[] 36)
      obtain ⟨A1, c1, x5, hap, hr1, hgr, _, hcp⟩ := run_append_rks (x4.alloc (.cells #[] 36)) 22 x4.heap.size (.slice (some ⟨x4.heap.size, 0, none⟩) 0 0) (own_noneK x4) A c l (HL.out.below hal) HM.out (by simp)
      clear hcp
      rw [← HN.out] at hap
      have hb : Below x4.heap.size x4 x5 := hal.grown hgr (by simp) (fun k hk => Nat.le_of_eq (Option.some.inj hk))
      refine wpAnyH_ready (rs := [7]) (by kernel_rfl) (by simp) ?_
      refine AllReadyH.cons rfl (fun KK hKK => ?_) AllReadyH.nil
      refine step_append (by rfl) (.tmp 27) (.tmp 29) 22 22 (by rfl) (.slice (some ⟨x4.heap.size, 0, none⟩) 0 0) (.slice A n c) (.slice A1 n c1) (by rfl) (by rfl) 22 rfl x5 hap (some 30) rfl ?_
      replace HB := Lib.hid (HB.out.trans (hb.mono HB.out.size)); replace HX := Lib.hid (HX.out.below hb HX.out.lt); replace HL := Lib.hid (HL.out.below hb)
      have HR1 := Lib.hid hr1
      clear hal hap hgr hr1 hb
      refine hKK.out _ _ HX.out (fun hHeld => ?_)
      clear hKK KK
      simp only [Act.put, List.setIfInBounds_toArray, List.set_cons_zero, List.set_cons_succ]
      refine wpAnyH_ready (rs := [8]) (by kernel_rfl) (by simp) ?_
      refine AllReadyH.cons rfl (fun KK hKK => ?_) AllReadyH.nil
      refine step_enter (by rfl) 7 _ (by go_simp) _ (HHO.out A1 c1 x5 (tt18 P HT HB) HR1.out) (some 31) rfl ?_
      rintro e x6 ⟨rfl, hb⟩
      refine ⟨_, rfl, ?_⟩
      replace HB := Lib.hid (HB.out.trans (hb.mono HB.out.size)); replace HX := Lib.hid (HX.out.below hb HX.out.lt); replace HL := Lib.hid (HL.out.below hb)
      clear hb HR1
      refine hKK.out _ _ HX.out (fun hHeld => ?_)
      clear hKK KK
      simp only [Act.put, List.setIfInBounds_toArray, List.set_cons_zero, List.set_cons_succ]
      refine takeH (i := 9) (v := ?_) rfl (by kernel_rfl) (by kernel_rfl) (by kernel_rfl) (fun _ _ _ h => h) (some 4) rfl (Or.inl ⟨by rfl, ?_⟩) (by assumption) ?_
      rotate_left 1
      · intro wz hSw
        go_simp
        try with_reducible rfl
      simp only [Act.put, List.setIfInBounds_toArray, List.set_cons_zero, List.set_cons_succ]
      refine wpAnyH_done (by kernel_rfl) ?_ _
      go_upto_region 6 with (fail)
      refine wp_region_held_drew (S := (fun v => Blk v p 27 (tbC A n c ty ho ge ap))) (by kernel_rfl) ?_ (fun hHeld => ?_)
      · exact HX.out.drew
      replace HB := Lib.hid HB.out.drew; replace HX := Lib.hid HX.out.drew; replace HL := Lib.hid (HL.out.below (Below.refl _ _).drew)
      generalize World.drew _ = x7 at *
      refine takeH (i := 0) (v := ?_) rfl (by kernel_rfl) (by kernel_rfl) (by kernel_rfl) (fun _ _ _ h => h) (some 32) rfl (Or.inl ⟨by rfl, ?_⟩) (by assumption) ?_
      rotate_left 1
      · intro wz hSw
        go_simp
        try with_reducible rfl
      simp only [Act.put, List.setIfInBounds_toArray, List.set_cons_zero, List.set_cons_succ]
      refine takeH (i := 1) (v := ?_) rfl (by kernel_rfl) (by kernel_rfl) (by kernel_rfl) (fun _ _ _ h => h) (some 33) rfl (Or.inl ⟨by rfl, ?_⟩) (by assumption) ?_
      rotate_left 1
      · intro wz hSw
        go_simp
        try with_reducible rfl
      simp only [Act.put, List.setIfInBounds_toArray, List.set_cons_zero, List.set_cons_succ]
      refine takeH (i := 2) (v := ?_) rfl (by kernel_rfl) (by kernel_rfl) (by kernel_rfl) (fun _ _ _ h => h) (some 34) rfl (Or.inl ⟨by rfl, ?_⟩) (by assumption) ?_
      rotate_left 1
      · intro wz hSw
        go_simp
        try with_reducible rfl
      simp only [Act.put, List.setIfInBounds_toArray, List.set_cons_zero, List.set_cons_succ]
      refine takeH (i := 3) (v := ?_) rfl (by kernel_rfl) (by kernel_rfl) (by kernel_rfl) (fun _ _ _ h => h) (some 35) rfl (Or.inl ⟨by rfl, ?_⟩) (by assumption) ?_
      rotate_left 1
      · intro wz hSw
        have c0 : wz.cell? ⟨p, 0, none⟩ = some (.slice A n c) := hSw.cell 0
        have c1 : wz.cell? ⟨p, 1, none⟩ = some (.int .i64 ty) := hSw.cell 1
        have c3 : wz.cell? ⟨p, 3, none⟩ = some (.int .u32 (ge : Int)) := hSw.cell 3
        go_simp
        try with_reducible rfl
      simp only [Act.put, List.setIfInBounds_toArray, List.set_cons_zero, List.set_cons_succ]
      refine takeH (i := 4) (v := ?_) rfl (by kernel_rfl) (by kernel_rfl) (by kernel_rfl) (fun _ _ _ h => h) (some 36) rfl (Or.inl ⟨by rfl, ?_⟩) (by assumption) ?_
      rotate_left 1
      · intro wz hSw
        go_simp
        try with_reducible rfl
      simp only [Act.put, List.setIfInBounds_toArray, List.set_cons_zero, List.set_cons_succ]
      refine takeH (i := 5) (v := ?_) rfl (by kernel_rfl) (by kernel_rfl) (by kernel_rfl) (fun _ _ _ h => h) (some 37) rfl (Or.inl ⟨by rfl, ?_⟩) (by assumption) ?_
      rotate_left 1
      · intro wz hSw
        go_simp
        try with_reducible rfl
      simp only [Act.put, List.setIfInBounds_toArray, List.set_cons_zero, List.set_cons_succ]
      refine takeH (i := 6) (v := ?_) rfl (by kernel_rfl) (by kernel_rfl) (by kernel_rfl) (fun _ _ _ h => h) (some 38) rfl (Or.inl ⟨by rfl, ?_⟩) (by assumption) ?_
      rotate_left 1
      · intro wz hSw
        go_simp
        try with_reducible rfl
      simp only [Act.put, List.setIfInBounds_toArray, List.set_cons_zero, List.set_cons_succ]
      refine takeH (i := 7) (v := ?_) rfl (by kernel_rfl) (by kernel_rfl) (by kernel_rfl) (fun _ _ _ h => h) (some 39) rfl (Or.inl ⟨by rfl, ?_⟩) (by assumption) ?_
      rotate_left 1
      · intro wz hSw
        go_simp
        try with_reducible rfl
      simp only [Act.put, List.setIfInBounds_toArray, List.set_cons_zero, List.set_cons_succ]
      refine takeH (i := 8) (v := ?_) rfl (by kernel_rfl) (by kernel_rfl) (by kernel_rfl) (fun _ _ _ h => h) (some 40) rfl (Or.inl ⟨by rfl, ?_⟩) (by assumption) ?_
      rotate_left 1
      · intro wz hSw
        go_simp
        try with_reducible rfl
      simp only [Act.put, List.setIfInBounds_toArray, List.set_cons_zero, List.set_cons_succ]
      refine takeH (i := 9) (v := ?_) rfl (by kernel_rfl) (by kernel_rfl) (by kernel_rfl) (fun _ _ _ h => h) (some 41) rfl (Or.inl ⟨by rfl, ?_⟩) (by assumption) ?_
      rotate_left 1
      · intro wz hSw
        go_simp
        try with_reducible rfl
      simp only [Act.put, List.setIfInBounds_toArray, List.set_cons_zero, List.set_cons_succ]
      refine takeH (i := 10) (v := ?_) rfl (by kernel_rfl) (by kernel_rfl) (by kernel_rfl) (fun _ _ _ h => h) (some 42) rfl (Or.inl ⟨by rfl, ?_⟩) (by assumption) ?_
      rotate_left 1
      · intro wz hSw
        go_simp
        try with_reducible rfl
      simp only [Act.put, List.setIfInBounds_toArray, List.set_cons_zero, List.set_cons_succ]
      refine takeH (i := 12) (v := ?_) rfl (by kernel_rfl) (by kernel_rfl) (by kernel_rfl) (fun _ _ _ h => h) (some 44) rfl (Or.inl ⟨by rfl, ?_⟩) (by assumption) ?_
      rotate_left 1
      · intro wz hSw
        go_simp
        try with_reducible rfl
      simp only [Act.put, List.setIfInBounds_toArray, List.set_cons_zero, List.set_cons_succ]
      refine takeH (i := 13) (v := ?_) rfl (by kernel_rfl) (by kernel_rfl) (by kernel_rfl) (fun _ _ _ h => h) (some 45) rfl (Or.inl ⟨by rfl, ?_⟩) (by assumption) ?_
      rotate_left 1
      · intro wz hSw
        have c0 : wz.cell? ⟨p, 0, none⟩ = some (.slice A n c) := hSw.cell 0
        have c1 : wz.cell? ⟨p, 1, none⟩ = some (.int .i64 ty) := hSw.cell 1
        have c3 : wz.cell? ⟨p, 3, none⟩ = some (.int .u32 (ge : Int)) := hSw.cell 3
        go_simp
        try with_reducible rfl
      simp only [Act.put, List.setIfInBounds_toArray, List.set_cons_zero, List.set_cons_succ]
      refine takeH (i := 14) (v := ?_) rfl (by kernel_rfl) (by kernel_rfl) (by kernel_rfl) (fun _ _ _ h => h) (some 46) rfl (Or.inl ⟨by rfl, ?_⟩) (by assumption) ?_
      rotate_left 1
      · intro wz hSw
        go_simp
        try with_reducible rfl
      simp only [Act.put, List.setIfInBounds_toArray, List.set_cons_zero, List.set_cons_succ]
      refine wpAnyH_ready (rs := [11]) (by kernel_rfl) (by simp) ?_
      refine AllReadyH.cons rfl (fun KK hKK => ?_) AllReadyH.nil
      refine step_enter (by rfl) 8 _ (by go_simp) _ (HQ0.out x7) (some 43) rfl ?_
      rintro e y ⟨rfl, hy⟩
      obtain rfl : x7 = y := hy.symm
      refine ⟨_, rfl, ?_⟩
      refine hKK.out _ _ (by assumption) (fun hHeld2 => ?_)
      clear hKK KK hHeld2
      simp only [Act.put, List.setIfInBounds_toArray, List.set_cons_zero, List.set_cons_succ]
      refine takeH (i := 15) (v := ?_) rfl (by kernel_rfl) (by kernel_rfl) (by kernel_rfl) (fun _ _ _ h => h) (some 47) rfl (Or.inl ⟨by rfl, ?_⟩) (by assumption) ?_
      rotate_left 1
      · intro wz hSw
        go_simp
        try with_reducible rfl
      simp only [Act.put, List.setIfInBounds_toArray, List.set_cons_zero, List.set_cons_succ]
      refine takeH (i := 16) (v := ?_) rfl (by kernel_rfl) (by kernel_rfl) (by kernel_rfl) (fun _ _ _ h => h) (some 48) rfl (Or.inl ⟨by rfl, ?_⟩) (by assumption) ?_
      rotate_left 1
      · intro wz hSw
        go_simp
        try with_reducible rfl
      simp only [Act.put, List.setIfInBounds_toArray, List.set_cons_zero, List.set_cons_succ]
      refine takeH (i := 17) (v := ?_) rfl (by kernel_rfl) (by kernel_rfl) (by kernel_rfl) (fun _ _ _ h => h) (some 49) rfl (Or.inl ⟨by rfl, ?_⟩) (by assumption) ?_
      rotate_left 1
      · intro wz hSw
        go_simp
        try with_reducible rfl
      simp only [Act.put, List.setIfInBounds_toArray, List.set_cons_zero, List.set_cons_succ]
      refine takeH (i := 18) (v := ?_) rfl (by kernel_rfl) (by kernel_rfl) (by kernel_rfl) (fun _ _ _ h => h) (some 50) rfl (Or.inl ⟨by rfl, ?_⟩) (by assumption) ?_
      rotate_left 1
      · intro wz hSw
        go_simp
        try with_reducible rfl
      simp only [Act.put, List.setIfInBounds_toArray, List.set_cons_zero, List.set_cons_succ]
      refine takeH (i := 19) (v := ?_) rfl (by kernel_rfl) (by kernel_rfl) (by kernel_rfl) (fun _ _ _ h => h) (some 51) rfl (Or.inl ⟨by rfl, ?_⟩) (by assumption) ?_
      rotate_left 1
      · intro wz hSw
        go_simp
        try with_reducible rfl
      simp only [Act.put, List.setIfInBounds_toArray, List.set_cons_zero, List.set_cons_succ]
      refine takeH (i := 21) (v := ?_) rfl (by kernel_rfl) (by kernel_rfl) (by kernel_rfl) (fun _ _ _ h => h) (some 53) rfl (Or.inl ⟨by rfl, ?_⟩) (by assumption) ?_
      rotate_left 1
      · intro wz hSw
        go_simp
        try with_reducible rfl
      simp only [Act.put, List.setIfInBounds_toArray, List.set_cons_zero, List.set_cons_succ]
      refine takeH (i := 22) (v := ?_) rfl (by kernel_rfl) (by kernel_rfl) (by kernel_rfl) (fun _ _ _ h => h) (some 54) rfl (Or.inl ⟨by rfl, ?_⟩) (by assumption) ?_
      rotate_left 1
      · intro wz hSw
        have c0 : wz.cell? ⟨p, 0, none⟩ = some (.slice A n c) := hSw.cell 0
        have c1 : wz.cell? ⟨p, 1, none⟩ = some (.int .i64 ty) := hSw.cell 1
        have c3 : wz.cell? ⟨p, 3, none⟩ = some (.int .u32 (ge : Int)) := hSw.cell 3
        go_simp
        try with_reducible rfl
      simp only [Act.put, List.setIfInBounds_toArray, List.set_cons_zero, List.set_cons_succ]
      refine takeH (i := 23) (v := ?_) rfl (by kernel_rfl) (by kernel_rfl) (by kernel_rfl) (fun _ _ _ h => h) (some 55) rfl (Or.inl ⟨by rfl, ?_⟩) (by assumption) ?_
      rotate_left 1
      · intro wz hSw
        go_simp
        try with_reducible rfl
      simp only [Act.put, List.setIfInBounds_toArray, List.set_cons_zero, List.set_cons_succ]
      refine takeH (i := 24) (v := ?_) rfl (by kernel_rfl) (by kernel_rfl) (by kernel_rfl) (fun _ _ _ h => h) (some 56) rfl (Or.inl ⟨by rfl, ?_⟩) (by assumption) ?_
      rotate_left 1
      · intro wz hSw
        go_simp
        try with_reducible rfl
      simp only [Act.put, List.setIfInBounds_toArray, List.set_cons_zero, List.set_cons_succ]
      refine takeH (i := 25) (v := ?_) rfl (by kernel_rfl) (by kernel_rfl) (by kernel_rfl) (fun _ _ _ h => h) (some 57) rfl (Or.inl ⟨by rfl, ?_⟩) (by assumption) ?_
      rotate_left 1
      · intro wz hSw
        go_simp
        try with_reducible rfl
      simp only [Act.put, List.setIfInBounds_toArray, List.set_cons_zero, List.set_cons_succ]
      refine wpAnyH_ready (rs := [20]) (by kernel_rfl) (by simp) ?_
      refine AllReadyH.cons rfl (fun KK hKK => ?_) AllReadyH.nil
      refine step_enter (by rfl) 8 _ (by go_simp) _ (HQ4.out x7) (some 52) rfl ?_
      rintro e y ⟨rfl, hy⟩
      obtain rfl : x7 = y := hy.symm
      refine ⟨_, rfl, ?_⟩
      refine hKK.out _ _ (by assumption) (fun hHeld2 => ?_)
      clear hKK KK hHeld2
      simp only [Act.put, List.setIfInBounds_toArray, List.set_cons_zero, List.set_cons_succ]
      refine takeH (i := 26) (v := ?_) rfl (by kernel_rfl) (by kernel_rfl) (by kernel_rfl) (fun _ _ _ h => h) (some 58) rfl (Or.inl ⟨by rfl, ?_⟩) (by assumption) ?_
      rotate_left 1
      · intro wz hSw
        go_simp
        try with_reducible rfl
      simp only [Act.put, List.setIfInBounds_toArray, List.set_cons_zero, List.set_cons_succ]
      refine takeH (i := 27) (v := ?_) rfl (by kernel_rfl) (by kernel_rfl) (by kernel_rfl) (fun _ _ _ h => h) (some 59) rfl (Or.inl ⟨by rfl, ?_⟩) (by assumption) ?_
      rotate_left 1
      · intro wz hSw
        go_simp
        try with_reducible rfl
      simp only [Act.put, List.setIfInBounds_toArray, List.set_cons_zero, List.set_cons_succ]
      refine takeH (i := 28) (v := ?_) rfl (by kernel_rfl) (by kernel_rfl) (by kernel_rfl) (fun _ _ _ h => h) (some 60) rfl (Or.inl ⟨by rfl, ?_⟩) (by assumption) ?_
      rotate_left 1
      · intro wz hSw
        go_simp
        try with_reducible rfl
      simp only [Act.put, List.setIfInBounds_toArray, List.set_cons_zero, List.set_cons_succ]
      refine takeH (i := 29) (v := ?_) rfl (by kernel_rfl) (by kernel_rfl) (by kernel_rfl) (fun _ _ _ h => h) (some 61) rfl (Or.inl ⟨by rfl, ?_⟩) (by assumption) ?_
      rotate_left 1
      · intro wz hSw
        go_simp
        try with_reducible rfl
      simp only [Act.put, List.setIfInBounds_toArray, List.set_cons_zero, List.set_cons_succ]
      refine takeH (i := 30) (v := ?_) rfl (by kernel_rfl) (by kernel_rfl) (by kernel_rfl) (fun _ _ _ h => h) (some 62) rfl (Or.inl ⟨by rfl, ?_⟩) (by assumption) ?_
      rotate_left 1
      · intro wz hSw
        go_simp
        try with_reducible rfl
      simp only [Act.put, List.setIfInBounds_toArray, List.set_cons_zero, List.set_cons_succ]
      refine takeH (i := 31) (v := ?_) rfl (by kernel_rfl) (by kernel_rfl) (by kernel_rfl) (fun _ _ _ h => h) (some 63) rfl (Or.inl ⟨by rfl, ?_⟩) (by assumption) ?_
      rotate_left 1
      · intro wz hSw
        go_simp
        try with_reducible rfl
      simp only [Act.put, List.setIfInBounds_toArray, List.set_cons_zero, List.set_cons_succ]
      refine takeH (i := 32) (v := ?_) rfl (by kernel_rfl) (by kernel_rfl) (by kernel_rfl) (fun _ _ _ h => h) (some 64) rfl (Or.inl ⟨by rfl, ?_⟩) (by assumption) ?_
      rotate_left 1
      · intro wz hSw
        go_simp
        try with_reducible rfl
      simp only [Act.put, List.setIfInBounds_toArray, List.set_cons_zero, List.set_cons_succ]
      refine takeH (i := 33) (v := ?_) rfl (by kernel_rfl) (by kernel_rfl) (by kernel_rfl) (fun _ _ _ h => h) (some 65) rfl (Or.inl ⟨by rfl, ?_⟩) (by assumption) ?_
      rotate_left 1
      · intro wz hSw
        go_simp
        try with_reducible rfl
      simp only [Act.put, List.setIfInBounds_toArray, List.set_cons_zero, List.set_cons_succ]
      refine takeH (i := 34) (v := ?_) rfl (by kernel_rfl) (by kernel_rfl) (by kernel_rfl) (fun _ _ _ h => h) (some 66) rfl (Or.inl ⟨by rfl, ?_⟩) (by assumption) ?_
      rotate_left 1
      · intro wz hSw
        go_simp
        try with_reducible rfl
      simp only [Act.put, List.setIfInBounds_toArray, List.set_cons_zero, List.set_cons_succ]
      refine takeH (i := 35) (v := ?_) rfl (by kernel_rfl) (by kernel_rfl) (by kernel_rfl) (fun _ _ _ h => h) (some 67) rfl (Or.inl ⟨by rfl, ?_⟩) (by assumption) ?_
      rotate_left 1
      · intro wz hSw
        go_simp
        try with_reducible rfl
      simp only [Act.put, List.setIfInBounds_toArray, List.set_cons_zero, List.set_cons_succ]
      refine takeH (i := 37) (v := ?_) rfl (by kernel_rfl) (by kernel_rfl) (by kernel_rfl) (fun _ _ _ h => h) (some 69) rfl (Or.inl ⟨by rfl, ?_⟩) (by assumption) ?_
      rotate_left 1
      · intro wz hSw
        go_simp
        try with_reducible rfl
      simp only [Act.put, List.setIfInBounds_toArray, List.set_cons_zero, List.set_cons_succ]
      refine takeH (i := 38) (v := ?_) rfl (by kernel_rfl) (by kernel_rfl) (by kernel_rfl) (fun _ _ _ h => h) (some 70) rfl (Or.inl ⟨by rfl, ?_⟩) (by assumption) ?_
      rotate_left 1
      · intro wz hSw
        have c0 : wz.cell? ⟨p, 0, none⟩ = some (.slice A n c) := hSw.cell 0
        have c1 : wz.cell? ⟨p, 1, none⟩ = some (.int .i64 ty) := hSw.cell 1
        have c3 : wz.cell? ⟨p, 3, none⟩ = some (.int .u32 (ge : Int)) := hSw.cell 3
        go_simp
        try with_reducible rfl
      simp only [Act.put, List.setIfInBounds_toArray, List.set_cons_zero, List.set_cons_succ]
      refine takeH (i := 39) (v := ?_) rfl (by kernel_rfl) (by kernel_rfl) (by kernel_rfl) (fun _ _ _ h => h) (some 71) rfl (Or.inl ⟨by rfl, ?_⟩) (by assumption) ?_
      rotate_left 1
      · intro wz hSw
        go_simp
        try with_reducible rfl
      simp only [Act.put, List.setIfInBounds_toArray, List.set_cons_zero, List.set_cons_succ]
      refine wpAnyH_ready (rs := [36]) (by kernel_rfl) (by simp) ?_
      refine AllReadyH.cons rfl (fun KK hKK => ?_) AllReadyH.nil
      refine step_enter (by rfl) 8 _ (by go_simp) _ (HG0.out x7) (some 68) rfl ?_
      rintro e y ⟨rfl, hy⟩
      obtain rfl : x7 = y := hy.symm
      refine ⟨_, rfl, ?_⟩
      refine hKK.out _ _ (by assumption) (fun hHeld2 => ?_)
      clear hKK KK hHeld2
      simp only [Act.put, List.setIfInBounds_toArray, List.set_cons_zero, List.set_cons_succ]
      refine takeH (i := 40) (v := ?_) rfl (by kernel_rfl) (by kernel_rfl) (by kernel_rfl) (fun _ _ _ h => h) (some 72) rfl (Or.inl ⟨by rfl, ?_⟩) (by assumption) ?_
      rotate_left 1
      · intro wz hSw
        go_simp
        try with_reducible rfl
      simp only [Act.put, List.setIfInBounds_toArray, List.set_cons_zero, List.set_cons_succ]
      refine takeH (i := 41) (v := ?_) rfl (by kernel_rfl) (by kernel_rfl) (by kernel_rfl) (fun _ _ _ h => h) (some 73) rfl (Or.inl ⟨by rfl, ?_⟩) (by assumption) ?_
      rotate_left 1
      · intro wz hSw
        go_simp
        try with_reducible rfl
      simp only [Act.put, List.setIfInBounds_toArray, List.set_cons_zero, List.set_cons_succ]
      refine wpAnyH_done (by kernel_rfl) ?_ _
      go_wp2_with (fail)
      clear e1 e2 e3 e4 e5 e6 e7 e8 e9 e10 e11 HQ0 HQ4 HG0 HKS HHO
      go_loopw [6] (fun i wr => ∃ k : Nat, k ≤ n ∧ i = .int .i64 k ∧ Hid (Blk wr p 27 (tbC A n c ty ho ge ap)) ∧ Hid (Rks wr A l) ∧ Hid (Below w.heap.size w wr)) (fun i _ => n - (intOf i).toNat)
      case atStart => exact ⟨0, Nat.zero_le _, rfl, HX, HL, HB⟩
      case round =>
        clear HX HL HB
        obtain ⟨k, hk, rfl, HX, HL, HB⟩ := hrel
        have c0 : wr.cell? ⟨p, 0, none⟩ = some (.slice A n c) := HX.out.cell 0
        by_cases hlt : (k : Int) < (n : Int)
        · obtain ⟨b, o, x, rfl, hx, _, _, d1⟩ := HL.out.at_ (j := k) (by have := HN.out; omega)
          have HKK := Lib.hid (HKQ.out k x hx)
          obtain ⟨I, hI⟩ : ∃ I : Nat, I = 8 + 8 * k := ⟨_, rfl⟩
          obtain ⟨K8, hK8⟩ : ∃ K8 : Nat, K8 = 8 * k := ⟨_, rfl⟩
          rw [← hI] at HKK
          have e1 : IntKind.i64.wrap (8 * (k : Int)) = (K8 : Int) := by rw [IntWalk.i64_in _ (by have := HN16.out; omega)]; omega
          have e2 : IntKind.i64.wrap (8 + (K8 : Int)) = (I : Int) := by rw [IntWalk.i64_in _ (by have := HN16.out; omega)]; omega
          have e3 : ((x.k : Int) != (x.k : Int)) = false := by simp
          have hwr : wrap64 ((k : Int) + 1) = ((k + 1 : Nat) : Int) := by rw [IntWalk.wrap64_in _ (by have := HN16.out; omega)]; omega
          have hwq := Lib.hid hwr
          clear hx hI hK8 hwr
          go_upto_region 11 with (fail)
          refine wp_region_held_drew (S := (fun v => Blk v p 27 (tbC (some ⟨b, o, none⟩) n c ty ho ge ap) ∧ v.cell? ⟨b, o + k * 2 + 1, none⟩ = some (.int .u64 (x.k : Int)))) (by kernel_rfl) ?_ (fun hHeld => ?_)
          · exact ⟨HX.out.drew, d1⟩
          replace HB := Lib.hid HB.out.drew; replace HX := Lib.hid HX.out.drew; replace HL := Lib.hid (HL.out.below (Below.refl _ _).drew)
          generalize World.drew _ = x9 at *
          refine takeH (i := 0) (v := ?_) rfl (by kernel_rfl) (by kernel_rfl) (by kernel_rfl) (fun _ _ _ h => h) (some 81) rfl (Or.inl ⟨by rfl, ?_⟩) (by assumption) ?_
          rotate_left 1
          · intro wz hSw
            go_simp
            try with_reducible rfl
          simp only [Act.put, List.setIfInBounds_toArray, List.set_cons_zero, List.set_cons_succ]
          refine takeH (i := 1) (v := ?_) rfl (by kernel_rfl) (by kernel_rfl) (by kernel_rfl) (fun _ _ _ h => h) (some 82) rfl (Or.inl ⟨by rfl, ?_⟩) (by assumption) ?_
          rotate_left 1
          · intro wz hSw
            go_simp
            try with_reducible rfl
          simp only [Act.put, List.setIfInBounds_toArray, List.set_cons_zero, List.set_cons_succ]
          refine takeH (i := 2) (v := ?_) rfl (by kernel_rfl) (by kernel_rfl) (by kernel_rfl) (fun _ _ _ h => h) (some 83) rfl (Or.inl ⟨by rfl, ?_⟩) (by assumption) ?_
          rotate_left 1
          · intro wz hSw
            go_simp
            try with_reducible rfl
          simp only [Act.put, List.setIfInBounds_toArray, List.set_cons_zero, List.set_cons_succ]
          refine takeH (i := 3) (v := ?_) rfl (by kernel_rfl) (by kernel_rfl) (by kernel_rfl) (fun _ _ _ h => h) (some 84) rfl (Or.inl ⟨by rfl, ?_⟩) (by assumption) ?_
          rotate_left 1
          · intro wz hSw
            go_simp
            try with_reducible rfl
          simp only [Act.put, List.setIfInBounds_toArray, List.set_cons_zero, List.set_cons_succ]
          refine takeH (i := 4) (v := ?_) rfl (by kernel_rfl) (by kernel_rfl) (by kernel_rfl) (fun _ _ _ h => h) (some 85) rfl (Or.inl ⟨by rfl, ?_⟩) (by assumption) ?_
          rotate_left 1
          · intro wz hSw
            go_simp
            try with_reducible rfl
          simp only [Act.put, List.setIfInBounds_toArray, List.set_cons_zero, List.set_cons_succ]
          refine takeH (i := 6) (v := ?_) rfl (by kernel_rfl) (by kernel_rfl) (by kernel_rfl) (fun _ _ _ h => h) (some 87) rfl (Or.inl ⟨by rfl, ?_⟩) (by assumption) ?_
          rotate_left 1
          · intro wz hSw
            go_simp
            try with_reducible rfl
          simp only [Act.put, List.setIfInBounds_toArray, List.set_cons_zero, List.set_cons_succ]
          refine takeH (i := 7) (v := ?_) rfl (by kernel_rfl) (by kernel_rfl) (by kernel_rfl) (fun _ _ _ h => h) (some 88) rfl (Or.inl ⟨by rfl, ?_⟩) (by assumption) ?_
          rotate_left 1
          · intro wz hSw
            have c0 : wz.cell? ⟨p, 0, none⟩ = some (.slice (some ⟨b, o, none⟩) n c) := hSw.1.cell 0
            have c1 : wz.cell? ⟨p, 1, none⟩ = some (.int .i64 ty) := hSw.1.cell 1
            have c3 : wz.cell? ⟨p, 3, none⟩ = some (.int .u32 (ge : Int)) := hSw.1.cell 3
            go_simp
            try with_reducible rfl
          simp only [Act.put, List.setIfInBounds_toArray, List.set_cons_zero, List.set_cons_succ]
          refine takeH (i := 8) (v := ?_) rfl (by kernel_rfl) (by kernel_rfl) (by kernel_rfl) (fun _ _ _ h => h) (some 89) rfl (Or.inl ⟨by rfl, ?_⟩) (by assumption) ?_
          rotate_left 1
          · intro wz hSw
            go_simp
            try with_reducible rfl
          simp only [Act.put, List.setIfInBounds_toArray, List.set_cons_zero, List.set_cons_succ]
          refine takeH (i := 9) (v := ?_) rfl (by kernel_rfl) (by kernel_rfl) (by kernel_rfl) (fun _ _ _ h => h) (some 90) rfl (Or.inl ⟨by rfl, ?_⟩) (by assumption) ?_
          rotate_left 1
          · intro wz hSw
            go_simp
            try with_reducible rfl
          simp only [Act.put, List.setIfInBounds_toArray, List.set_cons_zero, List.set_cons_succ]
          refine takeH (i := 10) (v := ?_) rfl (by kernel_rfl) (by kernel_rfl) (by kernel_rfl) (fun _ _ _ h => h) (some 91) rfl (Or.inl ⟨by rfl, ?_⟩) (by assumption) ?_
          rotate_left 1
          · intro wz hSw
            go_simp
            try with_reducible rfl
          simp only [Act.put, List.setIfInBounds_toArray, List.set_cons_zero, List.set_cons_succ]
          refine takeH (i := 11) (v := ?_) rfl (by kernel_rfl) (by kernel_rfl) (by kernel_rfl) (fun _ _ _ h => h) (some 92) rfl (Or.inl ⟨by rfl, ?_⟩) (by assumption) ?_
          rotate_left 1
          · intro wz hSw
            have d1 := hSw.2
            go_simp
            try with_reducible rfl
          simp only [Act.put, List.setIfInBounds_toArray, List.set_cons_zero, List.set_cons_succ]
          refine wpAnyH_ready (rs := [5]) (by kernel_rfl) (by simp) ?_
          refine AllReadyH.cons rfl (fun KK hKK => ?_) AllReadyH.nil
          refine step_enter (by rfl) 8 _ (by go_simp) _ (HKK.out x9) (some 86) rfl ?_
          rintro e y ⟨rfl, hy⟩
          obtain rfl : x9 = y := hy.symm
          refine ⟨_, rfl, ?_⟩
          refine hKK.out _ _ (by assumption) (fun hHeld2 => ?_)
          clear hKK KK hHeld2
          simp only [Act.put, List.setIfInBounds_toArray, List.set_cons_zero, List.set_cons_succ]
          refine takeH (i := 12) (v := ?_) rfl (by kernel_rfl) (by kernel_rfl) (by kernel_rfl) (fun _ _ _ h => h) (some 93) rfl (Or.inl ⟨by rfl, ?_⟩) (by assumption) ?_
          rotate_left 1
          · intro wz hSw
            go_simp
            try with_reducible rfl
          simp only [Act.put, List.setIfInBounds_toArray, List.set_cons_zero, List.set_cons_succ]
          refine wpAnyH_done (by kernel_rfl) ?_ _
          clear d1 hHeld c0 e1 e2 e3
          go_wp2_with (fail)
          have hwr := hwq.out
          go_roundw
          case rel => exact ⟨k + 1, by omega, by first | rw [hwr] | go_num, HX, HL, HB⟩
          case measure => first | (rw [hwr]; simp only [intOf, Int.toNat_natCast]; omega) | (simp [intOf]; omega)
        · have c1 : wr.cell? ⟨p, 1, none⟩ = some (.int .i64 ty) := HX.out.cell 1
          by_cases h1 : 1 ≤ ty
          · have q1 : ¬ ty < 1 := by omega
            by_cases h6 : ty ≤ 6
            · have q6 : ¬ 6 < ty := by omega
              obtain ⟨s1, s2, s3, s4⟩ := HHD.out.1 ⟨h1, h6⟩
              have HNU : Hid (∀ v, T v → Calls Tryd.prog 9 #[.int .i64 ty] v fun e w' => e = .returned (.int .i64 (nuI ty : Nat)) ∧ Below v.heap.size v w') := Lib.hid (fun v tv => Q.number ty v tv h1 h6)
              have HG4 : Hid (∀ v, Calls Tryd.prog 8 #[.string hs, .int .i64 4, .int .i64 4] v fun e w' => e = .returned (.int .u64 16) ∧ w' = v) := Lib.hid (fun v => by
                have h := num_any hs 4 4 v (by omega) (by decide) (by omega)
                rwa [s3] at h)
              have hix := fun w => index_byt hs 21 21 rfl (by omega) w
              rw [s4] at hix
              have e1 : (hs.size : Int) = 24 := by omega
              have hnu : nuI ty < 100 := by
                have h : ty = 1 ∨ ty = 2 ∨ ty = 3 ∨ ty = 4 ∨ ty = 5 ∨ ty = 6 := by omega
                rcases h with rfl | rfl | rfl | rfl | rfl | rfl <;> decide
              generalize nuI ty = nu at *
              have e2 : IntKind.i64.wrap (nu : Int) = (nu : Int) := IntWalk.i64_in _ (by omega)
              have e3 : ((nu : Int) == (nu : Int)) = true := by simp
              clear s1 s2 s3 s4 h1 h6 hnu HHD
              go_upto_region 15 with (fail)
              refine wp_region_held_drew (S := (fun v => Blk v p 27 (tbC A n c ty ho ge ap))) (by kernel_rfl) ?_ (fun hHeld => ?_)
              · exact HX.out.drew
              replace HB := Lib.hid HB.out.drew; replace HX := Lib.hid HX.out.drew; replace HL := Lib.hid (HL.out.below (Below.refl _ _).drew)
              generalize World.drew _ = x9 at *
              refine takeH (i := 0) (v := ?_) rfl (by kernel_rfl) (by kernel_rfl) (by kernel_rfl) (fun _ _ _ h => h) (some 116) rfl (Or.inl ⟨by rfl, ?_⟩) (by assumption) ?_
              rotate_left 1
              · intro wz hSw
                go_simp
                try with_reducible rfl
              simp only [Act.put, List.setIfInBounds_toArray, List.set_cons_zero, List.set_cons_succ]
              refine takeH (i := 1) (v := ?_) rfl (by kernel_rfl) (by kernel_rfl) (by kernel_rfl) (fun _ _ _ h => h) (some 117) rfl (Or.inl ⟨by rfl, ?_⟩) (by assumption) ?_
              rotate_left 1
              · intro wz hSw
                go_simp
                try with_reducible rfl
              simp only [Act.put, List.setIfInBounds_toArray, List.set_cons_zero, List.set_cons_succ]
              refine takeH (i := 2) (v := ?_) rfl (by kernel_rfl) (by kernel_rfl) (by kernel_rfl) (fun _ _ _ h => h) (some 118) rfl (Or.inl ⟨by rfl, ?_⟩) (by assumption) ?_
              rotate_left 1
              · intro wz hSw
                go_simp
                try with_reducible rfl
              simp only [Act.put, List.setIfInBounds_toArray, List.set_cons_zero, List.set_cons_succ]
              refine takeH (i := 3) (v := ?_) rfl (by kernel_rfl) (by kernel_rfl) (by kernel_rfl) (fun _ _ _ h => h) (some 119) rfl (Or.inl ⟨by rfl, ?_⟩) (by assumption) ?_
              rotate_left 1
              · intro wz hSw
                go_simp
                try with_reducible rfl
              simp only [Act.put, List.setIfInBounds_toArray, List.set_cons_zero, List.set_cons_succ]
              refine takeH (i := 4) (v := ?_) rfl (by kernel_rfl) (by kernel_rfl) (by kernel_rfl) (fun _ _ _ h => h) (some 120) rfl (Or.inl ⟨by rfl, ?_⟩) (by assumption) ?_
              rotate_left 1
              · intro wz hSw
                go_simp
                try with_reducible rfl
              simp only [Act.put, List.setIfInBounds_toArray, List.set_cons_zero, List.set_cons_succ]
              refine takeH (i := 5) (v := ?_) rfl (by kernel_rfl) (by kernel_rfl) (by kernel_rfl) (fun _ _ _ h => h) (some 121) rfl (Or.inl ⟨by rfl, ?_⟩) (by assumption) ?_
              rotate_left 1
              · intro wz hSw
                go_simp
                try with_reducible rfl
              simp only [Act.put, List.setIfInBounds_toArray, List.set_cons_zero, List.set_cons_succ]
              refine wpAnyH_ready (rs := [6]) (by kernel_rfl) (by simp) ?_
              refine AllReadyH.cons rfl (fun KK hKK => ?_) AllReadyH.nil
              refine step_enter (by rfl) 8 _ (by go_simp) _ (HG4.out x9) (some 122) rfl ?_
              rintro e y ⟨rfl, hy⟩
              obtain rfl : x9 = y := hy.symm
              refine ⟨_, rfl, ?_⟩
              refine hKK.out _ _ (by assumption) (fun hHeld2 => ?_)
              clear hKK KK hHeld2
              simp only [Act.put, List.setIfInBounds_toArray, List.set_cons_zero, List.set_cons_succ]
              refine takeH (i := 7) (v := ?_) rfl (by kernel_rfl) (by kernel_rfl) (by kernel_rfl) (fun _ _ _ h => h) (some 123) rfl (Or.inl ⟨by rfl, ?_⟩) (by assumption) ?_
              rotate_left 1
              · intro wz hSw
                go_simp
                try with_reducible rfl
              simp only [Act.put, List.setIfInBounds_toArray, List.set_cons_zero, List.set_cons_succ]
              refine takeH (i := 8) (v := ?_) rfl (by kernel_rfl) (by kernel_rfl) (by kernel_rfl) (fun _ _ _ h => h) (some 124) rfl (Or.inl ⟨by rfl, ?_⟩) (by assumption) ?_
              rotate_left 1
              · intro wz hSw
                go_simp
                try with_reducible rfl
              simp only [Act.put, List.setIfInBounds_toArray, List.set_cons_zero, List.set_cons_succ]
              refine takeH (i := 9) (v := ?_) rfl (by kernel_rfl) (by kernel_rfl) (by kernel_rfl) (fun _ _ _ h => h) (some 125) rfl (Or.inl ⟨by rfl, ?_⟩) (by assumption) ?_
              rotate_left 1
              · intro wz hSw
                go_simp
                try with_reducible rfl
              simp only [Act.put, List.setIfInBounds_toArray, List.set_cons_zero, List.set_cons_succ]
              refine takeH (i := 10) (v := ?_) rfl (by kernel_rfl) (by kernel_rfl) (by kernel_rfl) (fun _ _ _ h => h) (some 126) rfl (Or.inl ⟨by rfl, ?_⟩) (by assumption) ?_
              rotate_left 1
              · intro wz hSw
                go_simp
                try with_reducible rfl
              simp only [Act.put, List.setIfInBounds_toArray, List.set_cons_zero, List.set_cons_succ]
              refine takeH (i := 11) (v := ?_) rfl (by kernel_rfl) (by kernel_rfl) (by kernel_rfl) (fun _ _ _ h => h) (some 127) rfl (Or.inl ⟨by rfl, ?_⟩) (by assumption) ?_
              rotate_left 1
              · intro wz hSw
                go_simp
                try with_reducible rfl
              simp only [Act.put, List.setIfInBounds_toArray, List.set_cons_zero, List.set_cons_succ]
              refine takeH (i := 12) (v := ?_) rfl (by kernel_rfl) (by kernel_rfl) (by kernel_rfl) (fun _ _ _ h => h) (some 128) rfl (Or.inl ⟨by rfl, ?_⟩) (by assumption) ?_
              rotate_left 1
              · intro wz hSw
                go_simp
                try with_reducible rfl
              simp only [Act.put, List.setIfInBounds_toArray, List.set_cons_zero, List.set_cons_succ]
              refine takeH (i := 13) (v := ?_) rfl (by kernel_rfl) (by kernel_rfl) (by kernel_rfl) (fun _ _ _ h => h) (some 129) rfl (Or.inl ⟨by rfl, ?_⟩) (by assumption) ?_
              rotate_left 1
              · intro wz hSw
                go_simp
                try with_reducible rfl
              simp only [Act.put, List.setIfInBounds_toArray, List.set_cons_zero, List.set_cons_succ]
              refine takeH (i := 14) (v := ?_) rfl (by kernel_rfl) (by kernel_rfl) (by kernel_rfl) (fun _ _ _ h => h) (some 130) rfl (Or.inl ⟨by rfl, ?_⟩) (by assumption) ?_
              rotate_left 1
              · intro wz hSw
                go_simp
                try with_reducible rfl
              simp only [Act.put, List.setIfInBounds_toArray, List.set_cons_zero, List.set_cons_succ]
              refine takeH (i := 15) (v := ?_) rfl (by kernel_rfl) (by kernel_rfl) (by kernel_rfl) (fun _ _ _ h => h) (some 131) rfl (Or.inl ⟨by rfl, ?_⟩) (by assumption) ?_
              rotate_left 1
              · intro wz hSw
                have c0 : wz.cell? ⟨p, 0, none⟩ = some (.slice A n c) := hSw.cell 0
                have c1 : wz.cell? ⟨p, 1, none⟩ = some (.int .i64 ty) := hSw.cell 1
                have c3 : wz.cell? ⟨p, 3, none⟩ = some (.int .u32 (ge : Int)) := hSw.cell 3
                go_simp
                try with_reducible rfl
              simp only [Act.put, List.setIfInBounds_toArray, List.set_cons_zero, List.set_cons_succ]
              refine wpAnyH_ready (rs := [16]) (by kernel_rfl) (by simp) ?_
              refine AllReadyH.cons rfl (fun KK hKK => ?_) AllReadyH.nil
              refine step_enter (by rfl) 9 _ (by go_simp) _ (HNU.out x9 (tt18 P HT HB)) (some 132) rfl ?_
              rintro e x10 ⟨rfl, hb⟩
              refine ⟨_, rfl, ?_⟩
              replace HB := Lib.hid (HB.out.trans (hb.mono HB.out.size)); replace HX := Lib.hid (HX.out.below hb HX.out.lt); replace HL := Lib.hid (HL.out.below hb)
              clear hb
              refine hKK.out _ _ HX.out (fun hHeld => ?_)
              clear hKK KK
              simp only [Act.put, List.setIfInBounds_toArray, List.set_cons_zero, List.set_cons_succ]
              refine takeH (i := 17) (v := ?_) rfl (by kernel_rfl) (by kernel_rfl) (by kernel_rfl) (fun _ _ _ h => h) (some 133) rfl (Or.inl ⟨by rfl, ?_⟩) (by assumption) ?_
              rotate_left 1
              · intro wz hSw
                go_simp
                try with_reducible rfl
              simp only [Act.put, List.setIfInBounds_toArray, List.set_cons_zero, List.set_cons_succ]
              refine takeH (i := 18) (v := ?_) rfl (by kernel_rfl) (by kernel_rfl) (by kernel_rfl) (fun _ _ _ h => h) (some 134) rfl (Or.inl ⟨by rfl, ?_⟩) (by assumption) ?_
              rotate_left 1
              · intro wz hSw
                go_simp
                try with_reducible rfl
              simp only [Act.put, List.setIfInBounds_toArray, List.set_cons_zero, List.set_cons_succ]
              refine takeH (i := 19) (v := ?_) rfl (by kernel_rfl) (by kernel_rfl) (by kernel_rfl) (fun _ _ _ h => h) (some 135) rfl (Or.inl ⟨by rfl, ?_⟩) (by assumption) ?_
              rotate_left 1
              · intro wz hSw
                go_simp
                try with_reducible rfl
              simp only [Act.put, List.setIfInBounds_toArray, List.set_cons_zero, List.set_cons_succ]
              refine wpAnyH_ready (rs := [20]) (by kernel_rfl) (by simp) ?_
              refine AllReadyH.cons rfl (fun KK hKK => ?_) AllReadyH.nil
              refine step_enter (by rfl) 5 _ (by go_simp) _ (HWK.out x10 (tt18 P HT HB)) (some 136) rfl ?_
              rintro e x11 ⟨rfl, hb⟩
              refine ⟨_, rfl, ?_⟩
              replace HB := Lib.hid (HB.out.trans (hb.mono HB.out.size)); replace HX := Lib.hid (HX.out.below hb HX.out.lt); replace HL := Lib.hid (HL.out.below hb)
              clear hb
              refine hKK.out _ _ HX.out (fun hHeld => ?_)
              clear hKK KK
              simp only [Act.put, List.setIfInBounds_toArray, List.set_cons_zero, List.set_cons_succ]
              refine takeH (i := 21) (v := ?_) rfl (by kernel_rfl) (by kernel_rfl) (by kernel_rfl) (fun _ _ _ h => h) (some 137) rfl (Or.inl ⟨by rfl, ?_⟩) (by assumption) ?_
              rotate_left 1
              · intro wz hSw
                go_simp
                try with_reducible rfl
              simp only [Act.put, List.setIfInBounds_toArray, List.set_cons_zero, List.set_cons_succ]
              refine takeH (i := 22) (v := ?_) rfl (by kernel_rfl) (by kernel_rfl) (by kernel_rfl) (fun _ _ _ h => h) (some 2) rfl (Or.inl ⟨by rfl, ?_⟩) (by assumption) ?_
              rotate_left 1
              · intro wz hSw
                go_simp
                try with_reducible rfl
              simp only [Act.put, List.setIfInBounds_toArray, List.set_cons_zero, List.set_cons_succ]
              refine wpAnyH_done (by kernel_rfl) ?_ _
              go_wp2_with (fail)
              go_ret
              exact ⟨rfl, HB.out⟩
            · have q6 : 6 < ty := by omega
              obtain ⟨s1, s2, s3⟩ := HHD.out.2 (fun h => by omega)
              have HG4 : Hid (∀ v, Calls Tryd.prog 8 #[.string hs, .int .i64 4, .int .i64 4] v fun e w' => e = .returned (.int .u64 0) ∧ w' = v) := Lib.hid (fun v => by
                have h := num_any hs 4 4 v (by omega) (by decide) (by omega)
                rwa [s3] at h)
              have e1 : (hs.size : Int) = 8 := by omega
              clear s1 s2 s3 h1 h6 HHD
              go_wp2_with (fail)
              refine (HG4.out wr).mono ?_; rintro e y ⟨rfl, hy⟩; obtain rfl : wr = y := hy.symm
              go_wp2_with (fail)
              refine (HWK.out wr (tt18 P HT HB)).mono ?_; rintro e vz ⟨rfl, hb⟩
              replace HB := Lib.hid (HB.out.trans (hb.mono HB.out.size)); clear hb
              go_wp2_with (fail)
              go_ret
              exact ⟨rfl, HB.out⟩
          · have q1 : ty < 1 := by omega
            obtain ⟨s1, s2, s3⟩ := HHD.out.2 (fun h => by omega)
            have HG4 : Hid (∀ v, Calls Tryd.prog 8 #[.string hs, .int .i64 4, .int .i64 4] v fun e w' => e = .returned (.int .u64 0) ∧ w' = v) := Lib.hid (fun v => by
              have h := num_any hs 4 4 v (by omega) (by decide) (by omega)
              rwa [s3] at h)
            have e1 : (hs.size : Int) = 8 := by omega
            clear s1 s2 s3 h1 HHD
            go_wp2_with (fail)
            refine (HG4.out wr).mono ?_; rintro e y ⟨rfl, hy⟩; obtain rfl : wr = y := hy.symm
            go_wp2_with (fail)
            refine (HWK.out wr (tt18 P HT HB)).mono ?_; rintro e vz ⟨rfl, hb⟩
            replace HB := Lib.hid (HB.out.trans (hb.mono HB.out.size)); clear hb
            go_wp2_with (fail)
            go_ret
            exact ⟨rfl, HB.out⟩
    · have q16 : (16 : Int) < (n : Int) := by omega
      go_wp2_with (fail)
      refine (HWK.out v1 (tt18 P HT HB)).mono ?_; rintro e vz ⟨rfl, hb⟩
      replace HB := Lib.hid (HB.out.trans (hb.mono HB.out.size)); clear hb
      go_wp2_with (fail)
      go_ret
      exact ⟨rfl, HB.out⟩
end Go.Proofs.YtdggipgieanpeaaDoor
