/- Changes of many hosts, one behind the other: the statement. -/
import Derived.Test.YtgekadfkokkapaaDoorPk35
namespace Go.Proofs.YtgekadfkokkapaaDoor
open Go.RowKit
set_option maxRecDepth 100000 in
set_option maxHeartbeats 16000000 in
theorem plays_any (AL : Option Addr) (cL : Nat) (l : List Cm) (w : World) (hcm : Cms w AL l) (ht : RTab w) :
    Calls Tryd.prog 6 #[.slice AL l.length cL] w fun e w' => e = .returned (.bool true) ∧ Below w.heap.size w w' := by
  have HCM := Lib.hid hcm; have HT0 := Lib.hid ht
  clear hcm ht
  have hnt := not_true
  have hnf := not_false
  go_enter Tryd.func6, Tryd.ntmps6
  go_upto_region 2 with (fail)
  change Code.wp _ _ _ _ ((w.alloc (.cells tlZ 27)).alloc (.cells tlZ 27))
  have F0 := Lib.hid (PlAt.from w _ rfl)
  obtain ⟨pt, hpt⟩ : ∃ pt, pt = w.heap.size := ⟨_, rfl⟩
  have hsz : (w.alloc (.cells tlZ 27)).heap.size = w.heap.size + 1 := by simp
  obtain ⟨pq, hpq⟩ : ∃ pq, pq = w.heap.size + 1 := ⟨_, rfl⟩
  generalize (w.alloc (.cells tlZ 27)).alloc (.cells tlZ 27) = v0 at *
  rw [← hpq, ← hpt] at F0
  try rw [hsz]
  rw [← hpq, ← hpt]
  clear hpt hsz hpq
  go_wp2_with (fail)
  go_loopw [5] (fun i wr => ∃ (k : Nat) (A : Option Addr) (c : Nat) (A' : Option Addr) (c' : Nat) (t : Tl), k ≤ 60 ∧ k ≤ l.length ∧ i = .int .i64 k ∧ Hid (PlAt w wr pt pq A c A' c' t) ∧ Hid (GoodP t)) (fun i _ => l.length - (intOf i).toNat)
  case atStart => exact ⟨0, none, 0, none, 0, emT, Nat.zero_le _, Nat.zero_le _, rfl, F0, Lib.hid emT_good⟩
  case round =>
    obtain ⟨k, A, c, A', c', t, hk60, hkl, rfl, HF, HG⟩ := hrel
    by_cases hlt : k < l.length
    · have hkl1 : (k : Int) < l.length := by omega
      by_cases h60 : k < 60
      · have h60i : (k : Int) < 60 := by omega
        obtain ⟨m, hmk⟩ : ∃ m, l[k]? = some m := ⟨_, List.getElem?_eq_getElem hlt⟩
        have HCW := Lib.hid (HCM.out.kept HF.out.bel)
        obtain ⟨b, o, rfl, hrw⟩ := HCW.out.row hmk
        have HRW := Lib.hid hrw
        clear hrw hmk
        have HCH := Lib.hid (Below.refl wr.heap.size wr)
        have m0 : wr.cell? ⟨b, o + k * 14, none⟩ = some (.int .i64 m.op) := HRW.out wr HCH.out 0 _ rfl
        have m1 : wr.cell? ⟨b, o + k * 14 + 1, none⟩ = some (.int .i64 m.lu) := HRW.out wr HCH.out 1 _ rfl
        have m2 : wr.cell? ⟨b, o + k * 14 + 2, none⟩ = some (.string m.ho) := HRW.out wr HCH.out 2 _ rfl
        have m3 : wr.cell? ⟨b, o + k * 14 + 3, none⟩ = some (.int .i64 m.lb) := HRW.out wr HCH.out 3 _ rfl
        have m4 : wr.cell? ⟨b, o + k * 14 + 4, none⟩ = some (.int .i64 m.bl) := HRW.out wr HCH.out 4 _ rfl
        have m5 : wr.cell? ⟨b, o + k * 14 + 5, none⟩ = some (.string m.da) := HRW.out wr HCH.out 5 _ rfl
        have m6 : wr.cell? ⟨b, o + k * 14 + 6, none⟩ = some (.bool m.fu) := HRW.out wr HCH.out 6 _ rfl
        have m7 : wr.cell? ⟨b, o + k * 14 + 7, none⟩ = some (.slice m.rA m.rn m.rc) := HRW.out wr HCH.out 7 _ rfl
        have m8 : wr.cell? ⟨b, o + k * 14 + 8, none⟩ = some (.int .u64 m.ke) := HRW.out wr HCH.out 8 _ rfl
        have m9 : wr.cell? ⟨b, o + k * 14 + 9, none⟩ = some (.int .u64 m.nk) := HRW.out wr HCH.out 9 _ rfl
        have m10 : wr.cell? ⟨b, o + k * 14 + 10, none⟩ = some (.int .u64 m.ot) := HRW.out wr HCH.out 10 _ rfl
        have m11 : wr.cell? ⟨b, o + k * 14 + 11, none⟩ = some (.int .i64 m.ty) := HRW.out wr HCH.out 11 _ rfl
        have m12 : wr.cell? ⟨b, o + k * 14 + 12, none⟩ = some (.bool m.ig) := HRW.out wr HCH.out 12 _ rfl
        have m13 : wr.cell? ⟨b, o + k * 14 + 13, none⟩ = some (.int .i64 m.ap) := HRW.out wr HCH.out 13 _ rfl
        have HLC := Lib.hid (largeC_any m wr)
        cases hlc : decide (1000 < m.ho.size) with
        | true =>
          rw [hlc] at HLC
          clear hlc
          go_wp2_with (fail)
          refine HLC.out.mono ?_; rintro e v1 ⟨rfl, hb⟩
          have F1 := Lib.hid (HF.out.below hb)
          clear hb m0 m1 m2 m3 m4 m5 m6 m7 m8 m9 m10 m11 m12 m13
          go_wp2_with (fail)
          refine (wakes_any v1 (HT0.out.below F1.out.bel)).mono ?_; rintro e v2 ⟨rfl, hb⟩
          have F2 := Lib.hid (F1.out.below hb); clear hb
          go_wp2_with (fail)
          go_ret
          exact ⟨rfl, F2.out.bel⟩
        | false =>
          rw [hlc] at HLC
          have HSZ := Lib.hid (Nat.le_of_not_lt (of_decide_eq_false hlc))
          clear hlc
          go_wp2_with (fail)
          refine HLC.out.mono ?_; rintro e v1 ⟨rfl, hb⟩
          have F1 := Lib.hid (HF.out.below hb); have HC1 := Lib.hid (HCH.out.trans hb)
          clear hb HLC HCH m0 m1 m2 m3 m4 m5 m6 m7 m8 m9 m10 m11 m12 m13
          have HCH := Lib.hid HC1.out
          have HSM := Lib.hid HG.out.small
          obtain ⟨u, ev, cd, hM⟩ := kpMath (m := m) HSM.out
          have HMM := Lib.hid hM
          have hgu : goodB u = true := by
            by_cases hc : cd = 1
            · exact (hM.yes hc).2
            · rw [(hM.no hc).1]; exact goodB_iff.2 HG.out
          have HGU := Lib.hid hgu
          clear hM hgu HC1
          go_upto_region 7 with (fail)
          have HBx0 := Lib.hid (show Below v1.heap.size v1 v1.drew from (Below.refl _ _).drew)
          refine wp_region_any (by kernel_rfl) ?_
          change wpAny _ _ _ _ _ _ _ (World.drew v1)
          rename_i KRx hKRx
          generalize v1.drew = x0 at *
          apply share6 (fun v p A6 c6 B6 e6 => DoBox v1 u ev v p none 0 A6 c6 B6 e6)
          · intro HSH
            refine take_at (i := 1) (v := ?_) rfl (by kernel_rfl) (by kernel_rfl) (by kernel_rfl) (fun _ _ _ h => h) (some 28) rfl (Or.inl ⟨by rfl, ?_⟩) ?_
            rotate_left 1
            · intro w; go_simp; try with_reducible rfl
            simp only [Act.put, List.setIfInBounds_toArray, List.set_cons_zero, List.set_cons_succ]
            refine take_at (i := 2) (v := ?_) rfl (by kernel_rfl) (by kernel_rfl) (by kernel_rfl) (fun _ _ _ h => h) (some 29) rfl (Or.inl ⟨by rfl, ?_⟩) ?_
            rotate_left 1
            · intro w; go_simp; try with_reducible rfl
            simp only [Act.put, List.setIfInBounds_toArray, List.set_cons_zero, List.set_cons_succ]
            refine take_at (i := 3) (v := ?_) rfl (by kernel_rfl) (by kernel_rfl) (by kernel_rfl) (fun _ _ _ h => h) (some 30) rfl (Or.inl ⟨by rfl, ?_⟩) ?_
            rotate_left 1
            · intro w; go_simp; try with_reducible rfl
            simp only [Act.put, List.setIfInBounds_toArray, List.set_cons_zero, List.set_cons_succ]
            refine wpAny_ready (rs := [0, 4, 10]) (by kernel_rfl) (by simp) ?_
            refine AllReady.cons rfl (fun KK hKK => ?_) ?_
            · skip
              refine step_load (by rfl) 27 (.tmp 3) (by rfl) pt (by rfl) 27 (tlC A c t) ((F1.out.bt).below HBx0.out (F1.out.bt).lt) _ Tryd.underlying27 rfl size27 (some 27) rfl ?_
              refine hKK _ _ ?_; clear hKK KK; simp only [Act.put, List.setIfInBounds_toArray, List.set_cons_zero, List.set_cons_succ]
              refine wpAny_ready (rs := [4, 10]) (by kernel_rfl) (by simp) ?_
              refine AllReady.cons rfl (fun KK hKK => ?_) ?_
              · skip
                refine step_load_at (by rfl) 37 (.tmp 30) (by rfl) b (o + k * 14) (by rfl) (cmC m) (HRW.out _ (HCH.out.trans ((HBx0.out).mono HCH.out.size))) _ Tryd.underlying37 rfl size37 (some 31) rfl ?_
                refine hKK _ _ ?_; clear hKK KK; simp only [Act.put, List.setIfInBounds_toArray, List.set_cons_zero, List.set_cons_succ]
                refine wpAny_ready (rs := [5, 10]) (by kernel_rfl) (by simp) ?_
                refine AllReady.cons rfl (fun KK hKK => ?_) ?_
                · skip
                  refine step_call2 (by rfl) 22 (.tmp 27) (.tmp 31) _ (by rfl) (tlV A c t) (cmV m) (by rfl) (by rfl) (fun _ _ => rfl) _ (do_as (w := x0) ((F1.out.ot).below HBx0.out).rgs HSM.out HSZ.out ((HT0.out.below F1.out.bel).below HBx0.out) HMM.out.t1 HMM.out.e1 HMM.out.c1) (some 32) rfl ?_
                  rintro e x1 ⟨A6, c6, B6, e6, rfl, ho6, he6, hb⟩
                  refine ⟨_, rfl, ?_⟩
                  have HBx1 := Lib.hid ((HBx0.out).trans (hb.mono (HBx0.out).size)); have HO1 := Lib.hid (Own.base ho6 (HBx0.out).size); have HE1 := Lib.hid (OwnE.base he6 (HBx0.out).size)
                  clear hb ho6 he6; refine hKK _ _ ?_; clear hKK KK; simp only [Act.put, List.setIfInBounds_toArray, List.set_cons_zero, List.set_cons_succ]
                  refine take_at (i := 6) (v := ?_) rfl (by kernel_rfl) (by kernel_rfl) (by kernel_rfl) (fun _ _ _ h => h) (some 26) rfl (Or.inl ⟨by rfl, ?_⟩) ?_
                  rotate_left 1
                  · intro w; go_simp; try with_reducible rfl
                  simp only [Act.put, List.setIfInBounds_toArray, List.set_cons_zero, List.set_cons_succ]
                  refine take_at (i := 7) (v := ?_) rfl (by kernel_rfl) (by kernel_rfl) (by kernel_rfl) (fun _ _ _ h => h) (some 33) rfl (Or.inl ⟨by rfl, ?_⟩) ?_
                  rotate_left 1
                  · intro w; go_simp; try with_reducible rfl
                  simp only [Act.put, List.setIfInBounds_toArray, List.set_cons_zero, List.set_cons_succ]
                  refine take_at (i := 8) (v := ?_) rfl (by kernel_rfl) (by kernel_rfl) (by kernel_rfl) (fun _ _ _ h => h) (some 34) rfl (Or.inl ⟨by rfl, ?_⟩) ?_
                  rotate_left 1
                  · intro w; go_simp; try with_reducible rfl
                  simp only [Act.put, List.setIfInBounds_toArray, List.set_cons_zero, List.set_cons_succ]
                  refine take_at (i := 9) (v := ?_) rfl (by kernel_rfl) (by kernel_rfl) (by kernel_rfl) (fun _ _ _ h => h) (some 35) rfl (Or.inl ⟨by rfl, ?_⟩) ?_
                  rotate_left 1
                  · intro w; go_simp; try with_reducible rfl
                  simp only [Act.put, List.setIfInBounds_toArray, List.set_cons_zero, List.set_cons_succ]
                  refine wpAny_ready (rs := [10]) (by kernel_rfl) (by simp) ?_
                  refine AllReady.cons rfl (fun KK hKK => ?_) ?_
                  · skip
                    go_simp
                    refine hKK _ _ ?_; clear hKK KK; try simp only [Act.put, List.setIfInBounds_toArray, List.set_cons_zero, List.set_cons_succ]
                    change wpAny _ _ _ _ _ _ _ (x1.alloc (.cells tlZ 27))
                    have hal := (Below.refl x1.heap.size x1).alloc (Nat.le_refl _) (.cells tlZ 27)
                    have HBx2 := Lib.hid ((HBx1.out).trans (hal.mono (HBx1.out).size)); have HP2 := Lib.hid (Blk.new x1 27 tlZ); have HQ := Lib.hid ((HBx1.out).size)
                    have HO2 := Lib.hid (HO1.out.below hal); have HE2 := Lib.hid (HE1.out.below hal)
                    clear hal
                    generalize x1.alloc (.cells tlZ 27) = x2 at *
                    obtain ⟨p, hp⟩ : ∃ p, p = x1.heap.size := ⟨_, rfl⟩
                    rw [← hp] at HP2 HQ ⊢; clear hp
                    refine wpAny_ready (rs := [11]) (by kernel_rfl) (by simp) ?_
                    refine AllReady.cons rfl (fun KK hKK => ?_) AllReady.nil
                    refine step_store (by rfl) 27 (.tmp 6) (.tmp 33) (by rfl) _ (tlC A6 c6 u) (by rfl) (by rfl) 27 tlZ HP2.out size27 rfl (tlC_one ..) none rfl ?_
                    intro v hbk hon
                    have HX := DoBox.made (A5 := none) (c5 := 0) HBx2.out HQ.out HP2.out HO2.out HE2.out hbk hon
                    clear hbk hon; refine hKK _ _ ?_; clear hKK KK; simp only [Act.put]
                    refine take_at (i := 12) (v := ?_) rfl (by kernel_rfl) (by kernel_rfl) (by kernel_rfl) (fun _ _ _ h => h) (some 7) rfl (Or.inl ⟨by rfl, ?_⟩) ?_
                    rotate_left 1
                    · intro w; go_simp; try with_reducible rfl
                    simp only [Act.put, List.setIfInBounds_toArray, List.set_cons_zero, List.set_cons_succ]
                    refine take_at (i := 13) (v := ?_) rfl (by kernel_rfl) (by kernel_rfl) (by kernel_rfl) (fun _ _ _ h => h) (some 8) rfl (Or.inl ⟨by rfl, ?_⟩) ?_
                    rotate_left 1
                    · intro w; go_simp; try with_reducible rfl
                    simp only [Act.put, List.setIfInBounds_toArray, List.set_cons_zero, List.set_cons_succ]
                    refine wpAny_done (by kernel_rfl) ?_ _
                    exact HSH _ _ _ _ _ _ HX
                  exact AllReady.nil
                refine AllReady.cons rfl (fun KK hKK => ?_) ?_
                · skip
                  go_simp
                  refine hKK _ _ ?_; clear hKK KK; try simp only [Act.put, List.setIfInBounds_toArray, List.set_cons_zero, List.set_cons_succ]
                  change wpAny _ _ _ _ _ _ _ (x0.alloc (.cells tlZ 27))
                  have hal := (Below.refl x0.heap.size x0).alloc (Nat.le_refl _) (.cells tlZ 27)
                  have HBx3 := Lib.hid ((HBx0.out).trans (hal.mono (HBx0.out).size)); have HP3 := Lib.hid (Blk.new x0 27 tlZ); have HQ := Lib.hid ((HBx0.out).size)
                  clear hal
                  generalize x0.alloc (.cells tlZ 27) = x3 at *
                  obtain ⟨p, hp⟩ : ∃ p, p = x0.heap.size := ⟨_, rfl⟩
                  rw [← hp] at HP3 HQ ⊢; clear hp
                  refine wpAny_ready (rs := [5]) (by kernel_rfl) (by simp) ?_
                  refine AllReady.cons rfl (fun KK hKK => ?_) ?_
                  · skip
                    refine step_call2 (by rfl) 22 (.tmp 27) (.tmp 31) _ (by rfl) (tlV A c t) (cmV m) (by rfl) (by rfl) (fun _ _ => rfl) _ (do_as (w := x3) ((F1.out.ot).below HBx3.out).rgs HSM.out HSZ.out ((HT0.out.below F1.out.bel).below HBx3.out) HMM.out.t1 HMM.out.e1 HMM.out.c1) (some 32) rfl ?_
                    rintro e x4 ⟨A6, c6, B6, e6, rfl, ho6, he6, hb⟩
                    refine ⟨_, rfl, ?_⟩
                    have HBx4 := Lib.hid ((HBx3.out).trans (hb.mono (HBx3.out).size)); have HO4 := Lib.hid (Own.base ho6 (HBx3.out).size); have HE4 := Lib.hid (OwnE.base he6 (HBx3.out).size)
                    have HP4 := Lib.hid (HP3.out.below hb HP3.out.lt)
                    clear hb ho6 he6; refine hKK _ _ ?_; clear hKK KK; simp only [Act.put, List.setIfInBounds_toArray, List.set_cons_zero, List.set_cons_succ]
                    refine take_at (i := 6) (v := ?_) rfl (by kernel_rfl) (by kernel_rfl) (by kernel_rfl) (fun _ _ _ h => h) (some 26) rfl (Or.inl ⟨by rfl, ?_⟩) ?_
                    rotate_left 1
                    · intro w; go_simp; try with_reducible rfl
                    simp only [Act.put, List.setIfInBounds_toArray, List.set_cons_zero, List.set_cons_succ]
                    refine take_at (i := 7) (v := ?_) rfl (by kernel_rfl) (by kernel_rfl) (by kernel_rfl) (fun _ _ _ h => h) (some 33) rfl (Or.inl ⟨by rfl, ?_⟩) ?_
                    rotate_left 1
                    · intro w; go_simp; try with_reducible rfl
                    simp only [Act.put, List.setIfInBounds_toArray, List.set_cons_zero, List.set_cons_succ]
                    refine take_at (i := 8) (v := ?_) rfl (by kernel_rfl) (by kernel_rfl) (by kernel_rfl) (fun _ _ _ h => h) (some 34) rfl (Or.inl ⟨by rfl, ?_⟩) ?_
                    rotate_left 1
                    · intro w; go_simp; try with_reducible rfl
                    simp only [Act.put, List.setIfInBounds_toArray, List.set_cons_zero, List.set_cons_succ]
                    refine take_at (i := 9) (v := ?_) rfl (by kernel_rfl) (by kernel_rfl) (by kernel_rfl) (fun _ _ _ h => h) (some 35) rfl (Or.inl ⟨by rfl, ?_⟩) ?_
                    rotate_left 1
                    · intro w; go_simp; try with_reducible rfl
                    simp only [Act.put, List.setIfInBounds_toArray, List.set_cons_zero, List.set_cons_succ]
                    refine wpAny_ready (rs := [11]) (by kernel_rfl) (by simp) ?_
                    refine AllReady.cons rfl (fun KK hKK => ?_) AllReady.nil
                    refine step_store (by rfl) 27 (.tmp 6) (.tmp 33) (by rfl) _ (tlC A6 c6 u) (by rfl) (by rfl) 27 tlZ HP4.out size27 rfl (tlC_one ..) none rfl ?_
                    intro v hbk hon
                    have HX := DoBox.made (A5 := none) (c5 := 0) HBx4.out HQ.out HP4.out HO4.out HE4.out hbk hon
                    clear hbk hon; refine hKK _ _ ?_; clear hKK KK; simp only [Act.put]
                    refine take_at (i := 12) (v := ?_) rfl (by kernel_rfl) (by kernel_rfl) (by kernel_rfl) (fun _ _ _ h => h) (some 7) rfl (Or.inl ⟨by rfl, ?_⟩) ?_
                    rotate_left 1
                    · intro w; go_simp; try with_reducible rfl
                    simp only [Act.put, List.setIfInBounds_toArray, List.set_cons_zero, List.set_cons_succ]
                    refine take_at (i := 13) (v := ?_) rfl (by kernel_rfl) (by kernel_rfl) (by kernel_rfl) (fun _ _ _ h => h) (some 8) rfl (Or.inl ⟨by rfl, ?_⟩) ?_
                    rotate_left 1
                    · intro w; go_simp; try with_reducible rfl
                    simp only [Act.put, List.setIfInBounds_toArray, List.set_cons_zero, List.set_cons_succ]
                    refine wpAny_done (by kernel_rfl) ?_ _
                    exact HSH _ _ _ _ _ _ HX
                  exact AllReady.nil
                exact AllReady.nil
              refine AllReady.cons rfl (fun KK hKK => ?_) ?_
              · skip
                go_simp
                refine hKK _ _ ?_; clear hKK KK; try simp only [Act.put, List.setIfInBounds_toArray, List.set_cons_zero, List.set_cons_succ]
                change wpAny _ _ _ _ _ _ _ (x0.alloc (.cells tlZ 27))
                have hal := (Below.refl x0.heap.size x0).alloc (Nat.le_refl _) (.cells tlZ 27)
                have HBx5 := Lib.hid ((HBx0.out).trans (hal.mono (HBx0.out).size)); have HP5 := Lib.hid (Blk.new x0 27 tlZ); have HQ := Lib.hid ((HBx0.out).size)
                clear hal
                generalize x0.alloc (.cells tlZ 27) = x5 at *
                obtain ⟨p, hp⟩ : ∃ p, p = x0.heap.size := ⟨_, rfl⟩
                rw [← hp] at HP5 HQ ⊢; clear hp
                refine wpAny_ready (rs := [4]) (by kernel_rfl) (by simp) ?_
                refine AllReady.cons rfl (fun KK hKK => ?_) ?_
                · skip
                  refine step_load_at (by rfl) 37 (.tmp 30) (by rfl) b (o + k * 14) (by rfl) (cmC m) (HRW.out _ (HCH.out.trans ((HBx5.out).mono HCH.out.size))) _ Tryd.underlying37 rfl size37 (some 31) rfl ?_
                  refine hKK _ _ ?_; clear hKK KK; simp only [Act.put, List.setIfInBounds_toArray, List.set_cons_zero, List.set_cons_succ]
                  refine wpAny_ready (rs := [5]) (by kernel_rfl) (by simp) ?_
                  refine AllReady.cons rfl (fun KK hKK => ?_) ?_
                  · skip
                    refine step_call2 (by rfl) 22 (.tmp 27) (.tmp 31) _ (by rfl) (tlV A c t) (cmV m) (by rfl) (by rfl) (fun _ _ => rfl) _ (do_as (w := x5) ((F1.out.ot).below HBx5.out).rgs HSM.out HSZ.out ((HT0.out.below F1.out.bel).below HBx5.out) HMM.out.t1 HMM.out.e1 HMM.out.c1) (some 32) rfl ?_
                    rintro e x6 ⟨A6, c6, B6, e6, rfl, ho6, he6, hb⟩
                    refine ⟨_, rfl, ?_⟩
                    have HBx6 := Lib.hid ((HBx5.out).trans (hb.mono (HBx5.out).size)); have HO6 := Lib.hid (Own.base ho6 (HBx5.out).size); have HE6 := Lib.hid (OwnE.base he6 (HBx5.out).size)
                    have HP6 := Lib.hid (HP5.out.below hb HP5.out.lt)
                    clear hb ho6 he6; refine hKK _ _ ?_; clear hKK KK; simp only [Act.put, List.setIfInBounds_toArray, List.set_cons_zero, List.set_cons_succ]
                    refine take_at (i := 6) (v := ?_) rfl (by kernel_rfl) (by kernel_rfl) (by kernel_rfl) (fun _ _ _ h => h) (some 26) rfl (Or.inl ⟨by rfl, ?_⟩) ?_
                    rotate_left 1
                    · intro w; go_simp; try with_reducible rfl
                    simp only [Act.put, List.setIfInBounds_toArray, List.set_cons_zero, List.set_cons_succ]
                    refine take_at (i := 7) (v := ?_) rfl (by kernel_rfl) (by kernel_rfl) (by kernel_rfl) (fun _ _ _ h => h) (some 33) rfl (Or.inl ⟨by rfl, ?_⟩) ?_
                    rotate_left 1
                    · intro w; go_simp; try with_reducible rfl
                    simp only [Act.put, List.setIfInBounds_toArray, List.set_cons_zero, List.set_cons_succ]
                    refine take_at (i := 8) (v := ?_) rfl (by kernel_rfl) (by kernel_rfl) (by kernel_rfl) (fun _ _ _ h => h) (some 34) rfl (Or.inl ⟨by rfl, ?_⟩) ?_
                    rotate_left 1
                    · intro w; go_simp; try with_reducible rfl
                    simp only [Act.put, List.setIfInBounds_toArray, List.set_cons_zero, List.set_cons_succ]
                    refine take_at (i := 9) (v := ?_) rfl (by kernel_rfl) (by kernel_rfl) (by kernel_rfl) (fun _ _ _ h => h) (some 35) rfl (Or.inl ⟨by rfl, ?_⟩) ?_
                    rotate_left 1
                    · intro w; go_simp; try with_reducible rfl
                    simp only [Act.put, List.setIfInBounds_toArray, List.set_cons_zero, List.set_cons_succ]
                    refine wpAny_ready (rs := [11]) (by kernel_rfl) (by simp) ?_
                    refine AllReady.cons rfl (fun KK hKK => ?_) AllReady.nil
                    refine step_store (by rfl) 27 (.tmp 6) (.tmp 33) (by rfl) _ (tlC A6 c6 u) (by rfl) (by rfl) 27 tlZ HP6.out size27 rfl (tlC_one ..) none rfl ?_
                    intro v hbk hon
                    have HX := DoBox.made (A5 := none) (c5 := 0) HBx6.out HQ.out HP6.out HO6.out HE6.out hbk hon
                    clear hbk hon; refine hKK _ _ ?_; clear hKK KK; simp only [Act.put]
                    refine take_at (i := 12) (v := ?_) rfl (by kernel_rfl) (by kernel_rfl) (by kernel_rfl) (fun _ _ _ h => h) (some 7) rfl (Or.inl ⟨by rfl, ?_⟩) ?_
                    rotate_left 1
                    · intro w; go_simp; try with_reducible rfl
                    simp only [Act.put, List.setIfInBounds_toArray, List.set_cons_zero, List.set_cons_succ]
                    refine take_at (i := 13) (v := ?_) rfl (by kernel_rfl) (by kernel_rfl) (by kernel_rfl) (fun _ _ _ h => h) (some 8) rfl (Or.inl ⟨by rfl, ?_⟩) ?_
                    rotate_left 1
                    · intro w; go_simp; try with_reducible rfl
                    simp only [Act.put, List.setIfInBounds_toArray, List.set_cons_zero, List.set_cons_succ]
                    refine wpAny_done (by kernel_rfl) ?_ _
                    exact HSH _ _ _ _ _ _ HX
                  exact AllReady.nil
                exact AllReady.nil
              exact AllReady.nil
            refine AllReady.cons rfl (fun KK hKK => ?_) ?_
            · skip
              refine step_load_at (by rfl) 37 (.tmp 30) (by rfl) b (o + k * 14) (by rfl) (cmC m) (HRW.out _ (HCH.out.trans ((HBx0.out).mono HCH.out.size))) _ Tryd.underlying37 rfl size37 (some 31) rfl ?_
              refine hKK _ _ ?_; clear hKK KK; simp only [Act.put, List.setIfInBounds_toArray, List.set_cons_zero, List.set_cons_succ]
              refine wpAny_ready (rs := [0, 10]) (by kernel_rfl) (by simp) ?_
              refine AllReady.cons rfl (fun KK hKK => ?_) ?_
              · skip
                refine step_load (by rfl) 27 (.tmp 3) (by rfl) pt (by rfl) 27 (tlC A c t) ((F1.out.bt).below HBx0.out (F1.out.bt).lt) _ Tryd.underlying27 rfl size27 (some 27) rfl ?_
                refine hKK _ _ ?_; clear hKK KK; simp only [Act.put, List.setIfInBounds_toArray, List.set_cons_zero, List.set_cons_succ]
                refine wpAny_ready (rs := [5, 10]) (by kernel_rfl) (by simp) ?_
                refine AllReady.cons rfl (fun KK hKK => ?_) ?_
                · skip
                  refine step_call2 (by rfl) 22 (.tmp 27) (.tmp 31) _ (by rfl) (tlV A c t) (cmV m) (by rfl) (by rfl) (fun _ _ => rfl) _ (do_as (w := x0) ((F1.out.ot).below HBx0.out).rgs HSM.out HSZ.out ((HT0.out.below F1.out.bel).below HBx0.out) HMM.out.t1 HMM.out.e1 HMM.out.c1) (some 32) rfl ?_
                  rintro e x7 ⟨A6, c6, B6, e6, rfl, ho6, he6, hb⟩
                  refine ⟨_, rfl, ?_⟩
                  have HBx7 := Lib.hid ((HBx0.out).trans (hb.mono (HBx0.out).size)); have HO7 := Lib.hid (Own.base ho6 (HBx0.out).size); have HE7 := Lib.hid (OwnE.base he6 (HBx0.out).size)
                  clear hb ho6 he6; refine hKK _ _ ?_; clear hKK KK; simp only [Act.put, List.setIfInBounds_toArray, List.set_cons_zero, List.set_cons_succ]
                  refine take_at (i := 6) (v := ?_) rfl (by kernel_rfl) (by kernel_rfl) (by kernel_rfl) (fun _ _ _ h => h) (some 26) rfl (Or.inl ⟨by rfl, ?_⟩) ?_
                  rotate_left 1
                  · intro w; go_simp; try with_reducible rfl
                  simp only [Act.put, List.setIfInBounds_toArray, List.set_cons_zero, List.set_cons_succ]
                  refine take_at (i := 7) (v := ?_) rfl (by kernel_rfl) (by kernel_rfl) (by kernel_rfl) (fun _ _ _ h => h) (some 33) rfl (Or.inl ⟨by rfl, ?_⟩) ?_
                  rotate_left 1
                  · intro w; go_simp; try with_reducible rfl
                  simp only [Act.put, List.setIfInBounds_toArray, List.set_cons_zero, List.set_cons_succ]
                  refine take_at (i := 8) (v := ?_) rfl (by kernel_rfl) (by kernel_rfl) (by kernel_rfl) (fun _ _ _ h => h) (some 34) rfl (Or.inl ⟨by rfl, ?_⟩) ?_
                  rotate_left 1
                  · intro w; go_simp; try with_reducible rfl
                  simp only [Act.put, List.setIfInBounds_toArray, List.set_cons_zero, List.set_cons_succ]
                  refine take_at (i := 9) (v := ?_) rfl (by kernel_rfl) (by kernel_rfl) (by kernel_rfl) (fun _ _ _ h => h) (some 35) rfl (Or.inl ⟨by rfl, ?_⟩) ?_
                  rotate_left 1
                  · intro w; go_simp; try with_reducible rfl
                  simp only [Act.put, List.setIfInBounds_toArray, List.set_cons_zero, List.set_cons_succ]
                  refine wpAny_ready (rs := [10]) (by kernel_rfl) (by simp) ?_
                  refine AllReady.cons rfl (fun KK hKK => ?_) ?_
                  · skip
                    go_simp
                    refine hKK _ _ ?_; clear hKK KK; try simp only [Act.put, List.setIfInBounds_toArray, List.set_cons_zero, List.set_cons_succ]
                    change wpAny _ _ _ _ _ _ _ (x7.alloc (.cells tlZ 27))
                    have hal := (Below.refl x7.heap.size x7).alloc (Nat.le_refl _) (.cells tlZ 27)
                    have HBx8 := Lib.hid ((HBx7.out).trans (hal.mono (HBx7.out).size)); have HP8 := Lib.hid (Blk.new x7 27 tlZ); have HQ := Lib.hid ((HBx7.out).size)
                    have HO8 := Lib.hid (HO7.out.below hal); have HE8 := Lib.hid (HE7.out.below hal)
                    clear hal
                    generalize x7.alloc (.cells tlZ 27) = x8 at *
                    obtain ⟨p, hp⟩ : ∃ p, p = x7.heap.size := ⟨_, rfl⟩
                    rw [← hp] at HP8 HQ ⊢; clear hp
                    refine wpAny_ready (rs := [11]) (by kernel_rfl) (by simp) ?_
                    refine AllReady.cons rfl (fun KK hKK => ?_) AllReady.nil
                    refine step_store (by rfl) 27 (.tmp 6) (.tmp 33) (by rfl) _ (tlC A6 c6 u) (by rfl) (by rfl) 27 tlZ HP8.out size27 rfl (tlC_one ..) none rfl ?_
                    intro v hbk hon
                    have HX := DoBox.made (A5 := none) (c5 := 0) HBx8.out HQ.out HP8.out HO8.out HE8.out hbk hon
                    clear hbk hon; refine hKK _ _ ?_; clear hKK KK; simp only [Act.put]
                    refine take_at (i := 12) (v := ?_) rfl (by kernel_rfl) (by kernel_rfl) (by kernel_rfl) (fun _ _ _ h => h) (some 7) rfl (Or.inl ⟨by rfl, ?_⟩) ?_
                    rotate_left 1
                    · intro w; go_simp; try with_reducible rfl
                    simp only [Act.put, List.setIfInBounds_toArray, List.set_cons_zero, List.set_cons_succ]
                    refine take_at (i := 13) (v := ?_) rfl (by kernel_rfl) (by kernel_rfl) (by kernel_rfl) (fun _ _ _ h => h) (some 8) rfl (Or.inl ⟨by rfl, ?_⟩) ?_
                    rotate_left 1
                    · intro w; go_simp; try with_reducible rfl
                    simp only [Act.put, List.setIfInBounds_toArray, List.set_cons_zero, List.set_cons_succ]
                    refine wpAny_done (by kernel_rfl) ?_ _
                    exact HSH _ _ _ _ _ _ HX
                  exact AllReady.nil
                refine AllReady.cons rfl (fun KK hKK => ?_) ?_
                · skip
                  go_simp
                  refine hKK _ _ ?_; clear hKK KK; try simp only [Act.put, List.setIfInBounds_toArray, List.set_cons_zero, List.set_cons_succ]
                  change wpAny _ _ _ _ _ _ _ (x0.alloc (.cells tlZ 27))
                  have hal := (Below.refl x0.heap.size x0).alloc (Nat.le_refl _) (.cells tlZ 27)
                  have HBx9 := Lib.hid ((HBx0.out).trans (hal.mono (HBx0.out).size)); have HP9 := Lib.hid (Blk.new x0 27 tlZ); have HQ := Lib.hid ((HBx0.out).size)
                  clear hal
                  generalize x0.alloc (.cells tlZ 27) = x9 at *
                  obtain ⟨p, hp⟩ : ∃ p, p = x0.heap.size := ⟨_, rfl⟩
                  rw [← hp] at HP9 HQ ⊢; clear hp
                  refine wpAny_ready (rs := [5]) (by kernel_rfl) (by simp) ?_
                  refine AllReady.cons rfl (fun KK hKK => ?_) ?_
                  · skip
                    refine step_call2 (by rfl) 22 (.tmp 27) (.tmp 31) _ (by rfl) (tlV A c t) (cmV m) (by rfl) (by rfl) (fun _ _ => rfl) _ (do_as (w := x9) ((F1.out.ot).below HBx9.out).rgs HSM.out HSZ.out ((HT0.out.below F1.out.bel).below HBx9.out) HMM.out.t1 HMM.out.e1 HMM.out.c1) (some 32) rfl ?_
                    rintro e x10 ⟨A6, c6, B6, e6, rfl, ho6, he6, hb⟩
                    refine ⟨_, rfl, ?_⟩
                    have HBx10 := Lib.hid ((HBx9.out).trans (hb.mono (HBx9.out).size)); have HO10 := Lib.hid (Own.base ho6 (HBx9.out).size); have HE10 := Lib.hid (OwnE.base he6 (HBx9.out).size)
                    have HP10 := Lib.hid (HP9.out.below hb HP9.out.lt)
                    clear hb ho6 he6; refine hKK _ _ ?_; clear hKK KK; simp only [Act.put, List.setIfInBounds_toArray, List.set_cons_zero, List.set_cons_succ]
                    refine take_at (i := 6) (v := ?_) rfl (by kernel_rfl) (by kernel_rfl) (by kernel_rfl) (fun _ _ _ h => h) (some 26) rfl (Or.inl ⟨by rfl, ?_⟩) ?_
                    rotate_left 1
                    · intro w; go_simp; try with_reducible rfl
                    simp only [Act.put, List.setIfInBounds_toArray, List.set_cons_zero, List.set_cons_succ]
                    refine take_at (i := 7) (v := ?_) rfl (by kernel_rfl) (by kernel_rfl) (by kernel_rfl) (fun _ _ _ h => h) (some 33) rfl (Or.inl ⟨by rfl, ?_⟩) ?_
                    rotate_left 1
                    · intro w; go_simp; try with_reducible rfl
                    simp only [Act.put, List.setIfInBounds_toArray, List.set_cons_zero, List.set_cons_succ]
                    refine take_at (i := 8) (v := ?_) rfl (by kernel_rfl) (by kernel_rfl) (by kernel_rfl) (fun _ _ _ h => h) (some 34) rfl (Or.inl ⟨by rfl, ?_⟩) ?_
                    rotate_left 1
                    · intro w; go_simp; try with_reducible rfl
                    simp only [Act.put, List.setIfInBounds_toArray, List.set_cons_zero, List.set_cons_succ]
                    refine take_at (i := 9) (v := ?_) rfl (by kernel_rfl) (by kernel_rfl) (by kernel_rfl) (fun _ _ _ h => h) (some 35) rfl (Or.inl ⟨by rfl, ?_⟩) ?_
                    rotate_left 1
                    · intro w; go_simp; try with_reducible rfl
                    simp only [Act.put, List.setIfInBounds_toArray, List.set_cons_zero, List.set_cons_succ]
                    refine wpAny_ready (rs := [11]) (by kernel_rfl) (by simp) ?_
                    refine AllReady.cons rfl (fun KK hKK => ?_) AllReady.nil
                    refine step_store (by rfl) 27 (.tmp 6) (.tmp 33) (by rfl) _ (tlC A6 c6 u) (by rfl) (by rfl) 27 tlZ HP10.out size27 rfl (tlC_one ..) none rfl ?_
                    intro v hbk hon
                    have HX := DoBox.made (A5 := none) (c5 := 0) HBx10.out HQ.out HP10.out HO10.out HE10.out hbk hon
                    clear hbk hon; refine hKK _ _ ?_; clear hKK KK; simp only [Act.put]
                    refine take_at (i := 12) (v := ?_) rfl (by kernel_rfl) (by kernel_rfl) (by kernel_rfl) (fun _ _ _ h => h) (some 7) rfl (Or.inl ⟨by rfl, ?_⟩) ?_
                    rotate_left 1
                    · intro w; go_simp; try with_reducible rfl
                    simp only [Act.put, List.setIfInBounds_toArray, List.set_cons_zero, List.set_cons_succ]
                    refine take_at (i := 13) (v := ?_) rfl (by kernel_rfl) (by kernel_rfl) (by kernel_rfl) (fun _ _ _ h => h) (some 8) rfl (Or.inl ⟨by rfl, ?_⟩) ?_
                    rotate_left 1
                    · intro w; go_simp; try with_reducible rfl
                    simp only [Act.put, List.setIfInBounds_toArray, List.set_cons_zero, List.set_cons_succ]
                    refine wpAny_done (by kernel_rfl) ?_ _
                    exact HSH _ _ _ _ _ _ HX
                  exact AllReady.nil
                exact AllReady.nil
              refine AllReady.cons rfl (fun KK hKK => ?_) ?_
              · skip
                go_simp
                refine hKK _ _ ?_; clear hKK KK; try simp only [Act.put, List.setIfInBounds_toArray, List.set_cons_zero, List.set_cons_succ]
                change wpAny _ _ _ _ _ _ _ (x0.alloc (.cells tlZ 27))
                have hal := (Below.refl x0.heap.size x0).alloc (Nat.le_refl _) (.cells tlZ 27)
                have HBx11 := Lib.hid ((HBx0.out).trans (hal.mono (HBx0.out).size)); have HP11 := Lib.hid (Blk.new x0 27 tlZ); have HQ := Lib.hid ((HBx0.out).size)
                clear hal
                generalize x0.alloc (.cells tlZ 27) = x11 at *
                obtain ⟨p, hp⟩ : ∃ p, p = x0.heap.size := ⟨_, rfl⟩
                rw [← hp] at HP11 HQ ⊢; clear hp
                refine wpAny_ready (rs := [0]) (by kernel_rfl) (by simp) ?_
                refine AllReady.cons rfl (fun KK hKK => ?_) ?_
                · skip
                  refine step_load (by rfl) 27 (.tmp 3) (by rfl) pt (by rfl) 27 (tlC A c t) ((F1.out.bt).below HBx11.out (F1.out.bt).lt) _ Tryd.underlying27 rfl size27 (some 27) rfl ?_
                  refine hKK _ _ ?_; clear hKK KK; simp only [Act.put, List.setIfInBounds_toArray, List.set_cons_zero, List.set_cons_succ]
                  refine wpAny_ready (rs := [5]) (by kernel_rfl) (by simp) ?_
                  refine AllReady.cons rfl (fun KK hKK => ?_) ?_
                  · skip
                    refine step_call2 (by rfl) 22 (.tmp 27) (.tmp 31) _ (by rfl) (tlV A c t) (cmV m) (by rfl) (by rfl) (fun _ _ => rfl) _ (do_as (w := x11) ((F1.out.ot).below HBx11.out).rgs HSM.out HSZ.out ((HT0.out.below F1.out.bel).below HBx11.out) HMM.out.t1 HMM.out.e1 HMM.out.c1) (some 32) rfl ?_
                    rintro e x12 ⟨A6, c6, B6, e6, rfl, ho6, he6, hb⟩
                    refine ⟨_, rfl, ?_⟩
                    have HBx12 := Lib.hid ((HBx11.out).trans (hb.mono (HBx11.out).size)); have HO12 := Lib.hid (Own.base ho6 (HBx11.out).size); have HE12 := Lib.hid (OwnE.base he6 (HBx11.out).size)
                    have HP12 := Lib.hid (HP11.out.below hb HP11.out.lt)
                    clear hb ho6 he6; refine hKK _ _ ?_; clear hKK KK; simp only [Act.put, List.setIfInBounds_toArray, List.set_cons_zero, List.set_cons_succ]
                    refine take_at (i := 6) (v := ?_) rfl (by kernel_rfl) (by kernel_rfl) (by kernel_rfl) (fun _ _ _ h => h) (some 26) rfl (Or.inl ⟨by rfl, ?_⟩) ?_
                    rotate_left 1
                    · intro w; go_simp; try with_reducible rfl
                    simp only [Act.put, List.setIfInBounds_toArray, List.set_cons_zero, List.set_cons_succ]
                    refine take_at (i := 7) (v := ?_) rfl (by kernel_rfl) (by kernel_rfl) (by kernel_rfl) (fun _ _ _ h => h) (some 33) rfl (Or.inl ⟨by rfl, ?_⟩) ?_
                    rotate_left 1
                    · intro w; go_simp; try with_reducible rfl
                    simp only [Act.put, List.setIfInBounds_toArray, List.set_cons_zero, List.set_cons_succ]
                    refine take_at (i := 8) (v := ?_) rfl (by kernel_rfl) (by kernel_rfl) (by kernel_rfl) (fun _ _ _ h => h) (some 34) rfl (Or.inl ⟨by rfl, ?_⟩) ?_
                    rotate_left 1
                    · intro w; go_simp; try with_reducible rfl
                    simp only [Act.put, List.setIfInBounds_toArray, List.set_cons_zero, List.set_cons_succ]
                    refine take_at (i := 9) (v := ?_) rfl (by kernel_rfl) (by kernel_rfl) (by kernel_rfl) (fun _ _ _ h => h) (some 35) rfl (Or.inl ⟨by rfl, ?_⟩) ?_
                    rotate_left 1
                    · intro w; go_simp; try with_reducible rfl
                    simp only [Act.put, List.setIfInBounds_toArray, List.set_cons_zero, List.set_cons_succ]
                    refine wpAny_ready (rs := [11]) (by kernel_rfl) (by simp) ?_
                    refine AllReady.cons rfl (fun KK hKK => ?_) AllReady.nil
                    refine step_store (by rfl) 27 (.tmp 6) (.tmp 33) (by rfl) _ (tlC A6 c6 u) (by rfl) (by rfl) 27 tlZ HP12.out size27 rfl (tlC_one ..) none rfl ?_
                    intro v hbk hon
                    have HX := DoBox.made (A5 := none) (c5 := 0) HBx12.out HQ.out HP12.out HO12.out HE12.out hbk hon
                    clear hbk hon; refine hKK _ _ ?_; clear hKK KK; simp only [Act.put]
                    refine take_at (i := 12) (v := ?_) rfl (by kernel_rfl) (by kernel_rfl) (by kernel_rfl) (fun _ _ _ h => h) (some 7) rfl (Or.inl ⟨by rfl, ?_⟩) ?_
                    rotate_left 1
                    · intro w; go_simp; try with_reducible rfl
                    simp only [Act.put, List.setIfInBounds_toArray, List.set_cons_zero, List.set_cons_succ]
                    refine take_at (i := 13) (v := ?_) rfl (by kernel_rfl) (by kernel_rfl) (by kernel_rfl) (fun _ _ _ h => h) (some 8) rfl (Or.inl ⟨by rfl, ?_⟩) ?_
                    rotate_left 1
                    · intro w; go_simp; try with_reducible rfl
                    simp only [Act.put, List.setIfInBounds_toArray, List.set_cons_zero, List.set_cons_succ]
                    refine wpAny_done (by kernel_rfl) ?_ _
                    exact HSH _ _ _ _ _ _ HX
                  exact AllReady.nil
                exact AllReady.nil
              exact AllReady.nil
            refine AllReady.cons rfl (fun KK hKK => ?_) ?_
            · skip
              go_simp
              refine hKK _ _ ?_; clear hKK KK; try simp only [Act.put, List.setIfInBounds_toArray, List.set_cons_zero, List.set_cons_succ]
              change wpAny _ _ _ _ _ _ _ (x0.alloc (.cells tlZ 27))
              have hal := (Below.refl x0.heap.size x0).alloc (Nat.le_refl _) (.cells tlZ 27)
              have HBx13 := Lib.hid ((HBx0.out).trans (hal.mono (HBx0.out).size)); have HP13 := Lib.hid (Blk.new x0 27 tlZ); have HQ := Lib.hid ((HBx0.out).size)
              clear hal
              generalize x0.alloc (.cells tlZ 27) = x13 at *
              obtain ⟨p, hp⟩ : ∃ p, p = x0.heap.size := ⟨_, rfl⟩
              rw [← hp] at HP13 HQ ⊢; clear hp
              refine wpAny_ready (rs := [0, 4]) (by kernel_rfl) (by simp) ?_
              refine AllReady.cons rfl (fun KK hKK => ?_) ?_
              · skip
                refine step_load (by rfl) 27 (.tmp 3) (by rfl) pt (by rfl) 27 (tlC A c t) ((F1.out.bt).below HBx13.out (F1.out.bt).lt) _ Tryd.underlying27 rfl size27 (some 27) rfl ?_
                refine hKK _ _ ?_; clear hKK KK; simp only [Act.put, List.setIfInBounds_toArray, List.set_cons_zero, List.set_cons_succ]
                refine wpAny_ready (rs := [4]) (by kernel_rfl) (by simp) ?_
                refine AllReady.cons rfl (fun KK hKK => ?_) ?_
                · skip
                  refine step_load_at (by rfl) 37 (.tmp 30) (by rfl) b (o + k * 14) (by rfl) (cmC m) (HRW.out _ (HCH.out.trans ((HBx13.out).mono HCH.out.size))) _ Tryd.underlying37 rfl size37 (some 31) rfl ?_
                  refine hKK _ _ ?_; clear hKK KK; simp only [Act.put, List.setIfInBounds_toArray, List.set_cons_zero, List.set_cons_succ]
                  refine wpAny_ready (rs := [5]) (by kernel_rfl) (by simp) ?_
                  refine AllReady.cons rfl (fun KK hKK => ?_) ?_
                  · skip
                    refine step_call2 (by rfl) 22 (.tmp 27) (.tmp 31) _ (by rfl) (tlV A c t) (cmV m) (by rfl) (by rfl) (fun _ _ => rfl) _ (do_as (w := x13) ((F1.out.ot).below HBx13.out).rgs HSM.out HSZ.out ((HT0.out.below F1.out.bel).below HBx13.out) HMM.out.t1 HMM.out.e1 HMM.out.c1) (some 32) rfl ?_
                    rintro e x14 ⟨A6, c6, B6, e6, rfl, ho6, he6, hb⟩
                    refine ⟨_, rfl, ?_⟩
                    have HBx14 := Lib.hid ((HBx13.out).trans (hb.mono (HBx13.out).size)); have HO14 := Lib.hid (Own.base ho6 (HBx13.out).size); have HE14 := Lib.hid (OwnE.base he6 (HBx13.out).size)
                    have HP14 := Lib.hid (HP13.out.below hb HP13.out.lt)
                    clear hb ho6 he6; refine hKK _ _ ?_; clear hKK KK; simp only [Act.put, List.setIfInBounds_toArray, List.set_cons_zero, List.set_cons_succ]
                    refine take_at (i := 6) (v := ?_) rfl (by kernel_rfl) (by kernel_rfl) (by kernel_rfl) (fun _ _ _ h => h) (some 26) rfl (Or.inl ⟨by rfl, ?_⟩) ?_
                    rotate_left 1
                    · intro w; go_simp; try with_reducible rfl
                    simp only [Act.put, List.setIfInBounds_toArray, List.set_cons_zero, List.set_cons_succ]
                    refine take_at (i := 7) (v := ?_) rfl (by kernel_rfl) (by kernel_rfl) (by kernel_rfl) (fun _ _ _ h => h) (some 33) rfl (Or.inl ⟨by rfl, ?_⟩) ?_
                    rotate_left 1
                    · intro w; go_simp; try with_reducible rfl
                    simp only [Act.put, List.setIfInBounds_toArray, List.set_cons_zero, List.set_cons_succ]
                    refine take_at (i := 8) (v := ?_) rfl (by kernel_rfl) (by kernel_rfl) (by kernel_rfl) (fun _ _ _ h => h) (some 34) rfl (Or.inl ⟨by rfl, ?_⟩) ?_
                    rotate_left 1
                    · intro w; go_simp; try with_reducible rfl
                    simp only [Act.put, List.setIfInBounds_toArray, List.set_cons_zero, List.set_cons_succ]
                    refine take_at (i := 9) (v := ?_) rfl (by kernel_rfl) (by kernel_rfl) (by kernel_rfl) (fun _ _ _ h => h) (some 35) rfl (Or.inl ⟨by rfl, ?_⟩) ?_
                    rotate_left 1
                    · intro w; go_simp; try with_reducible rfl
                    simp only [Act.put, List.setIfInBounds_toArray, List.set_cons_zero, List.set_cons_succ]
                    refine wpAny_ready (rs := [11]) (by kernel_rfl) (by simp) ?_
                    refine AllReady.cons rfl (fun KK hKK => ?_) AllReady.nil
                    refine step_store (by rfl) 27 (.tmp 6) (.tmp 33) (by rfl) _ (tlC A6 c6 u) (by rfl) (by rfl) 27 tlZ HP14.out size27 rfl (tlC_one ..) none rfl ?_
                    intro v hbk hon
                    have HX := DoBox.made (A5 := none) (c5 := 0) HBx14.out HQ.out HP14.out HO14.out HE14.out hbk hon
                    clear hbk hon; refine hKK _ _ ?_; clear hKK KK; simp only [Act.put]
                    refine take_at (i := 12) (v := ?_) rfl (by kernel_rfl) (by kernel_rfl) (by kernel_rfl) (fun _ _ _ h => h) (some 7) rfl (Or.inl ⟨by rfl, ?_⟩) ?_
                    rotate_left 1
                    · intro w; go_simp; try with_reducible rfl
                    simp only [Act.put, List.setIfInBounds_toArray, List.set_cons_zero, List.set_cons_succ]
                    refine take_at (i := 13) (v := ?_) rfl (by kernel_rfl) (by kernel_rfl) (by kernel_rfl) (fun _ _ _ h => h) (some 8) rfl (Or.inl ⟨by rfl, ?_⟩) ?_
                    rotate_left 1
                    · intro w; go_simp; try with_reducible rfl
                    simp only [Act.put, List.setIfInBounds_toArray, List.set_cons_zero, List.set_cons_succ]
                    refine wpAny_done (by kernel_rfl) ?_ _
                    exact HSH _ _ _ _ _ _ HX
                  exact AllReady.nil
                exact AllReady.nil
              refine AllReady.cons rfl (fun KK hKK => ?_) ?_
              · skip
                refine step_load_at (by rfl) 37 (.tmp 30) (by rfl) b (o + k * 14) (by rfl) (cmC m) (HRW.out _ (HCH.out.trans ((HBx13.out).mono HCH.out.size))) _ Tryd.underlying37 rfl size37 (some 31) rfl ?_
                refine hKK _ _ ?_; clear hKK KK; simp only [Act.put, List.setIfInBounds_toArray, List.set_cons_zero, List.set_cons_succ]
                refine wpAny_ready (rs := [0]) (by kernel_rfl) (by simp) ?_
                refine AllReady.cons rfl (fun KK hKK => ?_) ?_
                · skip
                  refine step_load (by rfl) 27 (.tmp 3) (by rfl) pt (by rfl) 27 (tlC A c t) ((F1.out.bt).below HBx13.out (F1.out.bt).lt) _ Tryd.underlying27 rfl size27 (some 27) rfl ?_
                  refine hKK _ _ ?_; clear hKK KK; simp only [Act.put, List.setIfInBounds_toArray, List.set_cons_zero, List.set_cons_succ]
                  refine wpAny_ready (rs := [5]) (by kernel_rfl) (by simp) ?_
                  refine AllReady.cons rfl (fun KK hKK => ?_) ?_
                  · skip
                    refine step_call2 (by rfl) 22 (.tmp 27) (.tmp 31) _ (by rfl) (tlV A c t) (cmV m) (by rfl) (by rfl) (fun _ _ => rfl) _ (do_as (w := x13) ((F1.out.ot).below HBx13.out).rgs HSM.out HSZ.out ((HT0.out.below F1.out.bel).below HBx13.out) HMM.out.t1 HMM.out.e1 HMM.out.c1) (some 32) rfl ?_
                    rintro e x15 ⟨A6, c6, B6, e6, rfl, ho6, he6, hb⟩
                    refine ⟨_, rfl, ?_⟩
                    have HBx15 := Lib.hid ((HBx13.out).trans (hb.mono (HBx13.out).size)); have HO15 := Lib.hid (Own.base ho6 (HBx13.out).size); have HE15 := Lib.hid (OwnE.base he6 (HBx13.out).size)
                    have HP15 := Lib.hid (HP13.out.below hb HP13.out.lt)
                    clear hb ho6 he6; refine hKK _ _ ?_; clear hKK KK; simp only [Act.put, List.setIfInBounds_toArray, List.set_cons_zero, List.set_cons_succ]
                    refine take_at (i := 6) (v := ?_) rfl (by kernel_rfl) (by kernel_rfl) (by kernel_rfl) (fun _ _ _ h => h) (some 26) rfl (Or.inl ⟨by rfl, ?_⟩) ?_
                    rotate_left 1
                    · intro w; go_simp; try with_reducible rfl
                    simp only [Act.put, List.setIfInBounds_toArray, List.set_cons_zero, List.set_cons_succ]
                    refine take_at (i := 7) (v := ?_) rfl (by kernel_rfl) (by kernel_rfl) (by kernel_rfl) (fun _ _ _ h => h) (some 33) rfl (Or.inl ⟨by rfl, ?_⟩) ?_
                    rotate_left 1
                    · intro w; go_simp; try with_reducible rfl
                    simp only [Act.put, List.setIfInBounds_toArray, List.set_cons_zero, List.set_cons_succ]
                    refine take_at (i := 8) (v := ?_) rfl (by kernel_rfl) (by kernel_rfl) (by kernel_rfl) (fun _ _ _ h => h) (some 34) rfl (Or.inl ⟨by rfl, ?_⟩) ?_
                    rotate_left 1
                    · intro w; go_simp; try with_reducible rfl
                    simp only [Act.put, List.setIfInBounds_toArray, List.set_cons_zero, List.set_cons_succ]
                    refine take_at (i := 9) (v := ?_) rfl (by kernel_rfl) (by kernel_rfl) (by kernel_rfl) (fun _ _ _ h => h) (some 35) rfl (Or.inl ⟨by rfl, ?_⟩) ?_
                    rotate_left 1
                    · intro w; go_simp; try with_reducible rfl
                    simp only [Act.put, List.setIfInBounds_toArray, List.set_cons_zero, List.set_cons_succ]
                    refine wpAny_ready (rs := [11]) (by kernel_rfl) (by simp) ?_
                    refine AllReady.cons rfl (fun KK hKK => ?_) AllReady.nil
                    refine step_store (by rfl) 27 (.tmp 6) (.tmp 33) (by rfl) _ (tlC A6 c6 u) (by rfl) (by rfl) 27 tlZ HP15.out size27 rfl (tlC_one ..) none rfl ?_
                    intro v hbk hon
                    have HX := DoBox.made (A5 := none) (c5 := 0) HBx15.out HQ.out HP15.out HO15.out HE15.out hbk hon
                    clear hbk hon; refine hKK _ _ ?_; clear hKK KK; simp only [Act.put]
                    refine take_at (i := 12) (v := ?_) rfl (by kernel_rfl) (by kernel_rfl) (by kernel_rfl) (fun _ _ _ h => h) (some 7) rfl (Or.inl ⟨by rfl, ?_⟩) ?_
                    rotate_left 1
                    · intro w; go_simp; try with_reducible rfl
                    simp only [Act.put, List.setIfInBounds_toArray, List.set_cons_zero, List.set_cons_succ]
                    refine take_at (i := 13) (v := ?_) rfl (by kernel_rfl) (by kernel_rfl) (by kernel_rfl) (fun _ _ _ h => h) (some 8) rfl (Or.inl ⟨by rfl, ?_⟩) ?_
                    rotate_left 1
                    · intro w; go_simp; try with_reducible rfl
                    simp only [Act.put, List.setIfInBounds_toArray, List.set_cons_zero, List.set_cons_succ]
                    refine wpAny_done (by kernel_rfl) ?_ _
                    exact HSH _ _ _ _ _ _ HX
                  exact AllReady.nil
                exact AllReady.nil
              exact AllReady.nil
            exact AllReady.nil
          intro v2 pU A6 c6 B6 e6 HFX
          obtain ⟨hb, hp, hbk, ho, he⟩ := HFX
          have F2 := Lib.hid (F1.out.below hb); have HDB2 := Lib.hid hbk; have HO2 := Lib.hid ho; have HE2 := Lib.hid he
          have HU := Lib.hid (show pq < pU from Nat.lt_of_lt_of_le F1.out.bq.lt hp); have HN2 := Lib.hid (show pq < v1.heap.size from F1.out.bq.lt); have HN2b := Lib.hid hb.size
          have HC2 := Lib.hid (HCH.out.trans (hb.mono HCH.out.size))
          refine hKRx _ _ ?_
          clear hb hp hbk ho he hKRx KRx HCH
          have HCH := Lib.hid HC2.out
          clear HC2
          go_upto_region 8 with (fail)
          have HBy0 := Lib.hid (show Below v2.heap.size v2 v2.drew from (Below.refl _ _).drew)
          refine wp_region_any (by kernel_rfl) ?_
          change wpAny _ _ _ _ _ _ _ (World.drew v2)
          rename_i KRy hKRy
          generalize v2.drew = y0 at *
          apply share6 (TdBox v2 u ev cd)
          · intro HSH
            refine take_at (i := 1) (v := ?_) rfl (by kernel_rfl) (by kernel_rfl) (by kernel_rfl) (fun _ _ _ h => h) (some 37) rfl (Or.inl ⟨by rfl, ?_⟩) ?_
            rotate_left 1
            · intro w; go_simp; try with_reducible rfl
            simp only [Act.put, List.setIfInBounds_toArray, List.set_cons_zero, List.set_cons_succ]
            refine take_at (i := 2) (v := ?_) rfl (by kernel_rfl) (by kernel_rfl) (by kernel_rfl) (fun _ _ _ h => h) (some 38) rfl (Or.inl ⟨by rfl, ?_⟩) ?_
            rotate_left 1
            · intro w; go_simp; try with_reducible rfl
            simp only [Act.put, List.setIfInBounds_toArray, List.set_cons_zero, List.set_cons_succ]
            refine take_at (i := 3) (v := ?_) rfl (by kernel_rfl) (by kernel_rfl) (by kernel_rfl) (fun _ _ _ h => h) (some 39) rfl (Or.inl ⟨by rfl, ?_⟩) ?_
            rotate_left 1
            · intro w; go_simp; try with_reducible rfl
            simp only [Act.put, List.setIfInBounds_toArray, List.set_cons_zero, List.set_cons_succ]
            refine wpAny_ready (rs := [0, 4, 6]) (by kernel_rfl) (by simp) ?_
            refine AllReady.cons rfl (fun KK hKK => ?_) ?_
            · skip
              refine step_load (by rfl) 27 (.tmp 4) (by rfl) pq (by rfl) 27 (tlC A' c' t) ((F2.out.bq).below HBy0.out (F2.out.bq).lt) _ Tryd.underlying27 rfl size27 (some 36) rfl ?_
              refine hKK _ _ ?_; clear hKK KK; simp only [Act.put, List.setIfInBounds_toArray, List.set_cons_zero, List.set_cons_succ]
              refine wpAny_ready (rs := [4, 6]) (by kernel_rfl) (by simp) ?_
              refine AllReady.cons rfl (fun KK hKK => ?_) ?_
              · skip
                refine step_load_at (by rfl) 37 (.tmp 39) (by rfl) b (o + k * 14) (by rfl) (cmC m) (HRW.out _ (HCH.out.trans ((HBy0.out).mono HCH.out.size))) _ Tryd.underlying37 rfl size37 (some 40) rfl ?_
                refine hKK _ _ ?_; clear hKK KK; simp only [Act.put, List.setIfInBounds_toArray, List.set_cons_zero, List.set_cons_succ]
                refine wpAny_ready (rs := [5, 6]) (by kernel_rfl) (by simp) ?_
                refine AllReady.cons rfl (fun KK hKK => ?_) ?_
                · skip
                  refine step_call2 (by rfl) 23 (.tmp 36) (.tmp 40) _ (by rfl) (tlV A' c' t) (cmV m) (by rfl) (by rfl) (fun _ _ => rfl) _ (refDo_as (w := y0) (A := A') (c := c') ((F2.out.oq).below HBy0.out).rgs HSM.out.1 HSZ.out HMM.out.t1 HMM.out.e1 HMM.out.c1) (some 41) rfl ?_
                  rintro e y1 ⟨A6, c6, B6, e6, rfl, ho6, he6, hb⟩
                  refine ⟨_, rfl, ?_⟩
                  have HBy1 := Lib.hid ((HBy0.out).trans (hb.mono (HBy0.out).size)); have HO1 := Lib.hid (Own.base ho6 (HBy0.out).size); have HE1 := Lib.hid (OwnE.base he6 (HBy0.out).size)
                  clear hb ho6 he6; refine hKK _ _ ?_; clear hKK KK; simp only [Act.put, List.setIfInBounds_toArray, List.set_cons_zero, List.set_cons_succ]
                  refine wpAny_ready (rs := [6]) (by kernel_rfl) (by simp) ?_
                  refine AllReady.cons rfl (fun KK hKK => ?_) ?_
                  · skip
                    go_simp
                    refine hKK _ _ ?_; clear hKK KK; try simp only [Act.put, List.setIfInBounds_toArray, List.set_cons_zero, List.set_cons_succ]
                    change wpAny _ _ _ _ _ _ _ (y1.alloc (.cells tdZ 43))
                    have hal := (Below.refl y1.heap.size y1).alloc (Nat.le_refl _) (.cells tdZ 43)
                    have HBy2 := Lib.hid ((HBy1.out).trans (hal.mono (HBy1.out).size)); have HP2 := Lib.hid (Blk.new y1 43 tdZ); have HQ := Lib.hid ((HBy1.out).size)
                    have HO2 := Lib.hid (HO1.out.below hal); have HE2 := Lib.hid (HE1.out.below hal)
                    clear hal
                    generalize y1.alloc (.cells tdZ 43) = y2 at *
                    obtain ⟨p, hp⟩ : ∃ p, p = y1.heap.size := ⟨_, rfl⟩
                    rw [← hp] at HP2 HQ ⊢; clear hp
                    refine wpAny_ready (rs := [7]) (by kernel_rfl) (by simp) ?_
                    refine AllReady.cons rfl (fun KK hKK => ?_) AllReady.nil
                    refine step_store (by rfl) 43 (.tmp 9) (.tmp 41) (by rfl) _ (tdC A6 c6 u B6 e6 ev cd) (by rfl) (by rfl) 43 tdZ HP2.out size43 rfl (tdC_one ..) none rfl ?_
                    intro v hbk hon
                    have HX := TdBox.made HBy2.out HQ.out HP2.out HO2.out HE2.out hbk hon
                    clear hbk hon; refine hKK _ _ ?_; clear hKK KK; simp only [Act.put]
                    refine wpAny_done (by kernel_rfl) ?_ _
                    exact HSH _ _ _ _ _ _ HX
                  exact AllReady.nil
                refine AllReady.cons rfl (fun KK hKK => ?_) ?_
                · skip
                  go_simp
                  refine hKK _ _ ?_; clear hKK KK; try simp only [Act.put, List.setIfInBounds_toArray, List.set_cons_zero, List.set_cons_succ]
                  change wpAny _ _ _ _ _ _ _ (y0.alloc (.cells tdZ 43))
                  have hal := (Below.refl y0.heap.size y0).alloc (Nat.le_refl _) (.cells tdZ 43)
                  have HBy3 := Lib.hid ((HBy0.out).trans (hal.mono (HBy0.out).size)); have HP3 := Lib.hid (Blk.new y0 43 tdZ); have HQ := Lib.hid ((HBy0.out).size)
                  clear hal
                  generalize y0.alloc (.cells tdZ 43) = y3 at *
                  obtain ⟨p, hp⟩ : ∃ p, p = y0.heap.size := ⟨_, rfl⟩
                  rw [← hp] at HP3 HQ ⊢; clear hp
                  refine wpAny_ready (rs := [5]) (by kernel_rfl) (by simp) ?_
                  refine AllReady.cons rfl (fun KK hKK => ?_) ?_
                  · skip
                    refine step_call2 (by rfl) 23 (.tmp 36) (.tmp 40) _ (by rfl) (tlV A' c' t) (cmV m) (by rfl) (by rfl) (fun _ _ => rfl) _ (refDo_as (w := y3) (A := A') (c := c') ((F2.out.oq).below HBy3.out).rgs HSM.out.1 HSZ.out HMM.out.t1 HMM.out.e1 HMM.out.c1) (some 41) rfl ?_
                    rintro e y4 ⟨A6, c6, B6, e6, rfl, ho6, he6, hb⟩
                    refine ⟨_, rfl, ?_⟩
                    have HBy4 := Lib.hid ((HBy3.out).trans (hb.mono (HBy3.out).size)); have HO4 := Lib.hid (Own.base ho6 (HBy3.out).size); have HE4 := Lib.hid (OwnE.base he6 (HBy3.out).size)
                    have HP4 := Lib.hid (HP3.out.below hb HP3.out.lt)
                    clear hb ho6 he6; refine hKK _ _ ?_; clear hKK KK; simp only [Act.put, List.setIfInBounds_toArray, List.set_cons_zero, List.set_cons_succ]
                    refine wpAny_ready (rs := [7]) (by kernel_rfl) (by simp) ?_
                    refine AllReady.cons rfl (fun KK hKK => ?_) AllReady.nil
                    refine step_store (by rfl) 43 (.tmp 9) (.tmp 41) (by rfl) _ (tdC A6 c6 u B6 e6 ev cd) (by rfl) (by rfl) 43 tdZ HP4.out size43 rfl (tdC_one ..) none rfl ?_
                    intro v hbk hon
                    have HX := TdBox.made HBy4.out HQ.out HP4.out HO4.out HE4.out hbk hon
                    clear hbk hon; refine hKK _ _ ?_; clear hKK KK; simp only [Act.put]
                    refine wpAny_done (by kernel_rfl) ?_ _
                    exact HSH _ _ _ _ _ _ HX
                  exact AllReady.nil
                exact AllReady.nil
              refine AllReady.cons rfl (fun KK hKK => ?_) ?_
              · skip
                go_simp
                refine hKK _ _ ?_; clear hKK KK; try simp only [Act.put, List.setIfInBounds_toArray, List.set_cons_zero, List.set_cons_succ]
                change wpAny _ _ _ _ _ _ _ (y0.alloc (.cells tdZ 43))
                have hal := (Below.refl y0.heap.size y0).alloc (Nat.le_refl _) (.cells tdZ 43)
                have HBy5 := Lib.hid ((HBy0.out).trans (hal.mono (HBy0.out).size)); have HP5 := Lib.hid (Blk.new y0 43 tdZ); have HQ := Lib.hid ((HBy0.out).size)
                clear hal
                generalize y0.alloc (.cells tdZ 43) = y5 at *
                obtain ⟨p, hp⟩ : ∃ p, p = y0.heap.size := ⟨_, rfl⟩
                rw [← hp] at HP5 HQ ⊢; clear hp
                refine wpAny_ready (rs := [4]) (by kernel_rfl) (by simp) ?_
                refine AllReady.cons rfl (fun KK hKK => ?_) ?_
                · skip
                  refine step_load_at (by rfl) 37 (.tmp 39) (by rfl) b (o + k * 14) (by rfl) (cmC m) (HRW.out _ (HCH.out.trans ((HBy5.out).mono HCH.out.size))) _ Tryd.underlying37 rfl size37 (some 40) rfl ?_
                  refine hKK _ _ ?_; clear hKK KK; simp only [Act.put, List.setIfInBounds_toArray, List.set_cons_zero, List.set_cons_succ]
                  refine wpAny_ready (rs := [5]) (by kernel_rfl) (by simp) ?_
                  refine AllReady.cons rfl (fun KK hKK => ?_) ?_
                  · skip
                    refine step_call2 (by rfl) 23 (.tmp 36) (.tmp 40) _ (by rfl) (tlV A' c' t) (cmV m) (by rfl) (by rfl) (fun _ _ => rfl) _ (refDo_as (w := y5) (A := A') (c := c') ((F2.out.oq).below HBy5.out).rgs HSM.out.1 HSZ.out HMM.out.t1 HMM.out.e1 HMM.out.c1) (some 41) rfl ?_
                    rintro e y6 ⟨A6, c6, B6, e6, rfl, ho6, he6, hb⟩
                    refine ⟨_, rfl, ?_⟩
                    have HBy6 := Lib.hid ((HBy5.out).trans (hb.mono (HBy5.out).size)); have HO6 := Lib.hid (Own.base ho6 (HBy5.out).size); have HE6 := Lib.hid (OwnE.base he6 (HBy5.out).size)
                    have HP6 := Lib.hid (HP5.out.below hb HP5.out.lt)
                    clear hb ho6 he6; refine hKK _ _ ?_; clear hKK KK; simp only [Act.put, List.setIfInBounds_toArray, List.set_cons_zero, List.set_cons_succ]
                    refine wpAny_ready (rs := [7]) (by kernel_rfl) (by simp) ?_
                    refine AllReady.cons rfl (fun KK hKK => ?_) AllReady.nil
                    refine step_store (by rfl) 43 (.tmp 9) (.tmp 41) (by rfl) _ (tdC A6 c6 u B6 e6 ev cd) (by rfl) (by rfl) 43 tdZ HP6.out size43 rfl (tdC_one ..) none rfl ?_
                    intro v hbk hon
                    have HX := TdBox.made HBy6.out HQ.out HP6.out HO6.out HE6.out hbk hon
                    clear hbk hon; refine hKK _ _ ?_; clear hKK KK; simp only [Act.put]
                    refine wpAny_done (by kernel_rfl) ?_ _
                    exact HSH _ _ _ _ _ _ HX
                  exact AllReady.nil
                exact AllReady.nil
              exact AllReady.nil
            refine AllReady.cons rfl (fun KK hKK => ?_) ?_
            · skip
              refine step_load_at (by rfl) 37 (.tmp 39) (by rfl) b (o + k * 14) (by rfl) (cmC m) (HRW.out _ (HCH.out.trans ((HBy0.out).mono HCH.out.size))) _ Tryd.underlying37 rfl size37 (some 40) rfl ?_
              refine hKK _ _ ?_; clear hKK KK; simp only [Act.put, List.setIfInBounds_toArray, List.set_cons_zero, List.set_cons_succ]
              refine wpAny_ready (rs := [0, 6]) (by kernel_rfl) (by simp) ?_
              refine AllReady.cons rfl (fun KK hKK => ?_) ?_
              · skip
                refine step_load (by rfl) 27 (.tmp 4) (by rfl) pq (by rfl) 27 (tlC A' c' t) ((F2.out.bq).below HBy0.out (F2.out.bq).lt) _ Tryd.underlying27 rfl size27 (some 36) rfl ?_
                refine hKK _ _ ?_; clear hKK KK; simp only [Act.put, List.setIfInBounds_toArray, List.set_cons_zero, List.set_cons_succ]
                refine wpAny_ready (rs := [5, 6]) (by kernel_rfl) (by simp) ?_
                refine AllReady.cons rfl (fun KK hKK => ?_) ?_
                · skip
                  refine step_call2 (by rfl) 23 (.tmp 36) (.tmp 40) _ (by rfl) (tlV A' c' t) (cmV m) (by rfl) (by rfl) (fun _ _ => rfl) _ (refDo_as (w := y0) (A := A') (c := c') ((F2.out.oq).below HBy0.out).rgs HSM.out.1 HSZ.out HMM.out.t1 HMM.out.e1 HMM.out.c1) (some 41) rfl ?_
                  rintro e y7 ⟨A6, c6, B6, e6, rfl, ho6, he6, hb⟩
                  refine ⟨_, rfl, ?_⟩
                  have HBy7 := Lib.hid ((HBy0.out).trans (hb.mono (HBy0.out).size)); have HO7 := Lib.hid (Own.base ho6 (HBy0.out).size); have HE7 := Lib.hid (OwnE.base he6 (HBy0.out).size)
                  clear hb ho6 he6; refine hKK _ _ ?_; clear hKK KK; simp only [Act.put, List.setIfInBounds_toArray, List.set_cons_zero, List.set_cons_succ]
                  refine wpAny_ready (rs := [6]) (by kernel_rfl) (by simp) ?_
                  refine AllReady.cons rfl (fun KK hKK => ?_) ?_
                  · skip
                    go_simp
                    refine hKK _ _ ?_; clear hKK KK; try simp only [Act.put, List.setIfInBounds_toArray, List.set_cons_zero, List.set_cons_succ]
                    change wpAny _ _ _ _ _ _ _ (y7.alloc (.cells tdZ 43))
                    have hal := (Below.refl y7.heap.size y7).alloc (Nat.le_refl _) (.cells tdZ 43)
                    have HBy8 := Lib.hid ((HBy7.out).trans (hal.mono (HBy7.out).size)); have HP8 := Lib.hid (Blk.new y7 43 tdZ); have HQ := Lib.hid ((HBy7.out).size)
                    have HO8 := Lib.hid (HO7.out.below hal); have HE8 := Lib.hid (HE7.out.below hal)
                    clear hal
                    generalize y7.alloc (.cells tdZ 43) = y8 at *
                    obtain ⟨p, hp⟩ : ∃ p, p = y7.heap.size := ⟨_, rfl⟩
                    rw [← hp] at HP8 HQ ⊢; clear hp
                    refine wpAny_ready (rs := [7]) (by kernel_rfl) (by simp) ?_
                    refine AllReady.cons rfl (fun KK hKK => ?_) AllReady.nil
                    refine step_store (by rfl) 43 (.tmp 9) (.tmp 41) (by rfl) _ (tdC A6 c6 u B6 e6 ev cd) (by rfl) (by rfl) 43 tdZ HP8.out size43 rfl (tdC_one ..) none rfl ?_
                    intro v hbk hon
                    have HX := TdBox.made HBy8.out HQ.out HP8.out HO8.out HE8.out hbk hon
                    clear hbk hon; refine hKK _ _ ?_; clear hKK KK; simp only [Act.put]
                    refine wpAny_done (by kernel_rfl) ?_ _
                    exact HSH _ _ _ _ _ _ HX
                  exact AllReady.nil
                refine AllReady.cons rfl (fun KK hKK => ?_) ?_
                · skip
                  go_simp
                  refine hKK _ _ ?_; clear hKK KK; try simp only [Act.put, List.setIfInBounds_toArray, List.set_cons_zero, List.set_cons_succ]
                  change wpAny _ _ _ _ _ _ _ (y0.alloc (.cells tdZ 43))
                  have hal := (Below.refl y0.heap.size y0).alloc (Nat.le_refl _) (.cells tdZ 43)
                  have HBy9 := Lib.hid ((HBy0.out).trans (hal.mono (HBy0.out).size)); have HP9 := Lib.hid (Blk.new y0 43 tdZ); have HQ := Lib.hid ((HBy0.out).size)
                  clear hal
                  generalize y0.alloc (.cells tdZ 43) = y9 at *
                  obtain ⟨p, hp⟩ : ∃ p, p = y0.heap.size := ⟨_, rfl⟩
                  rw [← hp] at HP9 HQ ⊢; clear hp
                  refine wpAny_ready (rs := [5]) (by kernel_rfl) (by simp) ?_
                  refine AllReady.cons rfl (fun KK hKK => ?_) ?_
                  · skip
                    refine step_call2 (by rfl) 23 (.tmp 36) (.tmp 40) _ (by rfl) (tlV A' c' t) (cmV m) (by rfl) (by rfl) (fun _ _ => rfl) _ (refDo_as (w := y9) (A := A') (c := c') ((F2.out.oq).below HBy9.out).rgs HSM.out.1 HSZ.out HMM.out.t1 HMM.out.e1 HMM.out.c1) (some 41) rfl ?_
                    rintro e y10 ⟨A6, c6, B6, e6, rfl, ho6, he6, hb⟩
                    refine ⟨_, rfl, ?_⟩
                    have HBy10 := Lib.hid ((HBy9.out).trans (hb.mono (HBy9.out).size)); have HO10 := Lib.hid (Own.base ho6 (HBy9.out).size); have HE10 := Lib.hid (OwnE.base he6 (HBy9.out).size)
                    have HP10 := Lib.hid (HP9.out.below hb HP9.out.lt)
                    clear hb ho6 he6; refine hKK _ _ ?_; clear hKK KK; simp only [Act.put, List.setIfInBounds_toArray, List.set_cons_zero, List.set_cons_succ]
                    refine wpAny_ready (rs := [7]) (by kernel_rfl) (by simp) ?_
                    refine AllReady.cons rfl (fun KK hKK => ?_) AllReady.nil
                    refine step_store (by rfl) 43 (.tmp 9) (.tmp 41) (by rfl) _ (tdC A6 c6 u B6 e6 ev cd) (by rfl) (by rfl) 43 tdZ HP10.out size43 rfl (tdC_one ..) none rfl ?_
                    intro v hbk hon
                    have HX := TdBox.made HBy10.out HQ.out HP10.out HO10.out HE10.out hbk hon
                    clear hbk hon; refine hKK _ _ ?_; clear hKK KK; simp only [Act.put]
                    refine wpAny_done (by kernel_rfl) ?_ _
                    exact HSH _ _ _ _ _ _ HX
                  exact AllReady.nil
                exact AllReady.nil
              refine AllReady.cons rfl (fun KK hKK => ?_) ?_
              · skip
                go_simp
                refine hKK _ _ ?_; clear hKK KK; try simp only [Act.put, List.setIfInBounds_toArray, List.set_cons_zero, List.set_cons_succ]
                change wpAny _ _ _ _ _ _ _ (y0.alloc (.cells tdZ 43))
                have hal := (Below.refl y0.heap.size y0).alloc (Nat.le_refl _) (.cells tdZ 43)
                have HBy11 := Lib.hid ((HBy0.out).trans (hal.mono (HBy0.out).size)); have HP11 := Lib.hid (Blk.new y0 43 tdZ); have HQ := Lib.hid ((HBy0.out).size)
                clear hal
                generalize y0.alloc (.cells tdZ 43) = y11 at *
                obtain ⟨p, hp⟩ : ∃ p, p = y0.heap.size := ⟨_, rfl⟩
                rw [← hp] at HP11 HQ ⊢; clear hp
                refine wpAny_ready (rs := [0]) (by kernel_rfl) (by simp) ?_
                refine AllReady.cons rfl (fun KK hKK => ?_) ?_
                · skip
                  refine step_load (by rfl) 27 (.tmp 4) (by rfl) pq (by rfl) 27 (tlC A' c' t) ((F2.out.bq).below HBy11.out (F2.out.bq).lt) _ Tryd.underlying27 rfl size27 (some 36) rfl ?_
                  refine hKK _ _ ?_; clear hKK KK; simp only [Act.put, List.setIfInBounds_toArray, List.set_cons_zero, List.set_cons_succ]
                  refine wpAny_ready (rs := [5]) (by kernel_rfl) (by simp) ?_
                  refine AllReady.cons rfl (fun KK hKK => ?_) ?_
                  · skip
                    refine step_call2 (by rfl) 23 (.tmp 36) (.tmp 40) _ (by rfl) (tlV A' c' t) (cmV m) (by rfl) (by rfl) (fun _ _ => rfl) _ (refDo_as (w := y11) (A := A') (c := c') ((F2.out.oq).below HBy11.out).rgs HSM.out.1 HSZ.out HMM.out.t1 HMM.out.e1 HMM.out.c1) (some 41) rfl ?_
                    rintro e y12 ⟨A6, c6, B6, e6, rfl, ho6, he6, hb⟩
                    refine ⟨_, rfl, ?_⟩
                    have HBy12 := Lib.hid ((HBy11.out).trans (hb.mono (HBy11.out).size)); have HO12 := Lib.hid (Own.base ho6 (HBy11.out).size); have HE12 := Lib.hid (OwnE.base he6 (HBy11.out).size)
                    have HP12 := Lib.hid (HP11.out.below hb HP11.out.lt)
                    clear hb ho6 he6; refine hKK _ _ ?_; clear hKK KK; simp only [Act.put, List.setIfInBounds_toArray, List.set_cons_zero, List.set_cons_succ]
                    refine wpAny_ready (rs := [7]) (by kernel_rfl) (by simp) ?_
                    refine AllReady.cons rfl (fun KK hKK => ?_) AllReady.nil
                    refine step_store (by rfl) 43 (.tmp 9) (.tmp 41) (by rfl) _ (tdC A6 c6 u B6 e6 ev cd) (by rfl) (by rfl) 43 tdZ HP12.out size43 rfl (tdC_one ..) none rfl ?_
                    intro v hbk hon
                    have HX := TdBox.made HBy12.out HQ.out HP12.out HO12.out HE12.out hbk hon
                    clear hbk hon; refine hKK _ _ ?_; clear hKK KK; simp only [Act.put]
                    refine wpAny_done (by kernel_rfl) ?_ _
                    exact HSH _ _ _ _ _ _ HX
                  exact AllReady.nil
                exact AllReady.nil
              exact AllReady.nil
            refine AllReady.cons rfl (fun KK hKK => ?_) ?_
            · skip
              go_simp
              refine hKK _ _ ?_; clear hKK KK; try simp only [Act.put, List.setIfInBounds_toArray, List.set_cons_zero, List.set_cons_succ]
              change wpAny _ _ _ _ _ _ _ (y0.alloc (.cells tdZ 43))
              have hal := (Below.refl y0.heap.size y0).alloc (Nat.le_refl _) (.cells tdZ 43)
              have HBy13 := Lib.hid ((HBy0.out).trans (hal.mono (HBy0.out).size)); have HP13 := Lib.hid (Blk.new y0 43 tdZ); have HQ := Lib.hid ((HBy0.out).size)
              clear hal
              generalize y0.alloc (.cells tdZ 43) = y13 at *
              obtain ⟨p, hp⟩ : ∃ p, p = y0.heap.size := ⟨_, rfl⟩
              rw [← hp] at HP13 HQ ⊢; clear hp
              refine wpAny_ready (rs := [0, 4]) (by kernel_rfl) (by simp) ?_
              refine AllReady.cons rfl (fun KK hKK => ?_) ?_
              · skip
                refine step_load (by rfl) 27 (.tmp 4) (by rfl) pq (by rfl) 27 (tlC A' c' t) ((F2.out.bq).below HBy13.out (F2.out.bq).lt) _ Tryd.underlying27 rfl size27 (some 36) rfl ?_
                refine hKK _ _ ?_; clear hKK KK; simp only [Act.put, List.setIfInBounds_toArray, List.set_cons_zero, List.set_cons_succ]
                refine wpAny_ready (rs := [4]) (by kernel_rfl) (by simp) ?_
                refine AllReady.cons rfl (fun KK hKK => ?_) ?_
                · skip
                  refine step_load_at (by rfl) 37 (.tmp 39) (by rfl) b (o + k * 14) (by rfl) (cmC m) (HRW.out _ (HCH.out.trans ((HBy13.out).mono HCH.out.size))) _ Tryd.underlying37 rfl size37 (some 40) rfl ?_
                  refine hKK _ _ ?_; clear hKK KK; simp only [Act.put, List.setIfInBounds_toArray, List.set_cons_zero, List.set_cons_succ]
                  refine wpAny_ready (rs := [5]) (by kernel_rfl) (by simp) ?_
                  refine AllReady.cons rfl (fun KK hKK => ?_) ?_
                  · skip
                    refine step_call2 (by rfl) 23 (.tmp 36) (.tmp 40) _ (by rfl) (tlV A' c' t) (cmV m) (by rfl) (by rfl) (fun _ _ => rfl) _ (refDo_as (w := y13) (A := A') (c := c') ((F2.out.oq).below HBy13.out).rgs HSM.out.1 HSZ.out HMM.out.t1 HMM.out.e1 HMM.out.c1) (some 41) rfl ?_
                    rintro e y14 ⟨A6, c6, B6, e6, rfl, ho6, he6, hb⟩
                    refine ⟨_, rfl, ?_⟩
                    have HBy14 := Lib.hid ((HBy13.out).trans (hb.mono (HBy13.out).size)); have HO14 := Lib.hid (Own.base ho6 (HBy13.out).size); have HE14 := Lib.hid (OwnE.base he6 (HBy13.out).size)
                    have HP14 := Lib.hid (HP13.out.below hb HP13.out.lt)
                    clear hb ho6 he6; refine hKK _ _ ?_; clear hKK KK; simp only [Act.put, List.setIfInBounds_toArray, List.set_cons_zero, List.set_cons_succ]
                    refine wpAny_ready (rs := [7]) (by kernel_rfl) (by simp) ?_
                    refine AllReady.cons rfl (fun KK hKK => ?_) AllReady.nil
                    refine step_store (by rfl) 43 (.tmp 9) (.tmp 41) (by rfl) _ (tdC A6 c6 u B6 e6 ev cd) (by rfl) (by rfl) 43 tdZ HP14.out size43 rfl (tdC_one ..) none rfl ?_
                    intro v hbk hon
                    have HX := TdBox.made HBy14.out HQ.out HP14.out HO14.out HE14.out hbk hon
                    clear hbk hon; refine hKK _ _ ?_; clear hKK KK; simp only [Act.put]
                    refine wpAny_done (by kernel_rfl) ?_ _
                    exact HSH _ _ _ _ _ _ HX
                  exact AllReady.nil
                exact AllReady.nil
              refine AllReady.cons rfl (fun KK hKK => ?_) ?_
              · skip
                refine step_load_at (by rfl) 37 (.tmp 39) (by rfl) b (o + k * 14) (by rfl) (cmC m) (HRW.out _ (HCH.out.trans ((HBy13.out).mono HCH.out.size))) _ Tryd.underlying37 rfl size37 (some 40) rfl ?_
                refine hKK _ _ ?_; clear hKK KK; simp only [Act.put, List.setIfInBounds_toArray, List.set_cons_zero, List.set_cons_succ]
                refine wpAny_ready (rs := [0]) (by kernel_rfl) (by simp) ?_
                refine AllReady.cons rfl (fun KK hKK => ?_) ?_
                · skip
                  refine step_load (by rfl) 27 (.tmp 4) (by rfl) pq (by rfl) 27 (tlC A' c' t) ((F2.out.bq).below HBy13.out (F2.out.bq).lt) _ Tryd.underlying27 rfl size27 (some 36) rfl ?_
                  refine hKK _ _ ?_; clear hKK KK; simp only [Act.put, List.setIfInBounds_toArray, List.set_cons_zero, List.set_cons_succ]
                  refine wpAny_ready (rs := [5]) (by kernel_rfl) (by simp) ?_
                  refine AllReady.cons rfl (fun KK hKK => ?_) ?_
                  · skip
                    refine step_call2 (by rfl) 23 (.tmp 36) (.tmp 40) _ (by rfl) (tlV A' c' t) (cmV m) (by rfl) (by rfl) (fun _ _ => rfl) _ (refDo_as (w := y13) (A := A') (c := c') ((F2.out.oq).below HBy13.out).rgs HSM.out.1 HSZ.out HMM.out.t1 HMM.out.e1 HMM.out.c1) (some 41) rfl ?_
                    rintro e y15 ⟨A6, c6, B6, e6, rfl, ho6, he6, hb⟩
                    refine ⟨_, rfl, ?_⟩
                    have HBy15 := Lib.hid ((HBy13.out).trans (hb.mono (HBy13.out).size)); have HO15 := Lib.hid (Own.base ho6 (HBy13.out).size); have HE15 := Lib.hid (OwnE.base he6 (HBy13.out).size)
                    have HP15 := Lib.hid (HP13.out.below hb HP13.out.lt)
                    clear hb ho6 he6; refine hKK _ _ ?_; clear hKK KK; simp only [Act.put, List.setIfInBounds_toArray, List.set_cons_zero, List.set_cons_succ]
                    refine wpAny_ready (rs := [7]) (by kernel_rfl) (by simp) ?_
                    refine AllReady.cons rfl (fun KK hKK => ?_) AllReady.nil
                    refine step_store (by rfl) 43 (.tmp 9) (.tmp 41) (by rfl) _ (tdC A6 c6 u B6 e6 ev cd) (by rfl) (by rfl) 43 tdZ HP15.out size43 rfl (tdC_one ..) none rfl ?_
                    intro v hbk hon
                    have HX := TdBox.made HBy15.out HQ.out HP15.out HO15.out HE15.out hbk hon
                    clear hbk hon; refine hKK _ _ ?_; clear hKK KK; simp only [Act.put]
                    refine wpAny_done (by kernel_rfl) ?_ _
                    exact HSH _ _ _ _ _ _ HX
                  exact AllReady.nil
                exact AllReady.nil
              exact AllReady.nil
            exact AllReady.nil
          intro v3 pQ A7 c7 B7 e7 HFX
          obtain ⟨hb, hp, hbk, ho, he⟩ := HFX
          have F3 := Lib.hid (F2.out.below hb); have HDB3 := Lib.hid (HDB2.out.below hb HDB2.out.lt); have HO3 := Lib.hid (HO2.out.below hb); have HE3 := Lib.hid (HE2.out.below hb).evs
          have HTB3 := Lib.hid hbk; have HOT3 := Lib.hid (Own.base ho HN2b.out); have HET3 := Lib.hid he.evs
          have HQ3 := Lib.hid (show pq < pQ from Nat.lt_of_lt_of_le F2.out.bq.lt hp)
          refine hKRy _ _ ?_
          clear hb hp hbk ho he hKRy KRy HCH HO2 HE2 HDB2
          have hcd : (cd == cd) = true := by simp
          have hcdn : (cd != cd) = false := by simp
          have HLE := Lib.hid (show ev.length ≤ 100000 from Nat.le_trans HMM.out.ln (by decide))
          have HLU := Lib.hid (show u.rs.length ≤ 100000 from Nat.le_trans (goodB_iff.1 HGU.out).small.1 (by decide))
          have HGD := Lib.hid (fun v (h1 : Rgs v A6 u.rs) => good_any A6 c6 u v h1 (Nat.le_trans (goodB_iff.1 HGU.out).small.1 (by decide)))
          rw [HGU.out] at HGD
          have u0 : v3.cell? ⟨pU, 0, none⟩ = some (.slice A6 u.rs.length c6) := HDB3.out.cell 0
          have u1 : v3.cell? ⟨pU, 1, none⟩ = some (.int .i64 u.ty) := HDB3.out.cell 1
          have u2 : v3.cell? ⟨pU, 2, none⟩ = some (.string u.ho) := HDB3.out.cell 2
          have u3 : v3.cell? ⟨pU, 3, none⟩ = some (.int .u32 u.ge) := HDB3.out.cell 3
          have u4 : v3.cell? ⟨pU, 4, none⟩ = some (.bool u.ap) := HDB3.out.cell 4
          have q0 : v3.cell? ⟨pQ, 0, none⟩ = some (.slice A7 u.rs.length c7) := HTB3.out.cell 0
          have q1 : v3.cell? ⟨pQ, 1, none⟩ = some (.int .i64 u.ty) := HTB3.out.cell 1
          have q2 : v3.cell? ⟨pQ, 2, none⟩ = some (.string u.ho) := HTB3.out.cell 2
          have q3 : v3.cell? ⟨pQ, 3, none⟩ = some (.int .u32 u.ge) := HTB3.out.cell 3
          have q4 : v3.cell? ⟨pQ, 4, none⟩ = some (.bool u.ap) := HTB3.out.cell 4
          have q5 : v3.cell? ⟨pQ, 5, none⟩ = some (.slice B7 ev.length e7) := HTB3.out.cell 5
          have q6 : v3.cell? ⟨pQ, 6, none⟩ = some (.int .i64 cd) := HTB3.out.cell 6
          go_wp2_with (fail)
          refine (tables_same A6 A7 c6 c7 u v3 HO3.out.rgs HOT3.out.rgs HLU.out).mono ?_; rintro e v4 ⟨rfl, hb⟩
          have F4 := Lib.hid (F3.out.below hb); have HDB4 := Lib.hid (HDB3.out.below hb HDB3.out.lt); have HTB4 := Lib.hid (HTB3.out.below hb HTB3.out.lt); have HO4 := Lib.hid (HO3.out.below hb); have HOT4 := Lib.hid (HOT3.out.below hb); have HE4 := Lib.hid (HE3.out.below hb); have HET4 := Lib.hid (HET3.out.below hb)
          clear hb HDB3 HTB3 HO3 HOT3 HE3 HET3 u0 u1 u2 u3 u4 q0 q1 q2 q3 q4 q5 q6
          have u0 : v4.cell? ⟨pU, 0, none⟩ = some (.slice A6 u.rs.length c6) := HDB4.out.cell 0
          have u1 : v4.cell? ⟨pU, 1, none⟩ = some (.int .i64 u.ty) := HDB4.out.cell 1
          have u2 : v4.cell? ⟨pU, 2, none⟩ = some (.string u.ho) := HDB4.out.cell 2
          have u3 : v4.cell? ⟨pU, 3, none⟩ = some (.int .u32 u.ge) := HDB4.out.cell 3
          have u4 : v4.cell? ⟨pU, 4, none⟩ = some (.bool u.ap) := HDB4.out.cell 4
          have q0 : v4.cell? ⟨pQ, 0, none⟩ = some (.slice A7 u.rs.length c7) := HTB4.out.cell 0
          have q1 : v4.cell? ⟨pQ, 1, none⟩ = some (.int .i64 u.ty) := HTB4.out.cell 1
          have q2 : v4.cell? ⟨pQ, 2, none⟩ = some (.string u.ho) := HTB4.out.cell 2
          have q3 : v4.cell? ⟨pQ, 3, none⟩ = some (.int .u32 u.ge) := HTB4.out.cell 3
          have q4 : v4.cell? ⟨pQ, 4, none⟩ = some (.bool u.ap) := HTB4.out.cell 4
          have q5 : v4.cell? ⟨pQ, 5, none⟩ = some (.slice B7 ev.length e7) := HTB4.out.cell 5
          have q6 : v4.cell? ⟨pQ, 6, none⟩ = some (.int .i64 cd) := HTB4.out.cell 6
          go_wp2_with (fail)
          refine (events_same B6 B7 e6 e7 ev v4 HE4.out HET4.out HLE.out).mono ?_; rintro e v5 ⟨rfl, hb⟩
          have F5 := Lib.hid (F4.out.below hb); have HDB5 := Lib.hid (HDB4.out.below hb HDB4.out.lt); have HTB5 := Lib.hid (HTB4.out.below hb HTB4.out.lt); have HO5 := Lib.hid (HO4.out.below hb); have HOT5 := Lib.hid (HOT4.out.below hb)
          clear hb HDB4 HTB4 HO4 HOT4 HE4 HET4 u0 u1 u2 u3 u4 q0 q1 q2 q3 q4 q5 q6
          have u0 : v5.cell? ⟨pU, 0, none⟩ = some (.slice A6 u.rs.length c6) := HDB5.out.cell 0
          have u1 : v5.cell? ⟨pU, 1, none⟩ = some (.int .i64 u.ty) := HDB5.out.cell 1
          have u2 : v5.cell? ⟨pU, 2, none⟩ = some (.string u.ho) := HDB5.out.cell 2
          have u3 : v5.cell? ⟨pU, 3, none⟩ = some (.int .u32 u.ge) := HDB5.out.cell 3
          have u4 : v5.cell? ⟨pU, 4, none⟩ = some (.bool u.ap) := HDB5.out.cell 4
          have q0 : v5.cell? ⟨pQ, 0, none⟩ = some (.slice A7 u.rs.length c7) := HTB5.out.cell 0
          have q1 : v5.cell? ⟨pQ, 1, none⟩ = some (.int .i64 u.ty) := HTB5.out.cell 1
          have q2 : v5.cell? ⟨pQ, 2, none⟩ = some (.string u.ho) := HTB5.out.cell 2
          have q3 : v5.cell? ⟨pQ, 3, none⟩ = some (.int .u32 u.ge) := HTB5.out.cell 3
          have q4 : v5.cell? ⟨pQ, 4, none⟩ = some (.bool u.ap) := HTB5.out.cell 4
          have q5 : v5.cell? ⟨pQ, 5, none⟩ = some (.slice B7 ev.length e7) := HTB5.out.cell 5
          have q6 : v5.cell? ⟨pQ, 6, none⟩ = some (.int .i64 cd) := HTB5.out.cell 6
          go_wp2_with (fail)
          refine (HGD.out v5 HO5.out.rgs).mono ?_; rintro e v6 ⟨rfl, hb⟩
          have F9 := Lib.hid (F5.out.below hb); have HDB := Lib.hid (HDB5.out.below hb HDB5.out.lt); have HTB := Lib.hid (HTB5.out.below hb HTB5.out.lt); have HO9 := Lib.hid (HO5.out.below hb); have HOT9 := Lib.hid (HOT5.out.below hb)
          clear hb HDB5 HTB5 HO5 HOT5 HGD u0 u1 u2 u3 u4 q0 q1 q2 q3 q4 q5 q6
          have HN9 := Lib.hid HN2.out
          go_upto_region 11 with (fail)
          refine wp_region_any (by kernel_rfl) ?_
          change wpAny _ _ _ _ _ _ _ (World.drew v6)
          rename_i KRz hKRz
          have Z0 := Lib.hid (St2.from F9.out HDB.out HTB.out HU.out HQ3.out)
          generalize v6.drew = z0 at *
          apply share1 (fun v => PlAt w v pt pq A6 c6 A7 c7 u)
          · intro HSH
            refine take_at (i := 1) (v := ?_) rfl (by kernel_rfl) (by kernel_rfl) (by kernel_rfl) (fun _ _ _ h => h) (some 66) rfl (Or.inl ⟨by rfl, ?_⟩) ?_
            rotate_left 1
            · intro w; go_simp; try with_reducible rfl
            simp only [Act.put, List.setIfInBounds_toArray, List.set_cons_zero, List.set_cons_succ]
            refine wpAny_ready (rs := [0, 2]) (by kernel_rfl) (by simp) ?_
            refine AllReady.cons rfl (fun KK hKK => ?_) ?_
            · skip
              refine step_load (by rfl) 27 (.tmp 6) (by rfl) pU (by rfl) 27 (tlC A6 c6 u) Z0.out.bu _ Tryd.underlying27 rfl size27 (some 65) rfl ?_
              refine hKK _ _ ?_; clear hKK KK; simp only [Act.put, List.setIfInBounds_toArray, List.set_cons_zero, List.set_cons_succ]
              refine wpAny_ready (rs := [2, 3]) (by kernel_rfl) (by simp) ?_
              refine AllReady.cons rfl (fun KK hKK => ?_) ?_
              · skip
                refine step_load_at (by rfl) 27 (.tmp 66) (by rfl) pQ 0 (by rfl) (tlC A7 c7 u) (fun j x hx => (by rw [Nat.zero_add]; exact (Z0.out.bd.cell j).trans (td_tl hx))) _ Tryd.underlying27 rfl size27 (some 67) rfl ?_
                refine hKK _ _ ?_; clear hKK KK; simp only [Act.put, List.setIfInBounds_toArray, List.set_cons_zero, List.set_cons_succ]
                refine wpAny_ready (rs := [3]) (by kernel_rfl) (by simp) ?_
                refine AllReady.cons rfl (fun KK hKK => ?_) ?_
                · skip
                  refine step_store (by rfl) 27 (.tmp 3) (.tmp 65) (by rfl) _ (tlC A6 c6 u) (by rfl) (by rfl) 27 (tlC A c t) Z0.out.bt size27 rfl (tlC_one ..) none rfl ?_
                  intro z1 hbk hon
                  have Z1 := Lib.hid (Z0.out.putT hbk hon)
                  clear hbk hon; refine hKK _ _ ?_; clear hKK KK; simp only [Act.put]
                  refine wpAny_ready (rs := [4]) (by kernel_rfl) (by simp) ?_
                  refine AllReady.cons rfl (fun KK hKK => ?_) ?_
                  · skip
                    refine step_store (by rfl) 27 (.tmp 4) (.tmp 67) (by rfl) _ (tlC A7 c7 u) (by rfl) (by rfl) 27 (tlC A' c' t) Z1.out.bq size27 rfl (tlC_one ..) none rfl ?_
                    intro z2 hbk hon
                    have Z2 := Lib.hid (Z1.out.putQ hbk hon)
                    clear hbk hon; refine hKK _ _ ?_; clear hKK KK; simp only [Act.put]
                    refine wpAny_done (by kernel_rfl) ?_ _
                    exact HSH _ (Z2.out.done F9.out HO9.out HOT9.out HN9.out)
                  exact AllReady.nil
                exact AllReady.nil
              refine AllReady.cons rfl (fun KK hKK => ?_) ?_
              · skip
                refine step_store (by rfl) 27 (.tmp 3) (.tmp 65) (by rfl) _ (tlC A6 c6 u) (by rfl) (by rfl) 27 (tlC A c t) Z0.out.bt size27 rfl (tlC_one ..) none rfl ?_
                intro z3 hbk hon
                have Z3 := Lib.hid (Z0.out.putT hbk hon)
                clear hbk hon; refine hKK _ _ ?_; clear hKK KK; simp only [Act.put]
                refine wpAny_ready (rs := [2]) (by kernel_rfl) (by simp) ?_
                refine AllReady.cons rfl (fun KK hKK => ?_) ?_
                · skip
                  refine step_load_at (by rfl) 27 (.tmp 66) (by rfl) pQ 0 (by rfl) (tlC A7 c7 u) (fun j x hx => (by rw [Nat.zero_add]; exact (Z3.out.bd.cell j).trans (td_tl hx))) _ Tryd.underlying27 rfl size27 (some 67) rfl ?_
                  refine hKK _ _ ?_; clear hKK KK; simp only [Act.put, List.setIfInBounds_toArray, List.set_cons_zero, List.set_cons_succ]
                  refine wpAny_ready (rs := [4]) (by kernel_rfl) (by simp) ?_
                  refine AllReady.cons rfl (fun KK hKK => ?_) ?_
                  · skip
                    refine step_store (by rfl) 27 (.tmp 4) (.tmp 67) (by rfl) _ (tlC A7 c7 u) (by rfl) (by rfl) 27 (tlC A' c' t) Z3.out.bq size27 rfl (tlC_one ..) none rfl ?_
                    intro z4 hbk hon
                    have Z4 := Lib.hid (Z3.out.putQ hbk hon)
                    clear hbk hon; refine hKK _ _ ?_; clear hKK KK; simp only [Act.put]
                    refine wpAny_done (by kernel_rfl) ?_ _
                    exact HSH _ (Z4.out.done F9.out HO9.out HOT9.out HN9.out)
                  exact AllReady.nil
                exact AllReady.nil
              exact AllReady.nil
            refine AllReady.cons rfl (fun KK hKK => ?_) ?_
            · skip
              refine step_load_at (by rfl) 27 (.tmp 66) (by rfl) pQ 0 (by rfl) (tlC A7 c7 u) (fun j x hx => (by rw [Nat.zero_add]; exact (Z0.out.bd.cell j).trans (td_tl hx))) _ Tryd.underlying27 rfl size27 (some 67) rfl ?_
              refine hKK _ _ ?_; clear hKK KK; simp only [Act.put, List.setIfInBounds_toArray, List.set_cons_zero, List.set_cons_succ]
              refine wpAny_ready (rs := [0]) (by kernel_rfl) (by simp) ?_
              refine AllReady.cons rfl (fun KK hKK => ?_) ?_
              · skip
                refine step_load (by rfl) 27 (.tmp 6) (by rfl) pU (by rfl) 27 (tlC A6 c6 u) Z0.out.bu _ Tryd.underlying27 rfl size27 (some 65) rfl ?_
                refine hKK _ _ ?_; clear hKK KK; simp only [Act.put, List.setIfInBounds_toArray, List.set_cons_zero, List.set_cons_succ]
                refine wpAny_ready (rs := [3]) (by kernel_rfl) (by simp) ?_
                refine AllReady.cons rfl (fun KK hKK => ?_) ?_
                · skip
                  refine step_store (by rfl) 27 (.tmp 3) (.tmp 65) (by rfl) _ (tlC A6 c6 u) (by rfl) (by rfl) 27 (tlC A c t) Z0.out.bt size27 rfl (tlC_one ..) none rfl ?_
                  intro z5 hbk hon
                  have Z5 := Lib.hid (Z0.out.putT hbk hon)
                  clear hbk hon; refine hKK _ _ ?_; clear hKK KK; simp only [Act.put]
                  refine wpAny_ready (rs := [4]) (by kernel_rfl) (by simp) ?_
                  refine AllReady.cons rfl (fun KK hKK => ?_) ?_
                  · skip
                    refine step_store (by rfl) 27 (.tmp 4) (.tmp 67) (by rfl) _ (tlC A7 c7 u) (by rfl) (by rfl) 27 (tlC A' c' t) Z5.out.bq size27 rfl (tlC_one ..) none rfl ?_
                    intro z6 hbk hon
                    have Z6 := Lib.hid (Z5.out.putQ hbk hon)
                    clear hbk hon; refine hKK _ _ ?_; clear hKK KK; simp only [Act.put]
                    refine wpAny_done (by kernel_rfl) ?_ _
                    exact HSH _ (Z6.out.done F9.out HO9.out HOT9.out HN9.out)
                  exact AllReady.nil
                exact AllReady.nil
              exact AllReady.nil
            exact AllReady.nil
          intro v7 HFX
          have FP := Lib.hid HFX
          clear HFX
          refine hKRz _ _ ?_
          clear hKRz KRz
          go_wp2_with (fail)
          go_roundw
          case rel => exact ⟨k + 1, A6, c6, A7, c7, u, by omega, by omega, by go_num, FP, Lib.hid (goodB_iff.1 HGU.out)⟩
          case measure => simp [intOf]; omega
      · have h60i : ¬ (k : Int) < 60 := by omega
        go_wp2_with (fail)
        refine (wakes_any _ (HT0.out.below HF.out.bel)).mono ?_; rintro e v2 ⟨rfl, hb⟩
        have F2 := Lib.hid (HF.out.below hb); clear hb
        go_wp2_with (fail)
        go_ret
        exact ⟨rfl, F2.out.bel⟩
    · obtain rfl : k = l.length := by omega
      go_wp2_with (fail)
      refine (wakes_any _ (HT0.out.below HF.out.bel)).mono ?_; rintro e v2 ⟨rfl, hb⟩
      have F2 := Lib.hid (HF.out.below hb); clear hb
      go_wp2_with (fail)
      go_ret
      exact ⟨rfl, F2.out.bel⟩
end Go.Proofs.YtgekadfkokkapaaDoor
