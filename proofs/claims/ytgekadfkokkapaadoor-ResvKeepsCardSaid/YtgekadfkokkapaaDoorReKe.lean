/- What is kept along every change: the statement. -/
import Derived.Test.YtgekadfkokkapaaDoorReY
import Derived.Test.YtgekadfkokkapaaDoorReKp
namespace Go.Proofs.YtgekadfkokkapaaDoor
open Go.RowKit
structure KpM (t : Tl) (m : Cm) (u : Tl) (ev : List Ev) (cd : Int) : Prop where
  t1 : doT t m = u
  e1 : doE t m = ev
  c1 : doC t m = cd
  told : ∀ x ∈ ev, eqS x.h m.ho = false ∧ keyR t.rs x.h ≠ 0
  no : cd ≠ 1 → u = t ∧ ev = []
  yes : cd = 1 → goodB t = true ∧ goodB u = true
  gen : (u.ge == t.ge) = true ∨ ((u.ge == t.ge) = false ∧ u.ge = incG t.ge)
  ln : ev.length ≤ 1000
theorem told_len {t : Tl} {m : Cm} : (doE t m).length ≤ t.rs.length := by
  have a : ∀ (y : Int) (q : Rg → Bool) (l : List Rg), (told y q l).length ≤ l.length := told_length
  have b := (outR_sub t.rs m.ho).length_le
  unfold doE
  split
  · split
    · unfold regE
      split
      · exact Nat.zero_le _
      · split
        · unfold unregE endE
          split
          · split
            · exact Nat.zero_le _
            · rw [List.nil_append]; exact Nat.le_trans (a ..) b
          · exact Nat.zero_le _
        · exact Nat.zero_le _
    split
    · exact Nat.zero_le _
    split
    · unfold relE endE
      split
      · split
        · exact Nat.zero_le _
        · rw [List.nil_append]; exact a ..
      · exact Nat.zero_le _
    split
    · unfold clearE
      split
      · rw [List.nil_append]; exact a ..
      · exact Nat.zero_le _
    · unfold preE
      split
      · rw [List.nil_append]; exact a ..
      · exact Nat.zero_le _
  · exact Nat.zero_le _
theorem kpMath {t : Tl} {m : Cm} (hN : Small t) : ∃ u ev cd, KpM t m u ev cd := by
  refine ⟨_, _, _, ⟨rfl, rfl, rfl, fun x hx => ?_, fun hc => do_not hc, fun hc => ?_, ?_, Nat.le_trans told_len (Nat.le_trans hN.1 (by decide))⟩⟩
  · obtain ⟨h1, h2, h3⟩ := do_told hx
    exact ⟨eqS_no.2 h2, (keyR_pos h1.toRegsP).2 h3⟩
  · have hd := doG_iff.1 (do_yes hc)
    exact ⟨goodB_iff.2 hd.2.1, goodB_iff.2 (do_good hd.2.1)⟩
  · cases hq : ((doT t m).ge == t.ge) with
    | true => exact .inl rfl
    | false =>
      refine .inr ⟨rfl, ?_⟩
      rcases do_gen t m with h | h
      · rw [h] at hq; simp at hq
      · exact h
/-- A table's and a command's boxes along the calls of a statement. -/
structure KxAt (w v : World) (A : Option Addr) (c : Nat) (t : Tl) (pm : Nat) (m : Cm) : Prop extends BxAt w v A c t where
  cm : Blk v pm 37 (cmC m)
theorem KxAt.below {w v v' : World} {A : Option Addr} {c : Nat} {t : Tl} {pm : Nat} {m : Cm} (h : KxAt w v A c t pm m) (hb : Below v.heap.size v v') : KxAt w v' A c t pm m :=
  ⟨h.toBxAt.below hb, h.cm.below hb h.cm.lt⟩
set_option maxRecDepth 100000 in
set_option maxHeartbeats 16000000 in
theorem keeps_any (A : Option Addr) (c : Nat) (t : Tl) (m : Cm) (w : World) (hl : Rgs w A t.rs) (hm : t.rs.length ≤ maxLen) (ht : RTab w) :
    Calls Tryd.prog 5 #[tlV A c t, cmV m] w fun e w' => e = .returned (.bool true) ∧ Below w.heap.size w w' := by
  have GB := Lib.hid (BxAt.from w A c t hl ht)
  have HM := Lib.hid hm
  have hnt := not_true
  have hnf := not_false
  clear hl hm ht
  go_enter Tryd.func5, Tryd.ntmps5
  go_upto_region 1 with (fail)
  change Code.wp _ _ _ _ ((w.alloc (.cells (tlC A c t) 27)).alloc (.cells (cmC m) 37))
  have hsz : (w.alloc (.cells (tlC A c t) 27)).heap.size = w.heap.size + 1 := by simp
  have hal := (Below.refl (w.alloc (.cells (tlC A c t) 27)).heap.size (w.alloc (.cells (tlC A c t) 27))).alloc (Nat.le_refl _) (.cells (cmC m) 37)
  have G0 := Lib.hid (KxAt.mk (pm := w.heap.size + 1) (GB.out.below hal) (by have := Blk.new (w.alloc (.cells (tlC A c t) 27)) 37 (cmC m); rw [hsz] at this; exact this))
  clear hal GB hsz
  obtain ⟨pm, hpm⟩ : ∃ pm, pm = w.heap.size + 1 := ⟨_, rfl⟩
  rw [← hpm] at G0 ⊢
  clear hpm
  generalize (w.alloc (.cells (tlC A c t) 27)).alloc (.cells (cmC m) 37) = v0 at *
  have c0 : v0.cell? ⟨w.heap.size, 0, none⟩ = some (.slice A t.rs.length c) := G0.out.b.cell 0
  have c1 : v0.cell? ⟨w.heap.size, 1, none⟩ = some (.int .i64 t.ty) := G0.out.b.cell 1
  have c2 : v0.cell? ⟨w.heap.size, 2, none⟩ = some (.string t.ho) := G0.out.b.cell 2
  have c3 : v0.cell? ⟨w.heap.size, 3, none⟩ = some (.int .u32 t.ge) := G0.out.b.cell 3
  have c4 : v0.cell? ⟨w.heap.size, 4, none⟩ = some (.bool t.ap) := G0.out.b.cell 4
  go_wp2_with (fail)
  refine (largeX_any A c t _ G0.out.l HM.out).mono ?_; rintro e v1 ⟨r, rfl, hr, hb⟩
  have G1 := Lib.hid (G0.out.below hb)
  have HR := Lib.hid hr; clear hr
  clear hb c0 c1 c2 c3 c4
  cases r with
  | true =>
    go_wp2_with (fail)
    refine (wakes_any v1 G1.out.tb).mono ?_; rintro e v2 ⟨rfl, hb⟩
    have G2 := Lib.hid (G1.out.below hb); clear hb
    go_wp2_with (fail)
    go_ret
    exact ⟨rfl, G2.out.bel⟩
  | false =>
    have HN := Lib.hid (HR.out rfl)
    clear HR
    have HLC := Lib.hid (largeC_any m v1)
    cases hlc : decide (1000 < m.ho.size) with
    | true =>
      rw [hlc] at HLC
      clear hlc
      have m0 : v1.cell? ⟨pm, 0, none⟩ = some (.int .i64 m.op) := G1.out.cm.cell 0
      have m1 : v1.cell? ⟨pm, 1, none⟩ = some (.int .i64 m.lu) := G1.out.cm.cell 1
      have m2 : v1.cell? ⟨pm, 2, none⟩ = some (.string m.ho) := G1.out.cm.cell 2
      have m3 : v1.cell? ⟨pm, 3, none⟩ = some (.int .i64 m.lb) := G1.out.cm.cell 3
      have m4 : v1.cell? ⟨pm, 4, none⟩ = some (.int .i64 m.bl) := G1.out.cm.cell 4
      have m5 : v1.cell? ⟨pm, 5, none⟩ = some (.string m.da) := G1.out.cm.cell 5
      have m6 : v1.cell? ⟨pm, 6, none⟩ = some (.bool m.fu) := G1.out.cm.cell 6
      have m7 : v1.cell? ⟨pm, 7, none⟩ = some (.slice m.rA m.rn m.rc) := G1.out.cm.cell 7
      have m8 : v1.cell? ⟨pm, 8, none⟩ = some (.int .u64 m.ke) := G1.out.cm.cell 8
      have m9 : v1.cell? ⟨pm, 9, none⟩ = some (.int .u64 m.nk) := G1.out.cm.cell 9
      have m10 : v1.cell? ⟨pm, 10, none⟩ = some (.int .u64 m.ot) := G1.out.cm.cell 10
      have m11 : v1.cell? ⟨pm, 11, none⟩ = some (.int .i64 m.ty) := G1.out.cm.cell 11
      have m12 : v1.cell? ⟨pm, 12, none⟩ = some (.bool m.ig) := G1.out.cm.cell 12
      have m13 : v1.cell? ⟨pm, 13, none⟩ = some (.int .i64 m.ap) := G1.out.cm.cell 13
      go_wp2_with (fail)
      refine HLC.out.mono ?_; rintro e v2 ⟨rfl, hb⟩
      have G2 := Lib.hid (G1.out.below hb)
      clear hb m0 m1 m2 m3 m4 m5 m6 m7 m8 m9 m10 m11 m12 m13
      go_wp2_with (fail)
      refine (wakes_any v2 G2.out.tb).mono ?_; rintro e v3 ⟨rfl, hb⟩
      have G3 := Lib.hid (G2.out.below hb); clear hb
      go_wp2_with (fail)
      go_ret
      exact ⟨rfl, G3.out.bel⟩
    | false =>
      rw [hlc] at HLC
      have HSM := Lib.hid (Nat.le_of_not_lt (of_decide_eq_false hlc))
      clear hlc
      have m0 : v1.cell? ⟨pm, 0, none⟩ = some (.int .i64 m.op) := G1.out.cm.cell 0
      have m1 : v1.cell? ⟨pm, 1, none⟩ = some (.int .i64 m.lu) := G1.out.cm.cell 1
      have m2 : v1.cell? ⟨pm, 2, none⟩ = some (.string m.ho) := G1.out.cm.cell 2
      have m3 : v1.cell? ⟨pm, 3, none⟩ = some (.int .i64 m.lb) := G1.out.cm.cell 3
      have m4 : v1.cell? ⟨pm, 4, none⟩ = some (.int .i64 m.bl) := G1.out.cm.cell 4
      have m5 : v1.cell? ⟨pm, 5, none⟩ = some (.string m.da) := G1.out.cm.cell 5
      have m6 : v1.cell? ⟨pm, 6, none⟩ = some (.bool m.fu) := G1.out.cm.cell 6
      have m7 : v1.cell? ⟨pm, 7, none⟩ = some (.slice m.rA m.rn m.rc) := G1.out.cm.cell 7
      have m8 : v1.cell? ⟨pm, 8, none⟩ = some (.int .u64 m.ke) := G1.out.cm.cell 8
      have m9 : v1.cell? ⟨pm, 9, none⟩ = some (.int .u64 m.nk) := G1.out.cm.cell 9
      have m10 : v1.cell? ⟨pm, 10, none⟩ = some (.int .u64 m.ot) := G1.out.cm.cell 10
      have m11 : v1.cell? ⟨pm, 11, none⟩ = some (.int .i64 m.ty) := G1.out.cm.cell 11
      have m12 : v1.cell? ⟨pm, 12, none⟩ = some (.bool m.ig) := G1.out.cm.cell 12
      have m13 : v1.cell? ⟨pm, 13, none⟩ = some (.int .i64 m.ap) := G1.out.cm.cell 13
      go_wp2_with (fail)
      refine HLC.out.mono ?_; rintro e v2 ⟨rfl, hb⟩
      have G2 := Lib.hid (G1.out.below hb)
      clear hb m0 m1 m2 m3 m4 m5 m6 m7 m8 m9 m10 m11 m12 m13
      obtain ⟨u, ev, cd, hM⟩ := kpMath (m := m) HN.out
      have HMM := Lib.hid hM
      clear hM
      go_upto_region 3 with (fail)
      have HBx0 := Lib.hid (show Below v2.heap.size v2 v2.drew from (Below.refl _ _).drew)
      refine wp_region_any (by kernel_rfl) ?_
      change wpAny _ _ _ _ _ _ _ (World.drew v2)
      rename_i KRx hKRx
      generalize v2.drew = x0 at *
      apply share8 (DoBox v2 (u) (ev))
      · intro HSH
        refine wpAny_ready (rs := [0, 2, 8]) (by kernel_rfl) (by simp) ?_
        refine AllReady.cons rfl (fun KK hKK => ?_) ?_
        · skip
          refine step_load (by rfl) 27 (.tmp 2) (by rfl) w.heap.size (by rfl) 27 (tlC A c t) ((G2.out.b).below HBx0.out (G2.out.b).lt) _ Tryd.underlying27 rfl size27 (some 17) rfl ?_
          refine hKK _ _ ?_; clear hKK KK; simp only [Act.put, List.setIfInBounds_toArray, List.set_cons_zero, List.set_cons_succ]
          refine wpAny_ready (rs := [1, 2, 8]) (by kernel_rfl) (by simp) ?_
          refine AllReady.cons rfl (fun KK hKK => ?_) ?_
          · skip
            refine step_call1 (by rfl) 13 (.tmp 17) _ (by rfl) (tlV A c t) (by rfl) (fun _ _ => rfl) _ (copy_any A c t x0 ((G2.out.l).below HBx0.out) (Nat.le_trans (HN.out).1 (by decide))) (some 18) rfl ?_
            rintro e x1 ⟨A5, c5, rfl, ho5, hb⟩
            refine ⟨_, rfl, ?_⟩
            have HBx1 := Lib.hid ((HBx0.out).trans (hb.mono (HBx0.out).size)); have HC1 := Lib.hid ho5.rgs
            clear hb ho5; refine hKK _ _ ?_; clear hKK KK; simp only [Act.put, List.setIfInBounds_toArray, List.set_cons_zero, List.set_cons_succ]
            refine wpAny_ready (rs := [2, 8]) (by kernel_rfl) (by simp) ?_
            refine AllReady.cons rfl (fun KK hKK => ?_) ?_
            · skip
              refine step_load (by rfl) 37 (.tmp 3) (by rfl) pm (by rfl) 37 (cmC m) ((G2.out.cm).below HBx1.out (G2.out.cm).lt) _ Tryd.underlying37 rfl size37 (some 19) rfl ?_
              refine hKK _ _ ?_; clear hKK KK; simp only [Act.put, List.setIfInBounds_toArray, List.set_cons_zero, List.set_cons_succ]
              refine wpAny_ready (rs := [3, 8]) (by kernel_rfl) (by simp) ?_
              refine AllReady.cons rfl (fun KK hKK => ?_) ?_
              · skip
                refine step_call2 (by rfl) 22 (.tmp 18) (.tmp 19) _ (by rfl) (tlV A5 c5 t) (cmV m) (by rfl) (by rfl) (fun _ _ => rfl) _ (do_as (w := x1) HC1.out (HN.out) (HSM.out) ((G2.out.tb).below HBx1.out) (HMM.out.t1) (HMM.out.e1) (HMM.out.c1)) (some 20) rfl ?_
                rintro e x2 ⟨A6, c6, B6, e6, rfl, ho6, he6, hb⟩
                refine ⟨_, rfl, ?_⟩
                have HBx2 := Lib.hid ((HBx1.out).trans (hb.mono (HBx1.out).size)); have HO2 := Lib.hid (Own.base ho6 (HBx1.out).size); have HE2 := Lib.hid (OwnE.base he6 (HBx1.out).size)
                clear hb ho6 he6; refine hKK _ _ ?_; clear hKK KK; simp only [Act.put, List.setIfInBounds_toArray, List.set_cons_zero, List.set_cons_succ]
                refine take_at (i := 4) (v := ?_) rfl (by kernel_rfl) (by kernel_rfl) (by kernel_rfl) (fun _ _ _ h => h) (some 16) rfl (Or.inl ⟨by rfl, ?_⟩) ?_
                rotate_left 1
                · intro w; go_simp; try with_reducible rfl
                simp only [Act.put, List.setIfInBounds_toArray, List.set_cons_zero, List.set_cons_succ]
                refine take_at (i := 5) (v := ?_) rfl (by kernel_rfl) (by kernel_rfl) (by kernel_rfl) (fun _ _ _ h => h) (some 21) rfl (Or.inl ⟨by rfl, ?_⟩) ?_
                rotate_left 1
                · intro w; go_simp; try with_reducible rfl
                simp only [Act.put, List.setIfInBounds_toArray, List.set_cons_zero, List.set_cons_succ]
                refine take_at (i := 6) (v := ?_) rfl (by kernel_rfl) (by kernel_rfl) (by kernel_rfl) (fun _ _ _ h => h) (some 22) rfl (Or.inl ⟨by rfl, ?_⟩) ?_
                rotate_left 1
                · intro w; go_simp; try with_reducible rfl
                simp only [Act.put, List.setIfInBounds_toArray, List.set_cons_zero, List.set_cons_succ]
                refine take_at (i := 7) (v := ?_) rfl (by kernel_rfl) (by kernel_rfl) (by kernel_rfl) (fun _ _ _ h => h) (some 23) rfl (Or.inl ⟨by rfl, ?_⟩) ?_
                rotate_left 1
                · intro w; go_simp; try with_reducible rfl
                simp only [Act.put, List.setIfInBounds_toArray, List.set_cons_zero, List.set_cons_succ]
                refine wpAny_ready (rs := [8]) (by kernel_rfl) (by simp) ?_
                refine AllReady.cons rfl (fun KK hKK => ?_) ?_
                · skip
                  go_simp
                  refine hKK _ _ ?_; clear hKK KK; try simp only [Act.put, List.setIfInBounds_toArray, List.set_cons_zero, List.set_cons_succ]
                  change wpAny _ _ _ _ _ _ _ (x2.alloc (.cells tlZ 27))
                  have hal := (Below.refl x2.heap.size x2).alloc (Nat.le_refl _) (.cells tlZ 27)
                  have HBx3 := Lib.hid ((HBx2.out).trans (hal.mono (HBx2.out).size)); have HP3 := Lib.hid (Blk.new x2 27 tlZ); have HQ := Lib.hid ((HBx2.out).size)
                  have HO3 := Lib.hid (HO2.out.below hal); have HE3 := Lib.hid (HE2.out.below hal)
                  clear hal
                  generalize x2.alloc (.cells tlZ 27) = x3 at *
                  obtain ⟨p, hp⟩ : ∃ p, p = x2.heap.size := ⟨_, rfl⟩
                  rw [← hp] at HP3 HQ ⊢; clear hp
                  refine wpAny_ready (rs := [9]) (by kernel_rfl) (by simp) ?_
                  refine AllReady.cons rfl (fun KK hKK => ?_) AllReady.nil
                  refine step_store (by rfl) 27 (.tmp 5) (.tmp 21) (by rfl) _ (tlC A6 c6 (u)) (by rfl) (by rfl) 27 tlZ HP3.out size27 rfl (tlC_one ..) none rfl ?_
                  intro v hbk hon
                  have HX := DoBox.made (A5 := A5) (c5 := c5) HBx3.out HQ.out HP3.out HO3.out HE3.out hbk hon
                  clear hbk hon; refine hKK _ _ ?_; clear hKK KK; simp only [Act.put]
                  refine take_at (i := 10) (v := ?_) rfl (by kernel_rfl) (by kernel_rfl) (by kernel_rfl) (fun _ _ _ h => h) (some 6) rfl (Or.inl ⟨by rfl, ?_⟩) ?_
                  rotate_left 1
                  · intro w; go_simp; try with_reducible rfl
                  simp only [Act.put, List.setIfInBounds_toArray, List.set_cons_zero, List.set_cons_succ]
                  refine take_at (i := 11) (v := ?_) rfl (by kernel_rfl) (by kernel_rfl) (by kernel_rfl) (fun _ _ _ h => h) (some 7) rfl (Or.inl ⟨by rfl, ?_⟩) ?_
                  rotate_left 1
                  · intro w; go_simp; try with_reducible rfl
                  simp only [Act.put, List.setIfInBounds_toArray, List.set_cons_zero, List.set_cons_succ]
                  refine wpAny_done (by kernel_rfl) ?_ _
                  exact HSH _ _ _ _ _ _ _ _ HX
                exact AllReady.nil
              refine AllReady.cons rfl (fun KK hKK => ?_) ?_
              · skip
                go_simp
                refine hKK _ _ ?_; clear hKK KK; try simp only [Act.put, List.setIfInBounds_toArray, List.set_cons_zero, List.set_cons_succ]
                change wpAny _ _ _ _ _ _ _ (x1.alloc (.cells tlZ 27))
                have hal := (Below.refl x1.heap.size x1).alloc (Nat.le_refl _) (.cells tlZ 27)
                have HBx5 := Lib.hid ((HBx1.out).trans (hal.mono (HBx1.out).size)); have HP5 := Lib.hid (Blk.new x1 27 tlZ); have HQ := Lib.hid ((HBx1.out).size)
                have HC5 := Lib.hid (HC1.out.below hal)
                clear hal
                generalize x1.alloc (.cells tlZ 27) = x5 at *
                obtain ⟨p, hp⟩ : ∃ p, p = x1.heap.size := ⟨_, rfl⟩
                rw [← hp] at HP5 HQ ⊢; clear hp
                refine wpAny_ready (rs := [3]) (by kernel_rfl) (by simp) ?_
                refine AllReady.cons rfl (fun KK hKK => ?_) ?_
                · skip
                  refine step_call2 (by rfl) 22 (.tmp 18) (.tmp 19) _ (by rfl) (tlV A5 c5 t) (cmV m) (by rfl) (by rfl) (fun _ _ => rfl) _ (do_as (w := x5) HC5.out (HN.out) (HSM.out) ((G2.out.tb).below HBx5.out) (HMM.out.t1) (HMM.out.e1) (HMM.out.c1)) (some 20) rfl ?_
                  rintro e x6 ⟨A6, c6, B6, e6, rfl, ho6, he6, hb⟩
                  refine ⟨_, rfl, ?_⟩
                  have HBx6 := Lib.hid ((HBx5.out).trans (hb.mono (HBx5.out).size)); have HO6 := Lib.hid (Own.base ho6 (HBx5.out).size); have HE6 := Lib.hid (OwnE.base he6 (HBx5.out).size)
                  have HP6 := Lib.hid (HP5.out.below hb HP5.out.lt)
                  clear hb ho6 he6; refine hKK _ _ ?_; clear hKK KK; simp only [Act.put, List.setIfInBounds_toArray, List.set_cons_zero, List.set_cons_succ]
                  refine take_at (i := 4) (v := ?_) rfl (by kernel_rfl) (by kernel_rfl) (by kernel_rfl) (fun _ _ _ h => h) (some 16) rfl (Or.inl ⟨by rfl, ?_⟩) ?_
                  rotate_left 1
                  · intro w; go_simp; try with_reducible rfl
                  simp only [Act.put, List.setIfInBounds_toArray, List.set_cons_zero, List.set_cons_succ]
                  refine take_at (i := 5) (v := ?_) rfl (by kernel_rfl) (by kernel_rfl) (by kernel_rfl) (fun _ _ _ h => h) (some 21) rfl (Or.inl ⟨by rfl, ?_⟩) ?_
                  rotate_left 1
                  · intro w; go_simp; try with_reducible rfl
                  simp only [Act.put, List.setIfInBounds_toArray, List.set_cons_zero, List.set_cons_succ]
                  refine take_at (i := 6) (v := ?_) rfl (by kernel_rfl) (by kernel_rfl) (by kernel_rfl) (fun _ _ _ h => h) (some 22) rfl (Or.inl ⟨by rfl, ?_⟩) ?_
                  rotate_left 1
                  · intro w; go_simp; try with_reducible rfl
                  simp only [Act.put, List.setIfInBounds_toArray, List.set_cons_zero, List.set_cons_succ]
                  refine take_at (i := 7) (v := ?_) rfl (by kernel_rfl) (by kernel_rfl) (by kernel_rfl) (fun _ _ _ h => h) (some 23) rfl (Or.inl ⟨by rfl, ?_⟩) ?_
                  rotate_left 1
                  · intro w; go_simp; try with_reducible rfl
                  simp only [Act.put, List.setIfInBounds_toArray, List.set_cons_zero, List.set_cons_succ]
                  refine wpAny_ready (rs := [9]) (by kernel_rfl) (by simp) ?_
                  refine AllReady.cons rfl (fun KK hKK => ?_) AllReady.nil
                  refine step_store (by rfl) 27 (.tmp 5) (.tmp 21) (by rfl) _ (tlC A6 c6 (u)) (by rfl) (by rfl) 27 tlZ HP6.out size27 rfl (tlC_one ..) none rfl ?_
                  intro v hbk hon
                  have HX := DoBox.made (A5 := A5) (c5 := c5) HBx6.out HQ.out HP6.out HO6.out HE6.out hbk hon
                  clear hbk hon; refine hKK _ _ ?_; clear hKK KK; simp only [Act.put]
                  refine take_at (i := 10) (v := ?_) rfl (by kernel_rfl) (by kernel_rfl) (by kernel_rfl) (fun _ _ _ h => h) (some 6) rfl (Or.inl ⟨by rfl, ?_⟩) ?_
                  rotate_left 1
                  · intro w; go_simp; try with_reducible rfl
                  simp only [Act.put, List.setIfInBounds_toArray, List.set_cons_zero, List.set_cons_succ]
                  refine take_at (i := 11) (v := ?_) rfl (by kernel_rfl) (by kernel_rfl) (by kernel_rfl) (fun _ _ _ h => h) (some 7) rfl (Or.inl ⟨by rfl, ?_⟩) ?_
                  rotate_left 1
                  · intro w; go_simp; try with_reducible rfl
                  simp only [Act.put, List.setIfInBounds_toArray, List.set_cons_zero, List.set_cons_succ]
                  refine wpAny_done (by kernel_rfl) ?_ _
                  exact HSH _ _ _ _ _ _ _ _ HX
                exact AllReady.nil
              exact AllReady.nil
            refine AllReady.cons rfl (fun KK hKK => ?_) ?_
            · skip
              go_simp
              refine hKK _ _ ?_; clear hKK KK; try simp only [Act.put, List.setIfInBounds_toArray, List.set_cons_zero, List.set_cons_succ]
              change wpAny _ _ _ _ _ _ _ (x1.alloc (.cells tlZ 27))
              have hal := (Below.refl x1.heap.size x1).alloc (Nat.le_refl _) (.cells tlZ 27)
              have HBx8 := Lib.hid ((HBx1.out).trans (hal.mono (HBx1.out).size)); have HP8 := Lib.hid (Blk.new x1 27 tlZ); have HQ := Lib.hid ((HBx1.out).size)
              have HC8 := Lib.hid (HC1.out.below hal)
              clear hal
              generalize x1.alloc (.cells tlZ 27) = x8 at *
              obtain ⟨p, hp⟩ : ∃ p, p = x1.heap.size := ⟨_, rfl⟩
              rw [← hp] at HP8 HQ ⊢; clear hp
              refine wpAny_ready (rs := [2]) (by kernel_rfl) (by simp) ?_
              refine AllReady.cons rfl (fun KK hKK => ?_) ?_
              · skip
                refine step_load (by rfl) 37 (.tmp 3) (by rfl) pm (by rfl) 37 (cmC m) ((G2.out.cm).below HBx8.out (G2.out.cm).lt) _ Tryd.underlying37 rfl size37 (some 19) rfl ?_
                refine hKK _ _ ?_; clear hKK KK; simp only [Act.put, List.setIfInBounds_toArray, List.set_cons_zero, List.set_cons_succ]
                refine wpAny_ready (rs := [3]) (by kernel_rfl) (by simp) ?_
                refine AllReady.cons rfl (fun KK hKK => ?_) ?_
                · skip
                  refine step_call2 (by rfl) 22 (.tmp 18) (.tmp 19) _ (by rfl) (tlV A5 c5 t) (cmV m) (by rfl) (by rfl) (fun _ _ => rfl) _ (do_as (w := x8) HC8.out (HN.out) (HSM.out) ((G2.out.tb).below HBx8.out) (HMM.out.t1) (HMM.out.e1) (HMM.out.c1)) (some 20) rfl ?_
                  rintro e x9 ⟨A6, c6, B6, e6, rfl, ho6, he6, hb⟩
                  refine ⟨_, rfl, ?_⟩
                  have HBx9 := Lib.hid ((HBx8.out).trans (hb.mono (HBx8.out).size)); have HO9 := Lib.hid (Own.base ho6 (HBx8.out).size); have HE9 := Lib.hid (OwnE.base he6 (HBx8.out).size)
                  have HP9 := Lib.hid (HP8.out.below hb HP8.out.lt)
                  clear hb ho6 he6; refine hKK _ _ ?_; clear hKK KK; simp only [Act.put, List.setIfInBounds_toArray, List.set_cons_zero, List.set_cons_succ]
                  refine take_at (i := 4) (v := ?_) rfl (by kernel_rfl) (by kernel_rfl) (by kernel_rfl) (fun _ _ _ h => h) (some 16) rfl (Or.inl ⟨by rfl, ?_⟩) ?_
                  rotate_left 1
                  · intro w; go_simp; try with_reducible rfl
                  simp only [Act.put, List.setIfInBounds_toArray, List.set_cons_zero, List.set_cons_succ]
                  refine take_at (i := 5) (v := ?_) rfl (by kernel_rfl) (by kernel_rfl) (by kernel_rfl) (fun _ _ _ h => h) (some 21) rfl (Or.inl ⟨by rfl, ?_⟩) ?_
                  rotate_left 1
                  · intro w; go_simp; try with_reducible rfl
                  simp only [Act.put, List.setIfInBounds_toArray, List.set_cons_zero, List.set_cons_succ]
                  refine take_at (i := 6) (v := ?_) rfl (by kernel_rfl) (by kernel_rfl) (by kernel_rfl) (fun _ _ _ h => h) (some 22) rfl (Or.inl ⟨by rfl, ?_⟩) ?_
                  rotate_left 1
                  · intro w; go_simp; try with_reducible rfl
                  simp only [Act.put, List.setIfInBounds_toArray, List.set_cons_zero, List.set_cons_succ]
                  refine take_at (i := 7) (v := ?_) rfl (by kernel_rfl) (by kernel_rfl) (by kernel_rfl) (fun _ _ _ h => h) (some 23) rfl (Or.inl ⟨by rfl, ?_⟩) ?_
                  rotate_left 1
                  · intro w; go_simp; try with_reducible rfl
                  simp only [Act.put, List.setIfInBounds_toArray, List.set_cons_zero, List.set_cons_succ]
                  refine wpAny_ready (rs := [9]) (by kernel_rfl) (by simp) ?_
                  refine AllReady.cons rfl (fun KK hKK => ?_) AllReady.nil
                  refine step_store (by rfl) 27 (.tmp 5) (.tmp 21) (by rfl) _ (tlC A6 c6 (u)) (by rfl) (by rfl) 27 tlZ HP9.out size27 rfl (tlC_one ..) none rfl ?_
                  intro v hbk hon
                  have HX := DoBox.made (A5 := A5) (c5 := c5) HBx9.out HQ.out HP9.out HO9.out HE9.out hbk hon
                  clear hbk hon; refine hKK _ _ ?_; clear hKK KK; simp only [Act.put]
                  refine take_at (i := 10) (v := ?_) rfl (by kernel_rfl) (by kernel_rfl) (by kernel_rfl) (fun _ _ _ h => h) (some 6) rfl (Or.inl ⟨by rfl, ?_⟩) ?_
                  rotate_left 1
                  · intro w; go_simp; try with_reducible rfl
                  simp only [Act.put, List.setIfInBounds_toArray, List.set_cons_zero, List.set_cons_succ]
                  refine take_at (i := 11) (v := ?_) rfl (by kernel_rfl) (by kernel_rfl) (by kernel_rfl) (fun _ _ _ h => h) (some 7) rfl (Or.inl ⟨by rfl, ?_⟩) ?_
                  rotate_left 1
                  · intro w; go_simp; try with_reducible rfl
                  simp only [Act.put, List.setIfInBounds_toArray, List.set_cons_zero, List.set_cons_succ]
                  refine wpAny_done (by kernel_rfl) ?_ _
                  exact HSH _ _ _ _ _ _ _ _ HX
                exact AllReady.nil
              exact AllReady.nil
            exact AllReady.nil
          refine AllReady.cons rfl (fun KK hKK => ?_) ?_
          · skip
            refine step_load (by rfl) 37 (.tmp 3) (by rfl) pm (by rfl) 37 (cmC m) ((G2.out.cm).below HBx0.out (G2.out.cm).lt) _ Tryd.underlying37 rfl size37 (some 19) rfl ?_
            refine hKK _ _ ?_; clear hKK KK; simp only [Act.put, List.setIfInBounds_toArray, List.set_cons_zero, List.set_cons_succ]
            refine wpAny_ready (rs := [1, 8]) (by kernel_rfl) (by simp) ?_
            refine AllReady.cons rfl (fun KK hKK => ?_) ?_
            · skip
              refine step_call1 (by rfl) 13 (.tmp 17) _ (by rfl) (tlV A c t) (by rfl) (fun _ _ => rfl) _ (copy_any A c t x0 ((G2.out.l).below HBx0.out) (Nat.le_trans (HN.out).1 (by decide))) (some 18) rfl ?_
              rintro e x11 ⟨A5, c5, rfl, ho5, hb⟩
              refine ⟨_, rfl, ?_⟩
              have HBx11 := Lib.hid ((HBx0.out).trans (hb.mono (HBx0.out).size)); have HC11 := Lib.hid ho5.rgs
              clear hb ho5; refine hKK _ _ ?_; clear hKK KK; simp only [Act.put, List.setIfInBounds_toArray, List.set_cons_zero, List.set_cons_succ]
              refine wpAny_ready (rs := [3, 8]) (by kernel_rfl) (by simp) ?_
              refine AllReady.cons rfl (fun KK hKK => ?_) ?_
              · skip
                refine step_call2 (by rfl) 22 (.tmp 18) (.tmp 19) _ (by rfl) (tlV A5 c5 t) (cmV m) (by rfl) (by rfl) (fun _ _ => rfl) _ (do_as (w := x11) HC11.out (HN.out) (HSM.out) ((G2.out.tb).below HBx11.out) (HMM.out.t1) (HMM.out.e1) (HMM.out.c1)) (some 20) rfl ?_
                rintro e x12 ⟨A6, c6, B6, e6, rfl, ho6, he6, hb⟩
                refine ⟨_, rfl, ?_⟩
                have HBx12 := Lib.hid ((HBx11.out).trans (hb.mono (HBx11.out).size)); have HO12 := Lib.hid (Own.base ho6 (HBx11.out).size); have HE12 := Lib.hid (OwnE.base he6 (HBx11.out).size)
                clear hb ho6 he6; refine hKK _ _ ?_; clear hKK KK; simp only [Act.put, List.setIfInBounds_toArray, List.set_cons_zero, List.set_cons_succ]
                refine take_at (i := 4) (v := ?_) rfl (by kernel_rfl) (by kernel_rfl) (by kernel_rfl) (fun _ _ _ h => h) (some 16) rfl (Or.inl ⟨by rfl, ?_⟩) ?_
                rotate_left 1
                · intro w; go_simp; try with_reducible rfl
                simp only [Act.put, List.setIfInBounds_toArray, List.set_cons_zero, List.set_cons_succ]
                refine take_at (i := 5) (v := ?_) rfl (by kernel_rfl) (by kernel_rfl) (by kernel_rfl) (fun _ _ _ h => h) (some 21) rfl (Or.inl ⟨by rfl, ?_⟩) ?_
                rotate_left 1
                · intro w; go_simp; try with_reducible rfl
                simp only [Act.put, List.setIfInBounds_toArray, List.set_cons_zero, List.set_cons_succ]
                refine take_at (i := 6) (v := ?_) rfl (by kernel_rfl) (by kernel_rfl) (by kernel_rfl) (fun _ _ _ h => h) (some 22) rfl (Or.inl ⟨by rfl, ?_⟩) ?_
                rotate_left 1
                · intro w; go_simp; try with_reducible rfl
                simp only [Act.put, List.setIfInBounds_toArray, List.set_cons_zero, List.set_cons_succ]
                refine take_at (i := 7) (v := ?_) rfl (by kernel_rfl) (by kernel_rfl) (by kernel_rfl) (fun _ _ _ h => h) (some 23) rfl (Or.inl ⟨by rfl, ?_⟩) ?_
                rotate_left 1
                · intro w; go_simp; try with_reducible rfl
                simp only [Act.put, List.setIfInBounds_toArray, List.set_cons_zero, List.set_cons_succ]
                refine wpAny_ready (rs := [8]) (by kernel_rfl) (by simp) ?_
                refine AllReady.cons rfl (fun KK hKK => ?_) ?_
                · skip
                  go_simp
                  refine hKK _ _ ?_; clear hKK KK; try simp only [Act.put, List.setIfInBounds_toArray, List.set_cons_zero, List.set_cons_succ]
                  change wpAny _ _ _ _ _ _ _ (x12.alloc (.cells tlZ 27))
                  have hal := (Below.refl x12.heap.size x12).alloc (Nat.le_refl _) (.cells tlZ 27)
                  have HBx13 := Lib.hid ((HBx12.out).trans (hal.mono (HBx12.out).size)); have HP13 := Lib.hid (Blk.new x12 27 tlZ); have HQ := Lib.hid ((HBx12.out).size)
                  have HO13 := Lib.hid (HO12.out.below hal); have HE13 := Lib.hid (HE12.out.below hal)
                  clear hal
                  generalize x12.alloc (.cells tlZ 27) = x13 at *
                  obtain ⟨p, hp⟩ : ∃ p, p = x12.heap.size := ⟨_, rfl⟩
                  rw [← hp] at HP13 HQ ⊢; clear hp
                  refine wpAny_ready (rs := [9]) (by kernel_rfl) (by simp) ?_
                  refine AllReady.cons rfl (fun KK hKK => ?_) AllReady.nil
                  refine step_store (by rfl) 27 (.tmp 5) (.tmp 21) (by rfl) _ (tlC A6 c6 (u)) (by rfl) (by rfl) 27 tlZ HP13.out size27 rfl (tlC_one ..) none rfl ?_
                  intro v hbk hon
                  have HX := DoBox.made (A5 := A5) (c5 := c5) HBx13.out HQ.out HP13.out HO13.out HE13.out hbk hon
                  clear hbk hon; refine hKK _ _ ?_; clear hKK KK; simp only [Act.put]
                  refine take_at (i := 10) (v := ?_) rfl (by kernel_rfl) (by kernel_rfl) (by kernel_rfl) (fun _ _ _ h => h) (some 6) rfl (Or.inl ⟨by rfl, ?_⟩) ?_
                  rotate_left 1
                  · intro w; go_simp; try with_reducible rfl
                  simp only [Act.put, List.setIfInBounds_toArray, List.set_cons_zero, List.set_cons_succ]
                  refine take_at (i := 11) (v := ?_) rfl (by kernel_rfl) (by kernel_rfl) (by kernel_rfl) (fun _ _ _ h => h) (some 7) rfl (Or.inl ⟨by rfl, ?_⟩) ?_
                  rotate_left 1
                  · intro w; go_simp; try with_reducible rfl
                  simp only [Act.put, List.setIfInBounds_toArray, List.set_cons_zero, List.set_cons_succ]
                  refine wpAny_done (by kernel_rfl) ?_ _
                  exact HSH _ _ _ _ _ _ _ _ HX
                exact AllReady.nil
              refine AllReady.cons rfl (fun KK hKK => ?_) ?_
              · skip
                go_simp
                refine hKK _ _ ?_; clear hKK KK; try simp only [Act.put, List.setIfInBounds_toArray, List.set_cons_zero, List.set_cons_succ]
                change wpAny _ _ _ _ _ _ _ (x11.alloc (.cells tlZ 27))
                have hal := (Below.refl x11.heap.size x11).alloc (Nat.le_refl _) (.cells tlZ 27)
                have HBx15 := Lib.hid ((HBx11.out).trans (hal.mono (HBx11.out).size)); have HP15 := Lib.hid (Blk.new x11 27 tlZ); have HQ := Lib.hid ((HBx11.out).size)
                have HC15 := Lib.hid (HC11.out.below hal)
                clear hal
                generalize x11.alloc (.cells tlZ 27) = x15 at *
                obtain ⟨p, hp⟩ : ∃ p, p = x11.heap.size := ⟨_, rfl⟩
                rw [← hp] at HP15 HQ ⊢; clear hp
                refine wpAny_ready (rs := [3]) (by kernel_rfl) (by simp) ?_
                refine AllReady.cons rfl (fun KK hKK => ?_) ?_
                · skip
                  refine step_call2 (by rfl) 22 (.tmp 18) (.tmp 19) _ (by rfl) (tlV A5 c5 t) (cmV m) (by rfl) (by rfl) (fun _ _ => rfl) _ (do_as (w := x15) HC15.out (HN.out) (HSM.out) ((G2.out.tb).below HBx15.out) (HMM.out.t1) (HMM.out.e1) (HMM.out.c1)) (some 20) rfl ?_
                  rintro e x16 ⟨A6, c6, B6, e6, rfl, ho6, he6, hb⟩
                  refine ⟨_, rfl, ?_⟩
                  have HBx16 := Lib.hid ((HBx15.out).trans (hb.mono (HBx15.out).size)); have HO16 := Lib.hid (Own.base ho6 (HBx15.out).size); have HE16 := Lib.hid (OwnE.base he6 (HBx15.out).size)
                  have HP16 := Lib.hid (HP15.out.below hb HP15.out.lt)
                  clear hb ho6 he6; refine hKK _ _ ?_; clear hKK KK; simp only [Act.put, List.setIfInBounds_toArray, List.set_cons_zero, List.set_cons_succ]
                  refine take_at (i := 4) (v := ?_) rfl (by kernel_rfl) (by kernel_rfl) (by kernel_rfl) (fun _ _ _ h => h) (some 16) rfl (Or.inl ⟨by rfl, ?_⟩) ?_
                  rotate_left 1
                  · intro w; go_simp; try with_reducible rfl
                  simp only [Act.put, List.setIfInBounds_toArray, List.set_cons_zero, List.set_cons_succ]
                  refine take_at (i := 5) (v := ?_) rfl (by kernel_rfl) (by kernel_rfl) (by kernel_rfl) (fun _ _ _ h => h) (some 21) rfl (Or.inl ⟨by rfl, ?_⟩) ?_
                  rotate_left 1
                  · intro w; go_simp; try with_reducible rfl
                  simp only [Act.put, List.setIfInBounds_toArray, List.set_cons_zero, List.set_cons_succ]
                  refine take_at (i := 6) (v := ?_) rfl (by kernel_rfl) (by kernel_rfl) (by kernel_rfl) (fun _ _ _ h => h) (some 22) rfl (Or.inl ⟨by rfl, ?_⟩) ?_
                  rotate_left 1
                  · intro w; go_simp; try with_reducible rfl
                  simp only [Act.put, List.setIfInBounds_toArray, List.set_cons_zero, List.set_cons_succ]
                  refine take_at (i := 7) (v := ?_) rfl (by kernel_rfl) (by kernel_rfl) (by kernel_rfl) (fun _ _ _ h => h) (some 23) rfl (Or.inl ⟨by rfl, ?_⟩) ?_
                  rotate_left 1
                  · intro w; go_simp; try with_reducible rfl
                  simp only [Act.put, List.setIfInBounds_toArray, List.set_cons_zero, List.set_cons_succ]
                  refine wpAny_ready (rs := [9]) (by kernel_rfl) (by simp) ?_
                  refine AllReady.cons rfl (fun KK hKK => ?_) AllReady.nil
                  refine step_store (by rfl) 27 (.tmp 5) (.tmp 21) (by rfl) _ (tlC A6 c6 (u)) (by rfl) (by rfl) 27 tlZ HP16.out size27 rfl (tlC_one ..) none rfl ?_
                  intro v hbk hon
                  have HX := DoBox.made (A5 := A5) (c5 := c5) HBx16.out HQ.out HP16.out HO16.out HE16.out hbk hon
                  clear hbk hon; refine hKK _ _ ?_; clear hKK KK; simp only [Act.put]
                  refine take_at (i := 10) (v := ?_) rfl (by kernel_rfl) (by kernel_rfl) (by kernel_rfl) (fun _ _ _ h => h) (some 6) rfl (Or.inl ⟨by rfl, ?_⟩) ?_
                  rotate_left 1
                  · intro w; go_simp; try with_reducible rfl
                  simp only [Act.put, List.setIfInBounds_toArray, List.set_cons_zero, List.set_cons_succ]
                  refine take_at (i := 11) (v := ?_) rfl (by kernel_rfl) (by kernel_rfl) (by kernel_rfl) (fun _ _ _ h => h) (some 7) rfl (Or.inl ⟨by rfl, ?_⟩) ?_
                  rotate_left 1
                  · intro w; go_simp; try with_reducible rfl
                  simp only [Act.put, List.setIfInBounds_toArray, List.set_cons_zero, List.set_cons_succ]
                  refine wpAny_done (by kernel_rfl) ?_ _
                  exact HSH _ _ _ _ _ _ _ _ HX
                exact AllReady.nil
              exact AllReady.nil
            refine AllReady.cons rfl (fun KK hKK => ?_) ?_
            · skip
              go_simp
              refine hKK _ _ ?_; clear hKK KK; try simp only [Act.put, List.setIfInBounds_toArray, List.set_cons_zero, List.set_cons_succ]
              change wpAny _ _ _ _ _ _ _ (x0.alloc (.cells tlZ 27))
              have hal := (Below.refl x0.heap.size x0).alloc (Nat.le_refl _) (.cells tlZ 27)
              have HBx18 := Lib.hid ((HBx0.out).trans (hal.mono (HBx0.out).size)); have HP18 := Lib.hid (Blk.new x0 27 tlZ); have HQ := Lib.hid ((HBx0.out).size)
              clear hal
              generalize x0.alloc (.cells tlZ 27) = x18 at *
              obtain ⟨p, hp⟩ : ∃ p, p = x0.heap.size := ⟨_, rfl⟩
              rw [← hp] at HP18 HQ ⊢; clear hp
              refine wpAny_ready (rs := [1]) (by kernel_rfl) (by simp) ?_
              refine AllReady.cons rfl (fun KK hKK => ?_) ?_
              · skip
                refine step_call1 (by rfl) 13 (.tmp 17) _ (by rfl) (tlV A c t) (by rfl) (fun _ _ => rfl) _ (copy_any A c t x18 ((G2.out.l).below HBx18.out) (Nat.le_trans (HN.out).1 (by decide))) (some 18) rfl ?_
                rintro e x19 ⟨A5, c5, rfl, ho5, hb⟩
                refine ⟨_, rfl, ?_⟩
                have HBx19 := Lib.hid ((HBx18.out).trans (hb.mono (HBx18.out).size)); have HC19 := Lib.hid ho5.rgs
                have HP19 := Lib.hid (HP18.out.below hb HP18.out.lt)
                clear hb ho5; refine hKK _ _ ?_; clear hKK KK; simp only [Act.put, List.setIfInBounds_toArray, List.set_cons_zero, List.set_cons_succ]
                refine wpAny_ready (rs := [3]) (by kernel_rfl) (by simp) ?_
                refine AllReady.cons rfl (fun KK hKK => ?_) ?_
                · skip
                  refine step_call2 (by rfl) 22 (.tmp 18) (.tmp 19) _ (by rfl) (tlV A5 c5 t) (cmV m) (by rfl) (by rfl) (fun _ _ => rfl) _ (do_as (w := x19) HC19.out (HN.out) (HSM.out) ((G2.out.tb).below HBx19.out) (HMM.out.t1) (HMM.out.e1) (HMM.out.c1)) (some 20) rfl ?_
                  rintro e x20 ⟨A6, c6, B6, e6, rfl, ho6, he6, hb⟩
                  refine ⟨_, rfl, ?_⟩
                  have HBx20 := Lib.hid ((HBx19.out).trans (hb.mono (HBx19.out).size)); have HO20 := Lib.hid (Own.base ho6 (HBx19.out).size); have HE20 := Lib.hid (OwnE.base he6 (HBx19.out).size)
                  have HP20 := Lib.hid (HP19.out.below hb HP19.out.lt)
                  clear hb ho6 he6; refine hKK _ _ ?_; clear hKK KK; simp only [Act.put, List.setIfInBounds_toArray, List.set_cons_zero, List.set_cons_succ]
                  refine take_at (i := 4) (v := ?_) rfl (by kernel_rfl) (by kernel_rfl) (by kernel_rfl) (fun _ _ _ h => h) (some 16) rfl (Or.inl ⟨by rfl, ?_⟩) ?_
                  rotate_left 1
                  · intro w; go_simp; try with_reducible rfl
                  simp only [Act.put, List.setIfInBounds_toArray, List.set_cons_zero, List.set_cons_succ]
                  refine take_at (i := 5) (v := ?_) rfl (by kernel_rfl) (by kernel_rfl) (by kernel_rfl) (fun _ _ _ h => h) (some 21) rfl (Or.inl ⟨by rfl, ?_⟩) ?_
                  rotate_left 1
                  · intro w; go_simp; try with_reducible rfl
                  simp only [Act.put, List.setIfInBounds_toArray, List.set_cons_zero, List.set_cons_succ]
                  refine take_at (i := 6) (v := ?_) rfl (by kernel_rfl) (by kernel_rfl) (by kernel_rfl) (fun _ _ _ h => h) (some 22) rfl (Or.inl ⟨by rfl, ?_⟩) ?_
                  rotate_left 1
                  · intro w; go_simp; try with_reducible rfl
                  simp only [Act.put, List.setIfInBounds_toArray, List.set_cons_zero, List.set_cons_succ]
                  refine take_at (i := 7) (v := ?_) rfl (by kernel_rfl) (by kernel_rfl) (by kernel_rfl) (fun _ _ _ h => h) (some 23) rfl (Or.inl ⟨by rfl, ?_⟩) ?_
                  rotate_left 1
                  · intro w; go_simp; try with_reducible rfl
                  simp only [Act.put, List.setIfInBounds_toArray, List.set_cons_zero, List.set_cons_succ]
                  refine wpAny_ready (rs := [9]) (by kernel_rfl) (by simp) ?_
                  refine AllReady.cons rfl (fun KK hKK => ?_) AllReady.nil
                  refine step_store (by rfl) 27 (.tmp 5) (.tmp 21) (by rfl) _ (tlC A6 c6 (u)) (by rfl) (by rfl) 27 tlZ HP20.out size27 rfl (tlC_one ..) none rfl ?_
                  intro v hbk hon
                  have HX := DoBox.made (A5 := A5) (c5 := c5) HBx20.out HQ.out HP20.out HO20.out HE20.out hbk hon
                  clear hbk hon; refine hKK _ _ ?_; clear hKK KK; simp only [Act.put]
                  refine take_at (i := 10) (v := ?_) rfl (by kernel_rfl) (by kernel_rfl) (by kernel_rfl) (fun _ _ _ h => h) (some 6) rfl (Or.inl ⟨by rfl, ?_⟩) ?_
                  rotate_left 1
                  · intro w; go_simp; try with_reducible rfl
                  simp only [Act.put, List.setIfInBounds_toArray, List.set_cons_zero, List.set_cons_succ]
                  refine take_at (i := 11) (v := ?_) rfl (by kernel_rfl) (by kernel_rfl) (by kernel_rfl) (fun _ _ _ h => h) (some 7) rfl (Or.inl ⟨by rfl, ?_⟩) ?_
                  rotate_left 1
                  · intro w; go_simp; try with_reducible rfl
                  simp only [Act.put, List.setIfInBounds_toArray, List.set_cons_zero, List.set_cons_succ]
                  refine wpAny_done (by kernel_rfl) ?_ _
                  exact HSH _ _ _ _ _ _ _ _ HX
                exact AllReady.nil
              exact AllReady.nil
            exact AllReady.nil
          refine AllReady.cons rfl (fun KK hKK => ?_) ?_
          · skip
            go_simp
            refine hKK _ _ ?_; clear hKK KK; try simp only [Act.put, List.setIfInBounds_toArray, List.set_cons_zero, List.set_cons_succ]
            change wpAny _ _ _ _ _ _ _ (x0.alloc (.cells tlZ 27))
            have hal := (Below.refl x0.heap.size x0).alloc (Nat.le_refl _) (.cells tlZ 27)
            have HBx22 := Lib.hid ((HBx0.out).trans (hal.mono (HBx0.out).size)); have HP22 := Lib.hid (Blk.new x0 27 tlZ); have HQ := Lib.hid ((HBx0.out).size)
            clear hal
            generalize x0.alloc (.cells tlZ 27) = x22 at *
            obtain ⟨p, hp⟩ : ∃ p, p = x0.heap.size := ⟨_, rfl⟩
            rw [← hp] at HP22 HQ ⊢; clear hp
            refine wpAny_ready (rs := [1, 2]) (by kernel_rfl) (by simp) ?_
            refine AllReady.cons rfl (fun KK hKK => ?_) ?_
            · skip
              refine step_call1 (by rfl) 13 (.tmp 17) _ (by rfl) (tlV A c t) (by rfl) (fun _ _ => rfl) _ (copy_any A c t x22 ((G2.out.l).below HBx22.out) (Nat.le_trans (HN.out).1 (by decide))) (some 18) rfl ?_
              rintro e x23 ⟨A5, c5, rfl, ho5, hb⟩
              refine ⟨_, rfl, ?_⟩
              have HBx23 := Lib.hid ((HBx22.out).trans (hb.mono (HBx22.out).size)); have HC23 := Lib.hid ho5.rgs
              have HP23 := Lib.hid (HP22.out.below hb HP22.out.lt)
              clear hb ho5; refine hKK _ _ ?_; clear hKK KK; simp only [Act.put, List.setIfInBounds_toArray, List.set_cons_zero, List.set_cons_succ]
              refine wpAny_ready (rs := [2]) (by kernel_rfl) (by simp) ?_
              refine AllReady.cons rfl (fun KK hKK => ?_) ?_
              · skip
                refine step_load (by rfl) 37 (.tmp 3) (by rfl) pm (by rfl) 37 (cmC m) ((G2.out.cm).below HBx23.out (G2.out.cm).lt) _ Tryd.underlying37 rfl size37 (some 19) rfl ?_
                refine hKK _ _ ?_; clear hKK KK; simp only [Act.put, List.setIfInBounds_toArray, List.set_cons_zero, List.set_cons_succ]
                refine wpAny_ready (rs := [3]) (by kernel_rfl) (by simp) ?_
                refine AllReady.cons rfl (fun KK hKK => ?_) ?_
                · skip
                  refine step_call2 (by rfl) 22 (.tmp 18) (.tmp 19) _ (by rfl) (tlV A5 c5 t) (cmV m) (by rfl) (by rfl) (fun _ _ => rfl) _ (do_as (w := x23) HC23.out (HN.out) (HSM.out) ((G2.out.tb).below HBx23.out) (HMM.out.t1) (HMM.out.e1) (HMM.out.c1)) (some 20) rfl ?_
                  rintro e x24 ⟨A6, c6, B6, e6, rfl, ho6, he6, hb⟩
                  refine ⟨_, rfl, ?_⟩
                  have HBx24 := Lib.hid ((HBx23.out).trans (hb.mono (HBx23.out).size)); have HO24 := Lib.hid (Own.base ho6 (HBx23.out).size); have HE24 := Lib.hid (OwnE.base he6 (HBx23.out).size)
                  have HP24 := Lib.hid (HP23.out.below hb HP23.out.lt)
                  clear hb ho6 he6; refine hKK _ _ ?_; clear hKK KK; simp only [Act.put, List.setIfInBounds_toArray, List.set_cons_zero, List.set_cons_succ]
                  refine take_at (i := 4) (v := ?_) rfl (by kernel_rfl) (by kernel_rfl) (by kernel_rfl) (fun _ _ _ h => h) (some 16) rfl (Or.inl ⟨by rfl, ?_⟩) ?_
                  rotate_left 1
                  · intro w; go_simp; try with_reducible rfl
                  simp only [Act.put, List.setIfInBounds_toArray, List.set_cons_zero, List.set_cons_succ]
                  refine take_at (i := 5) (v := ?_) rfl (by kernel_rfl) (by kernel_rfl) (by kernel_rfl) (fun _ _ _ h => h) (some 21) rfl (Or.inl ⟨by rfl, ?_⟩) ?_
                  rotate_left 1
                  · intro w; go_simp; try with_reducible rfl
                  simp only [Act.put, List.setIfInBounds_toArray, List.set_cons_zero, List.set_cons_succ]
                  refine take_at (i := 6) (v := ?_) rfl (by kernel_rfl) (by kernel_rfl) (by kernel_rfl) (fun _ _ _ h => h) (some 22) rfl (Or.inl ⟨by rfl, ?_⟩) ?_
                  rotate_left 1
                  · intro w; go_simp; try with_reducible rfl
                  simp only [Act.put, List.setIfInBounds_toArray, List.set_cons_zero, List.set_cons_succ]
                  refine take_at (i := 7) (v := ?_) rfl (by kernel_rfl) (by kernel_rfl) (by kernel_rfl) (fun _ _ _ h => h) (some 23) rfl (Or.inl ⟨by rfl, ?_⟩) ?_
                  rotate_left 1
                  · intro w; go_simp; try with_reducible rfl
                  simp only [Act.put, List.setIfInBounds_toArray, List.set_cons_zero, List.set_cons_succ]
                  refine wpAny_ready (rs := [9]) (by kernel_rfl) (by simp) ?_
                  refine AllReady.cons rfl (fun KK hKK => ?_) AllReady.nil
                  refine step_store (by rfl) 27 (.tmp 5) (.tmp 21) (by rfl) _ (tlC A6 c6 (u)) (by rfl) (by rfl) 27 tlZ HP24.out size27 rfl (tlC_one ..) none rfl ?_
                  intro v hbk hon
                  have HX := DoBox.made (A5 := A5) (c5 := c5) HBx24.out HQ.out HP24.out HO24.out HE24.out hbk hon
                  clear hbk hon; refine hKK _ _ ?_; clear hKK KK; simp only [Act.put]
                  refine take_at (i := 10) (v := ?_) rfl (by kernel_rfl) (by kernel_rfl) (by kernel_rfl) (fun _ _ _ h => h) (some 6) rfl (Or.inl ⟨by rfl, ?_⟩) ?_
                  rotate_left 1
                  · intro w; go_simp; try with_reducible rfl
                  simp only [Act.put, List.setIfInBounds_toArray, List.set_cons_zero, List.set_cons_succ]
                  refine take_at (i := 11) (v := ?_) rfl (by kernel_rfl) (by kernel_rfl) (by kernel_rfl) (fun _ _ _ h => h) (some 7) rfl (Or.inl ⟨by rfl, ?_⟩) ?_
                  rotate_left 1
                  · intro w; go_simp; try with_reducible rfl
                  simp only [Act.put, List.setIfInBounds_toArray, List.set_cons_zero, List.set_cons_succ]
                  refine wpAny_done (by kernel_rfl) ?_ _
                  exact HSH _ _ _ _ _ _ _ _ HX
                exact AllReady.nil
              exact AllReady.nil
            refine AllReady.cons rfl (fun KK hKK => ?_) ?_
            · skip
              refine step_load (by rfl) 37 (.tmp 3) (by rfl) pm (by rfl) 37 (cmC m) ((G2.out.cm).below HBx22.out (G2.out.cm).lt) _ Tryd.underlying37 rfl size37 (some 19) rfl ?_
              refine hKK _ _ ?_; clear hKK KK; simp only [Act.put, List.setIfInBounds_toArray, List.set_cons_zero, List.set_cons_succ]
              refine wpAny_ready (rs := [1]) (by kernel_rfl) (by simp) ?_
              refine AllReady.cons rfl (fun KK hKK => ?_) ?_
              · skip
                refine step_call1 (by rfl) 13 (.tmp 17) _ (by rfl) (tlV A c t) (by rfl) (fun _ _ => rfl) _ (copy_any A c t x22 ((G2.out.l).below HBx22.out) (Nat.le_trans (HN.out).1 (by decide))) (some 18) rfl ?_
                rintro e x26 ⟨A5, c5, rfl, ho5, hb⟩
                refine ⟨_, rfl, ?_⟩
                have HBx26 := Lib.hid ((HBx22.out).trans (hb.mono (HBx22.out).size)); have HC26 := Lib.hid ho5.rgs
                have HP26 := Lib.hid (HP22.out.below hb HP22.out.lt)
                clear hb ho5; refine hKK _ _ ?_; clear hKK KK; simp only [Act.put, List.setIfInBounds_toArray, List.set_cons_zero, List.set_cons_succ]
                refine wpAny_ready (rs := [3]) (by kernel_rfl) (by simp) ?_
                refine AllReady.cons rfl (fun KK hKK => ?_) ?_
                · skip
                  refine step_call2 (by rfl) 22 (.tmp 18) (.tmp 19) _ (by rfl) (tlV A5 c5 t) (cmV m) (by rfl) (by rfl) (fun _ _ => rfl) _ (do_as (w := x26) HC26.out (HN.out) (HSM.out) ((G2.out.tb).below HBx26.out) (HMM.out.t1) (HMM.out.e1) (HMM.out.c1)) (some 20) rfl ?_
                  rintro e x27 ⟨A6, c6, B6, e6, rfl, ho6, he6, hb⟩
                  refine ⟨_, rfl, ?_⟩
                  have HBx27 := Lib.hid ((HBx26.out).trans (hb.mono (HBx26.out).size)); have HO27 := Lib.hid (Own.base ho6 (HBx26.out).size); have HE27 := Lib.hid (OwnE.base he6 (HBx26.out).size)
                  have HP27 := Lib.hid (HP26.out.below hb HP26.out.lt)
                  clear hb ho6 he6; refine hKK _ _ ?_; clear hKK KK; simp only [Act.put, List.setIfInBounds_toArray, List.set_cons_zero, List.set_cons_succ]
                  refine take_at (i := 4) (v := ?_) rfl (by kernel_rfl) (by kernel_rfl) (by kernel_rfl) (fun _ _ _ h => h) (some 16) rfl (Or.inl ⟨by rfl, ?_⟩) ?_
                  rotate_left 1
                  · intro w; go_simp; try with_reducible rfl
                  simp only [Act.put, List.setIfInBounds_toArray, List.set_cons_zero, List.set_cons_succ]
                  refine take_at (i := 5) (v := ?_) rfl (by kernel_rfl) (by kernel_rfl) (by kernel_rfl) (fun _ _ _ h => h) (some 21) rfl (Or.inl ⟨by rfl, ?_⟩) ?_
                  rotate_left 1
                  · intro w; go_simp; try with_reducible rfl
                  simp only [Act.put, List.setIfInBounds_toArray, List.set_cons_zero, List.set_cons_succ]
                  refine take_at (i := 6) (v := ?_) rfl (by kernel_rfl) (by kernel_rfl) (by kernel_rfl) (fun _ _ _ h => h) (some 22) rfl (Or.inl ⟨by rfl, ?_⟩) ?_
                  rotate_left 1
                  · intro w; go_simp; try with_reducible rfl
                  simp only [Act.put, List.setIfInBounds_toArray, List.set_cons_zero, List.set_cons_succ]
                  refine take_at (i := 7) (v := ?_) rfl (by kernel_rfl) (by kernel_rfl) (by kernel_rfl) (fun _ _ _ h => h) (some 23) rfl (Or.inl ⟨by rfl, ?_⟩) ?_
                  rotate_left 1
                  · intro w; go_simp; try with_reducible rfl
                  simp only [Act.put, List.setIfInBounds_toArray, List.set_cons_zero, List.set_cons_succ]
                  refine wpAny_ready (rs := [9]) (by kernel_rfl) (by simp) ?_
                  refine AllReady.cons rfl (fun KK hKK => ?_) AllReady.nil
                  refine step_store (by rfl) 27 (.tmp 5) (.tmp 21) (by rfl) _ (tlC A6 c6 (u)) (by rfl) (by rfl) 27 tlZ HP27.out size27 rfl (tlC_one ..) none rfl ?_
                  intro v hbk hon
                  have HX := DoBox.made (A5 := A5) (c5 := c5) HBx27.out HQ.out HP27.out HO27.out HE27.out hbk hon
                  clear hbk hon; refine hKK _ _ ?_; clear hKK KK; simp only [Act.put]
                  refine take_at (i := 10) (v := ?_) rfl (by kernel_rfl) (by kernel_rfl) (by kernel_rfl) (fun _ _ _ h => h) (some 6) rfl (Or.inl ⟨by rfl, ?_⟩) ?_
                  rotate_left 1
                  · intro w; go_simp; try with_reducible rfl
                  simp only [Act.put, List.setIfInBounds_toArray, List.set_cons_zero, List.set_cons_succ]
                  refine take_at (i := 11) (v := ?_) rfl (by kernel_rfl) (by kernel_rfl) (by kernel_rfl) (fun _ _ _ h => h) (some 7) rfl (Or.inl ⟨by rfl, ?_⟩) ?_
                  rotate_left 1
                  · intro w; go_simp; try with_reducible rfl
                  simp only [Act.put, List.setIfInBounds_toArray, List.set_cons_zero, List.set_cons_succ]
                  refine wpAny_done (by kernel_rfl) ?_ _
                  exact HSH _ _ _ _ _ _ _ _ HX
                exact AllReady.nil
              exact AllReady.nil
            exact AllReady.nil
          exact AllReady.nil
        refine AllReady.cons rfl (fun KK hKK => ?_) ?_
        · skip
          refine step_load (by rfl) 37 (.tmp 3) (by rfl) pm (by rfl) 37 (cmC m) ((G2.out.cm).below HBx0.out (G2.out.cm).lt) _ Tryd.underlying37 rfl size37 (some 19) rfl ?_
          refine hKK _ _ ?_; clear hKK KK; simp only [Act.put, List.setIfInBounds_toArray, List.set_cons_zero, List.set_cons_succ]
          refine wpAny_ready (rs := [0, 8]) (by kernel_rfl) (by simp) ?_
          refine AllReady.cons rfl (fun KK hKK => ?_) ?_
          · skip
            refine step_load (by rfl) 27 (.tmp 2) (by rfl) w.heap.size (by rfl) 27 (tlC A c t) ((G2.out.b).below HBx0.out (G2.out.b).lt) _ Tryd.underlying27 rfl size27 (some 17) rfl ?_
            refine hKK _ _ ?_; clear hKK KK; simp only [Act.put, List.setIfInBounds_toArray, List.set_cons_zero, List.set_cons_succ]
            refine wpAny_ready (rs := [1, 8]) (by kernel_rfl) (by simp) ?_
            refine AllReady.cons rfl (fun KK hKK => ?_) ?_
            · skip
              refine step_call1 (by rfl) 13 (.tmp 17) _ (by rfl) (tlV A c t) (by rfl) (fun _ _ => rfl) _ (copy_any A c t x0 ((G2.out.l).below HBx0.out) (Nat.le_trans (HN.out).1 (by decide))) (some 18) rfl ?_
              rintro e x29 ⟨A5, c5, rfl, ho5, hb⟩
              refine ⟨_, rfl, ?_⟩
              have HBx29 := Lib.hid ((HBx0.out).trans (hb.mono (HBx0.out).size)); have HC29 := Lib.hid ho5.rgs
              clear hb ho5; refine hKK _ _ ?_; clear hKK KK; simp only [Act.put, List.setIfInBounds_toArray, List.set_cons_zero, List.set_cons_succ]
              refine wpAny_ready (rs := [3, 8]) (by kernel_rfl) (by simp) ?_
              refine AllReady.cons rfl (fun KK hKK => ?_) ?_
              · skip
                refine step_call2 (by rfl) 22 (.tmp 18) (.tmp 19) _ (by rfl) (tlV A5 c5 t) (cmV m) (by rfl) (by rfl) (fun _ _ => rfl) _ (do_as (w := x29) HC29.out (HN.out) (HSM.out) ((G2.out.tb).below HBx29.out) (HMM.out.t1) (HMM.out.e1) (HMM.out.c1)) (some 20) rfl ?_
                rintro e x30 ⟨A6, c6, B6, e6, rfl, ho6, he6, hb⟩
                refine ⟨_, rfl, ?_⟩
                have HBx30 := Lib.hid ((HBx29.out).trans (hb.mono (HBx29.out).size)); have HO30 := Lib.hid (Own.base ho6 (HBx29.out).size); have HE30 := Lib.hid (OwnE.base he6 (HBx29.out).size)
                clear hb ho6 he6; refine hKK _ _ ?_; clear hKK KK; simp only [Act.put, List.setIfInBounds_toArray, List.set_cons_zero, List.set_cons_succ]
                refine take_at (i := 4) (v := ?_) rfl (by kernel_rfl) (by kernel_rfl) (by kernel_rfl) (fun _ _ _ h => h) (some 16) rfl (Or.inl ⟨by rfl, ?_⟩) ?_
                rotate_left 1
                · intro w; go_simp; try with_reducible rfl
                simp only [Act.put, List.setIfInBounds_toArray, List.set_cons_zero, List.set_cons_succ]
                refine take_at (i := 5) (v := ?_) rfl (by kernel_rfl) (by kernel_rfl) (by kernel_rfl) (fun _ _ _ h => h) (some 21) rfl (Or.inl ⟨by rfl, ?_⟩) ?_
                rotate_left 1
                · intro w; go_simp; try with_reducible rfl
                simp only [Act.put, List.setIfInBounds_toArray, List.set_cons_zero, List.set_cons_succ]
                refine take_at (i := 6) (v := ?_) rfl (by kernel_rfl) (by kernel_rfl) (by kernel_rfl) (fun _ _ _ h => h) (some 22) rfl (Or.inl ⟨by rfl, ?_⟩) ?_
                rotate_left 1
                · intro w; go_simp; try with_reducible rfl
                simp only [Act.put, List.setIfInBounds_toArray, List.set_cons_zero, List.set_cons_succ]
                refine take_at (i := 7) (v := ?_) rfl (by kernel_rfl) (by kernel_rfl) (by kernel_rfl) (fun _ _ _ h => h) (some 23) rfl (Or.inl ⟨by rfl, ?_⟩) ?_
                rotate_left 1
                · intro w; go_simp; try with_reducible rfl
                simp only [Act.put, List.setIfInBounds_toArray, List.set_cons_zero, List.set_cons_succ]
                refine wpAny_ready (rs := [8]) (by kernel_rfl) (by simp) ?_
                refine AllReady.cons rfl (fun KK hKK => ?_) ?_
                · skip
                  go_simp
                  refine hKK _ _ ?_; clear hKK KK; try simp only [Act.put, List.setIfInBounds_toArray, List.set_cons_zero, List.set_cons_succ]
                  change wpAny _ _ _ _ _ _ _ (x30.alloc (.cells tlZ 27))
                  have hal := (Below.refl x30.heap.size x30).alloc (Nat.le_refl _) (.cells tlZ 27)
                  have HBx31 := Lib.hid ((HBx30.out).trans (hal.mono (HBx30.out).size)); have HP31 := Lib.hid (Blk.new x30 27 tlZ); have HQ := Lib.hid ((HBx30.out).size)
                  have HO31 := Lib.hid (HO30.out.below hal); have HE31 := Lib.hid (HE30.out.below hal)
                  clear hal
                  generalize x30.alloc (.cells tlZ 27) = x31 at *
                  obtain ⟨p, hp⟩ : ∃ p, p = x30.heap.size := ⟨_, rfl⟩
                  rw [← hp] at HP31 HQ ⊢; clear hp
                  refine wpAny_ready (rs := [9]) (by kernel_rfl) (by simp) ?_
                  refine AllReady.cons rfl (fun KK hKK => ?_) AllReady.nil
                  refine step_store (by rfl) 27 (.tmp 5) (.tmp 21) (by rfl) _ (tlC A6 c6 (u)) (by rfl) (by rfl) 27 tlZ HP31.out size27 rfl (tlC_one ..) none rfl ?_
                  intro v hbk hon
                  have HX := DoBox.made (A5 := A5) (c5 := c5) HBx31.out HQ.out HP31.out HO31.out HE31.out hbk hon
                  clear hbk hon; refine hKK _ _ ?_; clear hKK KK; simp only [Act.put]
                  refine take_at (i := 10) (v := ?_) rfl (by kernel_rfl) (by kernel_rfl) (by kernel_rfl) (fun _ _ _ h => h) (some 6) rfl (Or.inl ⟨by rfl, ?_⟩) ?_
                  rotate_left 1
                  · intro w; go_simp; try with_reducible rfl
                  simp only [Act.put, List.setIfInBounds_toArray, List.set_cons_zero, List.set_cons_succ]
                  refine take_at (i := 11) (v := ?_) rfl (by kernel_rfl) (by kernel_rfl) (by kernel_rfl) (fun _ _ _ h => h) (some 7) rfl (Or.inl ⟨by rfl, ?_⟩) ?_
                  rotate_left 1
                  · intro w; go_simp; try with_reducible rfl
                  simp only [Act.put, List.setIfInBounds_toArray, List.set_cons_zero, List.set_cons_succ]
                  refine wpAny_done (by kernel_rfl) ?_ _
                  exact HSH _ _ _ _ _ _ _ _ HX
                exact AllReady.nil
              refine AllReady.cons rfl (fun KK hKK => ?_) ?_
              · skip
                go_simp
                refine hKK _ _ ?_; clear hKK KK; try simp only [Act.put, List.setIfInBounds_toArray, List.set_cons_zero, List.set_cons_succ]
                change wpAny _ _ _ _ _ _ _ (x29.alloc (.cells tlZ 27))
                have hal := (Below.refl x29.heap.size x29).alloc (Nat.le_refl _) (.cells tlZ 27)
                have HBx33 := Lib.hid ((HBx29.out).trans (hal.mono (HBx29.out).size)); have HP33 := Lib.hid (Blk.new x29 27 tlZ); have HQ := Lib.hid ((HBx29.out).size)
                have HC33 := Lib.hid (HC29.out.below hal)
                clear hal
                generalize x29.alloc (.cells tlZ 27) = x33 at *
                obtain ⟨p, hp⟩ : ∃ p, p = x29.heap.size := ⟨_, rfl⟩
                rw [← hp] at HP33 HQ ⊢; clear hp
                refine wpAny_ready (rs := [3]) (by kernel_rfl) (by simp) ?_
                refine AllReady.cons rfl (fun KK hKK => ?_) ?_
                · skip
                  refine step_call2 (by rfl) 22 (.tmp 18) (.tmp 19) _ (by rfl) (tlV A5 c5 t) (cmV m) (by rfl) (by rfl) (fun _ _ => rfl) _ (do_as (w := x33) HC33.out (HN.out) (HSM.out) ((G2.out.tb).below HBx33.out) (HMM.out.t1) (HMM.out.e1) (HMM.out.c1)) (some 20) rfl ?_
                  rintro e x34 ⟨A6, c6, B6, e6, rfl, ho6, he6, hb⟩
                  refine ⟨_, rfl, ?_⟩
                  have HBx34 := Lib.hid ((HBx33.out).trans (hb.mono (HBx33.out).size)); have HO34 := Lib.hid (Own.base ho6 (HBx33.out).size); have HE34 := Lib.hid (OwnE.base he6 (HBx33.out).size)
                  have HP34 := Lib.hid (HP33.out.below hb HP33.out.lt)
                  clear hb ho6 he6; refine hKK _ _ ?_; clear hKK KK; simp only [Act.put, List.setIfInBounds_toArray, List.set_cons_zero, List.set_cons_succ]
                  refine take_at (i := 4) (v := ?_) rfl (by kernel_rfl) (by kernel_rfl) (by kernel_rfl) (fun _ _ _ h => h) (some 16) rfl (Or.inl ⟨by rfl, ?_⟩) ?_
                  rotate_left 1
                  · intro w; go_simp; try with_reducible rfl
                  simp only [Act.put, List.setIfInBounds_toArray, List.set_cons_zero, List.set_cons_succ]
                  refine take_at (i := 5) (v := ?_) rfl (by kernel_rfl) (by kernel_rfl) (by kernel_rfl) (fun _ _ _ h => h) (some 21) rfl (Or.inl ⟨by rfl, ?_⟩) ?_
                  rotate_left 1
                  · intro w; go_simp; try with_reducible rfl
                  simp only [Act.put, List.setIfInBounds_toArray, List.set_cons_zero, List.set_cons_succ]
                  refine take_at (i := 6) (v := ?_) rfl (by kernel_rfl) (by kernel_rfl) (by kernel_rfl) (fun _ _ _ h => h) (some 22) rfl (Or.inl ⟨by rfl, ?_⟩) ?_
                  rotate_left 1
                  · intro w; go_simp; try with_reducible rfl
                  simp only [Act.put, List.setIfInBounds_toArray, List.set_cons_zero, List.set_cons_succ]
                  refine take_at (i := 7) (v := ?_) rfl (by kernel_rfl) (by kernel_rfl) (by kernel_rfl) (fun _ _ _ h => h) (some 23) rfl (Or.inl ⟨by rfl, ?_⟩) ?_
                  rotate_left 1
                  · intro w; go_simp; try with_reducible rfl
                  simp only [Act.put, List.setIfInBounds_toArray, List.set_cons_zero, List.set_cons_succ]
                  refine wpAny_ready (rs := [9]) (by kernel_rfl) (by simp) ?_
                  refine AllReady.cons rfl (fun KK hKK => ?_) AllReady.nil
                  refine step_store (by rfl) 27 (.tmp 5) (.tmp 21) (by rfl) _ (tlC A6 c6 (u)) (by rfl) (by rfl) 27 tlZ HP34.out size27 rfl (tlC_one ..) none rfl ?_
                  intro v hbk hon
                  have HX := DoBox.made (A5 := A5) (c5 := c5) HBx34.out HQ.out HP34.out HO34.out HE34.out hbk hon
                  clear hbk hon; refine hKK _ _ ?_; clear hKK KK; simp only [Act.put]
                  refine take_at (i := 10) (v := ?_) rfl (by kernel_rfl) (by kernel_rfl) (by kernel_rfl) (fun _ _ _ h => h) (some 6) rfl (Or.inl ⟨by rfl, ?_⟩) ?_
                  rotate_left 1
                  · intro w; go_simp; try with_reducible rfl
                  simp only [Act.put, List.setIfInBounds_toArray, List.set_cons_zero, List.set_cons_succ]
                  refine take_at (i := 11) (v := ?_) rfl (by kernel_rfl) (by kernel_rfl) (by kernel_rfl) (fun _ _ _ h => h) (some 7) rfl (Or.inl ⟨by rfl, ?_⟩) ?_
                  rotate_left 1
                  · intro w; go_simp; try with_reducible rfl
                  simp only [Act.put, List.setIfInBounds_toArray, List.set_cons_zero, List.set_cons_succ]
                  refine wpAny_done (by kernel_rfl) ?_ _
                  exact HSH _ _ _ _ _ _ _ _ HX
                exact AllReady.nil
              exact AllReady.nil
            refine AllReady.cons rfl (fun KK hKK => ?_) ?_
            · skip
              go_simp
              refine hKK _ _ ?_; clear hKK KK; try simp only [Act.put, List.setIfInBounds_toArray, List.set_cons_zero, List.set_cons_succ]
              change wpAny _ _ _ _ _ _ _ (x0.alloc (.cells tlZ 27))
              have hal := (Below.refl x0.heap.size x0).alloc (Nat.le_refl _) (.cells tlZ 27)
              have HBx36 := Lib.hid ((HBx0.out).trans (hal.mono (HBx0.out).size)); have HP36 := Lib.hid (Blk.new x0 27 tlZ); have HQ := Lib.hid ((HBx0.out).size)
              clear hal
              generalize x0.alloc (.cells tlZ 27) = x36 at *
              obtain ⟨p, hp⟩ : ∃ p, p = x0.heap.size := ⟨_, rfl⟩
              rw [← hp] at HP36 HQ ⊢; clear hp
              refine wpAny_ready (rs := [1]) (by kernel_rfl) (by simp) ?_
              refine AllReady.cons rfl (fun KK hKK => ?_) ?_
              · skip
                refine step_call1 (by rfl) 13 (.tmp 17) _ (by rfl) (tlV A c t) (by rfl) (fun _ _ => rfl) _ (copy_any A c t x36 ((G2.out.l).below HBx36.out) (Nat.le_trans (HN.out).1 (by decide))) (some 18) rfl ?_
                rintro e x37 ⟨A5, c5, rfl, ho5, hb⟩
                refine ⟨_, rfl, ?_⟩
                have HBx37 := Lib.hid ((HBx36.out).trans (hb.mono (HBx36.out).size)); have HC37 := Lib.hid ho5.rgs
                have HP37 := Lib.hid (HP36.out.below hb HP36.out.lt)
                clear hb ho5; refine hKK _ _ ?_; clear hKK KK; simp only [Act.put, List.setIfInBounds_toArray, List.set_cons_zero, List.set_cons_succ]
                refine wpAny_ready (rs := [3]) (by kernel_rfl) (by simp) ?_
                refine AllReady.cons rfl (fun KK hKK => ?_) ?_
                · skip
                  refine step_call2 (by rfl) 22 (.tmp 18) (.tmp 19) _ (by rfl) (tlV A5 c5 t) (cmV m) (by rfl) (by rfl) (fun _ _ => rfl) _ (do_as (w := x37) HC37.out (HN.out) (HSM.out) ((G2.out.tb).below HBx37.out) (HMM.out.t1) (HMM.out.e1) (HMM.out.c1)) (some 20) rfl ?_
                  rintro e x38 ⟨A6, c6, B6, e6, rfl, ho6, he6, hb⟩
                  refine ⟨_, rfl, ?_⟩
                  have HBx38 := Lib.hid ((HBx37.out).trans (hb.mono (HBx37.out).size)); have HO38 := Lib.hid (Own.base ho6 (HBx37.out).size); have HE38 := Lib.hid (OwnE.base he6 (HBx37.out).size)
                  have HP38 := Lib.hid (HP37.out.below hb HP37.out.lt)
                  clear hb ho6 he6; refine hKK _ _ ?_; clear hKK KK; simp only [Act.put, List.setIfInBounds_toArray, List.set_cons_zero, List.set_cons_succ]
                  refine take_at (i := 4) (v := ?_) rfl (by kernel_rfl) (by kernel_rfl) (by kernel_rfl) (fun _ _ _ h => h) (some 16) rfl (Or.inl ⟨by rfl, ?_⟩) ?_
                  rotate_left 1
                  · intro w; go_simp; try with_reducible rfl
                  simp only [Act.put, List.setIfInBounds_toArray, List.set_cons_zero, List.set_cons_succ]
                  refine take_at (i := 5) (v := ?_) rfl (by kernel_rfl) (by kernel_rfl) (by kernel_rfl) (fun _ _ _ h => h) (some 21) rfl (Or.inl ⟨by rfl, ?_⟩) ?_
                  rotate_left 1
                  · intro w; go_simp; try with_reducible rfl
                  simp only [Act.put, List.setIfInBounds_toArray, List.set_cons_zero, List.set_cons_succ]
                  refine take_at (i := 6) (v := ?_) rfl (by kernel_rfl) (by kernel_rfl) (by kernel_rfl) (fun _ _ _ h => h) (some 22) rfl (Or.inl ⟨by rfl, ?_⟩) ?_
                  rotate_left 1
                  · intro w; go_simp; try with_reducible rfl
                  simp only [Act.put, List.setIfInBounds_toArray, List.set_cons_zero, List.set_cons_succ]
                  refine take_at (i := 7) (v := ?_) rfl (by kernel_rfl) (by kernel_rfl) (by kernel_rfl) (fun _ _ _ h => h) (some 23) rfl (Or.inl ⟨by rfl, ?_⟩) ?_
                  rotate_left 1
                  · intro w; go_simp; try with_reducible rfl
                  simp only [Act.put, List.setIfInBounds_toArray, List.set_cons_zero, List.set_cons_succ]
                  refine wpAny_ready (rs := [9]) (by kernel_rfl) (by simp) ?_
                  refine AllReady.cons rfl (fun KK hKK => ?_) AllReady.nil
                  refine step_store (by rfl) 27 (.tmp 5) (.tmp 21) (by rfl) _ (tlC A6 c6 (u)) (by rfl) (by rfl) 27 tlZ HP38.out size27 rfl (tlC_one ..) none rfl ?_
                  intro v hbk hon
                  have HX := DoBox.made (A5 := A5) (c5 := c5) HBx38.out HQ.out HP38.out HO38.out HE38.out hbk hon
                  clear hbk hon; refine hKK _ _ ?_; clear hKK KK; simp only [Act.put]
                  refine take_at (i := 10) (v := ?_) rfl (by kernel_rfl) (by kernel_rfl) (by kernel_rfl) (fun _ _ _ h => h) (some 6) rfl (Or.inl ⟨by rfl, ?_⟩) ?_
                  rotate_left 1
                  · intro w; go_simp; try with_reducible rfl
                  simp only [Act.put, List.setIfInBounds_toArray, List.set_cons_zero, List.set_cons_succ]
                  refine take_at (i := 11) (v := ?_) rfl (by kernel_rfl) (by kernel_rfl) (by kernel_rfl) (fun _ _ _ h => h) (some 7) rfl (Or.inl ⟨by rfl, ?_⟩) ?_
                  rotate_left 1
                  · intro w; go_simp; try with_reducible rfl
                  simp only [Act.put, List.setIfInBounds_toArray, List.set_cons_zero, List.set_cons_succ]
                  refine wpAny_done (by kernel_rfl) ?_ _
                  exact HSH _ _ _ _ _ _ _ _ HX
                exact AllReady.nil
              exact AllReady.nil
            exact AllReady.nil
          refine AllReady.cons rfl (fun KK hKK => ?_) ?_
          · skip
            go_simp
            refine hKK _ _ ?_; clear hKK KK; try simp only [Act.put, List.setIfInBounds_toArray, List.set_cons_zero, List.set_cons_succ]
            change wpAny _ _ _ _ _ _ _ (x0.alloc (.cells tlZ 27))
            have hal := (Below.refl x0.heap.size x0).alloc (Nat.le_refl _) (.cells tlZ 27)
            have HBx40 := Lib.hid ((HBx0.out).trans (hal.mono (HBx0.out).size)); have HP40 := Lib.hid (Blk.new x0 27 tlZ); have HQ := Lib.hid ((HBx0.out).size)
            clear hal
            generalize x0.alloc (.cells tlZ 27) = x40 at *
            obtain ⟨p, hp⟩ : ∃ p, p = x0.heap.size := ⟨_, rfl⟩
            rw [← hp] at HP40 HQ ⊢; clear hp
            refine wpAny_ready (rs := [0]) (by kernel_rfl) (by simp) ?_
            refine AllReady.cons rfl (fun KK hKK => ?_) ?_
            · skip
              refine step_load (by rfl) 27 (.tmp 2) (by rfl) w.heap.size (by rfl) 27 (tlC A c t) ((G2.out.b).below HBx40.out (G2.out.b).lt) _ Tryd.underlying27 rfl size27 (some 17) rfl ?_
              refine hKK _ _ ?_; clear hKK KK; simp only [Act.put, List.setIfInBounds_toArray, List.set_cons_zero, List.set_cons_succ]
              refine wpAny_ready (rs := [1]) (by kernel_rfl) (by simp) ?_
              refine AllReady.cons rfl (fun KK hKK => ?_) ?_
              · skip
                refine step_call1 (by rfl) 13 (.tmp 17) _ (by rfl) (tlV A c t) (by rfl) (fun _ _ => rfl) _ (copy_any A c t x40 ((G2.out.l).below HBx40.out) (Nat.le_trans (HN.out).1 (by decide))) (some 18) rfl ?_
                rintro e x41 ⟨A5, c5, rfl, ho5, hb⟩
                refine ⟨_, rfl, ?_⟩
                have HBx41 := Lib.hid ((HBx40.out).trans (hb.mono (HBx40.out).size)); have HC41 := Lib.hid ho5.rgs
                have HP41 := Lib.hid (HP40.out.below hb HP40.out.lt)
                clear hb ho5; refine hKK _ _ ?_; clear hKK KK; simp only [Act.put, List.setIfInBounds_toArray, List.set_cons_zero, List.set_cons_succ]
                refine wpAny_ready (rs := [3]) (by kernel_rfl) (by simp) ?_
                refine AllReady.cons rfl (fun KK hKK => ?_) ?_
                · skip
                  refine step_call2 (by rfl) 22 (.tmp 18) (.tmp 19) _ (by rfl) (tlV A5 c5 t) (cmV m) (by rfl) (by rfl) (fun _ _ => rfl) _ (do_as (w := x41) HC41.out (HN.out) (HSM.out) ((G2.out.tb).below HBx41.out) (HMM.out.t1) (HMM.out.e1) (HMM.out.c1)) (some 20) rfl ?_
                  rintro e x42 ⟨A6, c6, B6, e6, rfl, ho6, he6, hb⟩
                  refine ⟨_, rfl, ?_⟩
                  have HBx42 := Lib.hid ((HBx41.out).trans (hb.mono (HBx41.out).size)); have HO42 := Lib.hid (Own.base ho6 (HBx41.out).size); have HE42 := Lib.hid (OwnE.base he6 (HBx41.out).size)
                  have HP42 := Lib.hid (HP41.out.below hb HP41.out.lt)
                  clear hb ho6 he6; refine hKK _ _ ?_; clear hKK KK; simp only [Act.put, List.setIfInBounds_toArray, List.set_cons_zero, List.set_cons_succ]
                  refine take_at (i := 4) (v := ?_) rfl (by kernel_rfl) (by kernel_rfl) (by kernel_rfl) (fun _ _ _ h => h) (some 16) rfl (Or.inl ⟨by rfl, ?_⟩) ?_
                  rotate_left 1
                  · intro w; go_simp; try with_reducible rfl
                  simp only [Act.put, List.setIfInBounds_toArray, List.set_cons_zero, List.set_cons_succ]
                  refine take_at (i := 5) (v := ?_) rfl (by kernel_rfl) (by kernel_rfl) (by kernel_rfl) (fun _ _ _ h => h) (some 21) rfl (Or.inl ⟨by rfl, ?_⟩) ?_
                  rotate_left 1
                  · intro w; go_simp; try with_reducible rfl
                  simp only [Act.put, List.setIfInBounds_toArray, List.set_cons_zero, List.set_cons_succ]
                  refine take_at (i := 6) (v := ?_) rfl (by kernel_rfl) (by kernel_rfl) (by kernel_rfl) (fun _ _ _ h => h) (some 22) rfl (Or.inl ⟨by rfl, ?_⟩) ?_
                  rotate_left 1
                  · intro w; go_simp; try with_reducible rfl
                  simp only [Act.put, List.setIfInBounds_toArray, List.set_cons_zero, List.set_cons_succ]
                  refine take_at (i := 7) (v := ?_) rfl (by kernel_rfl) (by kernel_rfl) (by kernel_rfl) (fun _ _ _ h => h) (some 23) rfl (Or.inl ⟨by rfl, ?_⟩) ?_
                  rotate_left 1
                  · intro w; go_simp; try with_reducible rfl
                  simp only [Act.put, List.setIfInBounds_toArray, List.set_cons_zero, List.set_cons_succ]
                  refine wpAny_ready (rs := [9]) (by kernel_rfl) (by simp) ?_
                  refine AllReady.cons rfl (fun KK hKK => ?_) AllReady.nil
                  refine step_store (by rfl) 27 (.tmp 5) (.tmp 21) (by rfl) _ (tlC A6 c6 (u)) (by rfl) (by rfl) 27 tlZ HP42.out size27 rfl (tlC_one ..) none rfl ?_
                  intro v hbk hon
                  have HX := DoBox.made (A5 := A5) (c5 := c5) HBx42.out HQ.out HP42.out HO42.out HE42.out hbk hon
                  clear hbk hon; refine hKK _ _ ?_; clear hKK KK; simp only [Act.put]
                  refine take_at (i := 10) (v := ?_) rfl (by kernel_rfl) (by kernel_rfl) (by kernel_rfl) (fun _ _ _ h => h) (some 6) rfl (Or.inl ⟨by rfl, ?_⟩) ?_
                  rotate_left 1
                  · intro w; go_simp; try with_reducible rfl
                  simp only [Act.put, List.setIfInBounds_toArray, List.set_cons_zero, List.set_cons_succ]
                  refine take_at (i := 11) (v := ?_) rfl (by kernel_rfl) (by kernel_rfl) (by kernel_rfl) (fun _ _ _ h => h) (some 7) rfl (Or.inl ⟨by rfl, ?_⟩) ?_
                  rotate_left 1
                  · intro w; go_simp; try with_reducible rfl
                  simp only [Act.put, List.setIfInBounds_toArray, List.set_cons_zero, List.set_cons_succ]
                  refine wpAny_done (by kernel_rfl) ?_ _
                  exact HSH _ _ _ _ _ _ _ _ HX
                exact AllReady.nil
              exact AllReady.nil
            exact AllReady.nil
          exact AllReady.nil
        refine AllReady.cons rfl (fun KK hKK => ?_) ?_
        · skip
          go_simp
          refine hKK _ _ ?_; clear hKK KK; try simp only [Act.put, List.setIfInBounds_toArray, List.set_cons_zero, List.set_cons_succ]
          change wpAny _ _ _ _ _ _ _ (x0.alloc (.cells tlZ 27))
          have hal := (Below.refl x0.heap.size x0).alloc (Nat.le_refl _) (.cells tlZ 27)
          have HBx44 := Lib.hid ((HBx0.out).trans (hal.mono (HBx0.out).size)); have HP44 := Lib.hid (Blk.new x0 27 tlZ); have HQ := Lib.hid ((HBx0.out).size)
          clear hal
          generalize x0.alloc (.cells tlZ 27) = x44 at *
          obtain ⟨p, hp⟩ : ∃ p, p = x0.heap.size := ⟨_, rfl⟩
          rw [← hp] at HP44 HQ ⊢; clear hp
          refine wpAny_ready (rs := [0, 2]) (by kernel_rfl) (by simp) ?_
          refine AllReady.cons rfl (fun KK hKK => ?_) ?_
          · skip
            refine step_load (by rfl) 27 (.tmp 2) (by rfl) w.heap.size (by rfl) 27 (tlC A c t) ((G2.out.b).below HBx44.out (G2.out.b).lt) _ Tryd.underlying27 rfl size27 (some 17) rfl ?_
            refine hKK _ _ ?_; clear hKK KK; simp only [Act.put, List.setIfInBounds_toArray, List.set_cons_zero, List.set_cons_succ]
            refine wpAny_ready (rs := [1, 2]) (by kernel_rfl) (by simp) ?_
            refine AllReady.cons rfl (fun KK hKK => ?_) ?_
            · skip
              refine step_call1 (by rfl) 13 (.tmp 17) _ (by rfl) (tlV A c t) (by rfl) (fun _ _ => rfl) _ (copy_any A c t x44 ((G2.out.l).below HBx44.out) (Nat.le_trans (HN.out).1 (by decide))) (some 18) rfl ?_
              rintro e x45 ⟨A5, c5, rfl, ho5, hb⟩
              refine ⟨_, rfl, ?_⟩
              have HBx45 := Lib.hid ((HBx44.out).trans (hb.mono (HBx44.out).size)); have HC45 := Lib.hid ho5.rgs
              have HP45 := Lib.hid (HP44.out.below hb HP44.out.lt)
              clear hb ho5; refine hKK _ _ ?_; clear hKK KK; simp only [Act.put, List.setIfInBounds_toArray, List.set_cons_zero, List.set_cons_succ]
              refine wpAny_ready (rs := [2]) (by kernel_rfl) (by simp) ?_
              refine AllReady.cons rfl (fun KK hKK => ?_) ?_
              · skip
                refine step_load (by rfl) 37 (.tmp 3) (by rfl) pm (by rfl) 37 (cmC m) ((G2.out.cm).below HBx45.out (G2.out.cm).lt) _ Tryd.underlying37 rfl size37 (some 19) rfl ?_
                refine hKK _ _ ?_; clear hKK KK; simp only [Act.put, List.setIfInBounds_toArray, List.set_cons_zero, List.set_cons_succ]
                refine wpAny_ready (rs := [3]) (by kernel_rfl) (by simp) ?_
                refine AllReady.cons rfl (fun KK hKK => ?_) ?_
                · skip
                  refine step_call2 (by rfl) 22 (.tmp 18) (.tmp 19) _ (by rfl) (tlV A5 c5 t) (cmV m) (by rfl) (by rfl) (fun _ _ => rfl) _ (do_as (w := x45) HC45.out (HN.out) (HSM.out) ((G2.out.tb).below HBx45.out) (HMM.out.t1) (HMM.out.e1) (HMM.out.c1)) (some 20) rfl ?_
                  rintro e x46 ⟨A6, c6, B6, e6, rfl, ho6, he6, hb⟩
                  refine ⟨_, rfl, ?_⟩
                  have HBx46 := Lib.hid ((HBx45.out).trans (hb.mono (HBx45.out).size)); have HO46 := Lib.hid (Own.base ho6 (HBx45.out).size); have HE46 := Lib.hid (OwnE.base he6 (HBx45.out).size)
                  have HP46 := Lib.hid (HP45.out.below hb HP45.out.lt)
                  clear hb ho6 he6; refine hKK _ _ ?_; clear hKK KK; simp only [Act.put, List.setIfInBounds_toArray, List.set_cons_zero, List.set_cons_succ]
                  refine take_at (i := 4) (v := ?_) rfl (by kernel_rfl) (by kernel_rfl) (by kernel_rfl) (fun _ _ _ h => h) (some 16) rfl (Or.inl ⟨by rfl, ?_⟩) ?_
                  rotate_left 1
                  · intro w; go_simp; try with_reducible rfl
                  simp only [Act.put, List.setIfInBounds_toArray, List.set_cons_zero, List.set_cons_succ]
                  refine take_at (i := 5) (v := ?_) rfl (by kernel_rfl) (by kernel_rfl) (by kernel_rfl) (fun _ _ _ h => h) (some 21) rfl (Or.inl ⟨by rfl, ?_⟩) ?_
                  rotate_left 1
                  · intro w; go_simp; try with_reducible rfl
                  simp only [Act.put, List.setIfInBounds_toArray, List.set_cons_zero, List.set_cons_succ]
                  refine take_at (i := 6) (v := ?_) rfl (by kernel_rfl) (by kernel_rfl) (by kernel_rfl) (fun _ _ _ h => h) (some 22) rfl (Or.inl ⟨by rfl, ?_⟩) ?_
                  rotate_left 1
                  · intro w; go_simp; try with_reducible rfl
                  simp only [Act.put, List.setIfInBounds_toArray, List.set_cons_zero, List.set_cons_succ]
                  refine take_at (i := 7) (v := ?_) rfl (by kernel_rfl) (by kernel_rfl) (by kernel_rfl) (fun _ _ _ h => h) (some 23) rfl (Or.inl ⟨by rfl, ?_⟩) ?_
                  rotate_left 1
                  · intro w; go_simp; try with_reducible rfl
                  simp only [Act.put, List.setIfInBounds_toArray, List.set_cons_zero, List.set_cons_succ]
                  refine wpAny_ready (rs := [9]) (by kernel_rfl) (by simp) ?_
                  refine AllReady.cons rfl (fun KK hKK => ?_) AllReady.nil
                  refine step_store (by rfl) 27 (.tmp 5) (.tmp 21) (by rfl) _ (tlC A6 c6 (u)) (by rfl) (by rfl) 27 tlZ HP46.out size27 rfl (tlC_one ..) none rfl ?_
                  intro v hbk hon
                  have HX := DoBox.made (A5 := A5) (c5 := c5) HBx46.out HQ.out HP46.out HO46.out HE46.out hbk hon
                  clear hbk hon; refine hKK _ _ ?_; clear hKK KK; simp only [Act.put]
                  refine take_at (i := 10) (v := ?_) rfl (by kernel_rfl) (by kernel_rfl) (by kernel_rfl) (fun _ _ _ h => h) (some 6) rfl (Or.inl ⟨by rfl, ?_⟩) ?_
                  rotate_left 1
                  · intro w; go_simp; try with_reducible rfl
                  simp only [Act.put, List.setIfInBounds_toArray, List.set_cons_zero, List.set_cons_succ]
                  refine take_at (i := 11) (v := ?_) rfl (by kernel_rfl) (by kernel_rfl) (by kernel_rfl) (fun _ _ _ h => h) (some 7) rfl (Or.inl ⟨by rfl, ?_⟩) ?_
                  rotate_left 1
                  · intro w; go_simp; try with_reducible rfl
                  simp only [Act.put, List.setIfInBounds_toArray, List.set_cons_zero, List.set_cons_succ]
                  refine wpAny_done (by kernel_rfl) ?_ _
                  exact HSH _ _ _ _ _ _ _ _ HX
                exact AllReady.nil
              exact AllReady.nil
            refine AllReady.cons rfl (fun KK hKK => ?_) ?_
            · skip
              refine step_load (by rfl) 37 (.tmp 3) (by rfl) pm (by rfl) 37 (cmC m) ((G2.out.cm).below HBx44.out (G2.out.cm).lt) _ Tryd.underlying37 rfl size37 (some 19) rfl ?_
              refine hKK _ _ ?_; clear hKK KK; simp only [Act.put, List.setIfInBounds_toArray, List.set_cons_zero, List.set_cons_succ]
              refine wpAny_ready (rs := [1]) (by kernel_rfl) (by simp) ?_
              refine AllReady.cons rfl (fun KK hKK => ?_) ?_
              · skip
                refine step_call1 (by rfl) 13 (.tmp 17) _ (by rfl) (tlV A c t) (by rfl) (fun _ _ => rfl) _ (copy_any A c t x44 ((G2.out.l).below HBx44.out) (Nat.le_trans (HN.out).1 (by decide))) (some 18) rfl ?_
                rintro e x48 ⟨A5, c5, rfl, ho5, hb⟩
                refine ⟨_, rfl, ?_⟩
                have HBx48 := Lib.hid ((HBx44.out).trans (hb.mono (HBx44.out).size)); have HC48 := Lib.hid ho5.rgs
                have HP48 := Lib.hid (HP44.out.below hb HP44.out.lt)
                clear hb ho5; refine hKK _ _ ?_; clear hKK KK; simp only [Act.put, List.setIfInBounds_toArray, List.set_cons_zero, List.set_cons_succ]
                refine wpAny_ready (rs := [3]) (by kernel_rfl) (by simp) ?_
                refine AllReady.cons rfl (fun KK hKK => ?_) ?_
                · skip
                  refine step_call2 (by rfl) 22 (.tmp 18) (.tmp 19) _ (by rfl) (tlV A5 c5 t) (cmV m) (by rfl) (by rfl) (fun _ _ => rfl) _ (do_as (w := x48) HC48.out (HN.out) (HSM.out) ((G2.out.tb).below HBx48.out) (HMM.out.t1) (HMM.out.e1) (HMM.out.c1)) (some 20) rfl ?_
                  rintro e x49 ⟨A6, c6, B6, e6, rfl, ho6, he6, hb⟩
                  refine ⟨_, rfl, ?_⟩
                  have HBx49 := Lib.hid ((HBx48.out).trans (hb.mono (HBx48.out).size)); have HO49 := Lib.hid (Own.base ho6 (HBx48.out).size); have HE49 := Lib.hid (OwnE.base he6 (HBx48.out).size)
                  have HP49 := Lib.hid (HP48.out.below hb HP48.out.lt)
                  clear hb ho6 he6; refine hKK _ _ ?_; clear hKK KK; simp only [Act.put, List.setIfInBounds_toArray, List.set_cons_zero, List.set_cons_succ]
                  refine take_at (i := 4) (v := ?_) rfl (by kernel_rfl) (by kernel_rfl) (by kernel_rfl) (fun _ _ _ h => h) (some 16) rfl (Or.inl ⟨by rfl, ?_⟩) ?_
                  rotate_left 1
                  · intro w; go_simp; try with_reducible rfl
                  simp only [Act.put, List.setIfInBounds_toArray, List.set_cons_zero, List.set_cons_succ]
                  refine take_at (i := 5) (v := ?_) rfl (by kernel_rfl) (by kernel_rfl) (by kernel_rfl) (fun _ _ _ h => h) (some 21) rfl (Or.inl ⟨by rfl, ?_⟩) ?_
                  rotate_left 1
                  · intro w; go_simp; try with_reducible rfl
                  simp only [Act.put, List.setIfInBounds_toArray, List.set_cons_zero, List.set_cons_succ]
                  refine take_at (i := 6) (v := ?_) rfl (by kernel_rfl) (by kernel_rfl) (by kernel_rfl) (fun _ _ _ h => h) (some 22) rfl (Or.inl ⟨by rfl, ?_⟩) ?_
                  rotate_left 1
                  · intro w; go_simp; try with_reducible rfl
                  simp only [Act.put, List.setIfInBounds_toArray, List.set_cons_zero, List.set_cons_succ]
                  refine take_at (i := 7) (v := ?_) rfl (by kernel_rfl) (by kernel_rfl) (by kernel_rfl) (fun _ _ _ h => h) (some 23) rfl (Or.inl ⟨by rfl, ?_⟩) ?_
                  rotate_left 1
                  · intro w; go_simp; try with_reducible rfl
                  simp only [Act.put, List.setIfInBounds_toArray, List.set_cons_zero, List.set_cons_succ]
                  refine wpAny_ready (rs := [9]) (by kernel_rfl) (by simp) ?_
                  refine AllReady.cons rfl (fun KK hKK => ?_) AllReady.nil
                  refine step_store (by rfl) 27 (.tmp 5) (.tmp 21) (by rfl) _ (tlC A6 c6 (u)) (by rfl) (by rfl) 27 tlZ HP49.out size27 rfl (tlC_one ..) none rfl ?_
                  intro v hbk hon
                  have HX := DoBox.made (A5 := A5) (c5 := c5) HBx49.out HQ.out HP49.out HO49.out HE49.out hbk hon
                  clear hbk hon; refine hKK _ _ ?_; clear hKK KK; simp only [Act.put]
                  refine take_at (i := 10) (v := ?_) rfl (by kernel_rfl) (by kernel_rfl) (by kernel_rfl) (fun _ _ _ h => h) (some 6) rfl (Or.inl ⟨by rfl, ?_⟩) ?_
                  rotate_left 1
                  · intro w; go_simp; try with_reducible rfl
                  simp only [Act.put, List.setIfInBounds_toArray, List.set_cons_zero, List.set_cons_succ]
                  refine take_at (i := 11) (v := ?_) rfl (by kernel_rfl) (by kernel_rfl) (by kernel_rfl) (fun _ _ _ h => h) (some 7) rfl (Or.inl ⟨by rfl, ?_⟩) ?_
                  rotate_left 1
                  · intro w; go_simp; try with_reducible rfl
                  simp only [Act.put, List.setIfInBounds_toArray, List.set_cons_zero, List.set_cons_succ]
                  refine wpAny_done (by kernel_rfl) ?_ _
                  exact HSH _ _ _ _ _ _ _ _ HX
                exact AllReady.nil
              exact AllReady.nil
            exact AllReady.nil
          refine AllReady.cons rfl (fun KK hKK => ?_) ?_
          · skip
            refine step_load (by rfl) 37 (.tmp 3) (by rfl) pm (by rfl) 37 (cmC m) ((G2.out.cm).below HBx44.out (G2.out.cm).lt) _ Tryd.underlying37 rfl size37 (some 19) rfl ?_
            refine hKK _ _ ?_; clear hKK KK; simp only [Act.put, List.setIfInBounds_toArray, List.set_cons_zero, List.set_cons_succ]
            refine wpAny_ready (rs := [0]) (by kernel_rfl) (by simp) ?_
            refine AllReady.cons rfl (fun KK hKK => ?_) ?_
            · skip
              refine step_load (by rfl) 27 (.tmp 2) (by rfl) w.heap.size (by rfl) 27 (tlC A c t) ((G2.out.b).below HBx44.out (G2.out.b).lt) _ Tryd.underlying27 rfl size27 (some 17) rfl ?_
              refine hKK _ _ ?_; clear hKK KK; simp only [Act.put, List.setIfInBounds_toArray, List.set_cons_zero, List.set_cons_succ]
              refine wpAny_ready (rs := [1]) (by kernel_rfl) (by simp) ?_
              refine AllReady.cons rfl (fun KK hKK => ?_) ?_
              · skip
                refine step_call1 (by rfl) 13 (.tmp 17) _ (by rfl) (tlV A c t) (by rfl) (fun _ _ => rfl) _ (copy_any A c t x44 ((G2.out.l).below HBx44.out) (Nat.le_trans (HN.out).1 (by decide))) (some 18) rfl ?_
                rintro e x51 ⟨A5, c5, rfl, ho5, hb⟩
                refine ⟨_, rfl, ?_⟩
                have HBx51 := Lib.hid ((HBx44.out).trans (hb.mono (HBx44.out).size)); have HC51 := Lib.hid ho5.rgs
                have HP51 := Lib.hid (HP44.out.below hb HP44.out.lt)
                clear hb ho5; refine hKK _ _ ?_; clear hKK KK; simp only [Act.put, List.setIfInBounds_toArray, List.set_cons_zero, List.set_cons_succ]
                refine wpAny_ready (rs := [3]) (by kernel_rfl) (by simp) ?_
                refine AllReady.cons rfl (fun KK hKK => ?_) ?_
                · skip
                  refine step_call2 (by rfl) 22 (.tmp 18) (.tmp 19) _ (by rfl) (tlV A5 c5 t) (cmV m) (by rfl) (by rfl) (fun _ _ => rfl) _ (do_as (w := x51) HC51.out (HN.out) (HSM.out) ((G2.out.tb).below HBx51.out) (HMM.out.t1) (HMM.out.e1) (HMM.out.c1)) (some 20) rfl ?_
                  rintro e x52 ⟨A6, c6, B6, e6, rfl, ho6, he6, hb⟩
                  refine ⟨_, rfl, ?_⟩
                  have HBx52 := Lib.hid ((HBx51.out).trans (hb.mono (HBx51.out).size)); have HO52 := Lib.hid (Own.base ho6 (HBx51.out).size); have HE52 := Lib.hid (OwnE.base he6 (HBx51.out).size)
                  have HP52 := Lib.hid (HP51.out.below hb HP51.out.lt)
                  clear hb ho6 he6; refine hKK _ _ ?_; clear hKK KK; simp only [Act.put, List.setIfInBounds_toArray, List.set_cons_zero, List.set_cons_succ]
                  refine take_at (i := 4) (v := ?_) rfl (by kernel_rfl) (by kernel_rfl) (by kernel_rfl) (fun _ _ _ h => h) (some 16) rfl (Or.inl ⟨by rfl, ?_⟩) ?_
                  rotate_left 1
                  · intro w; go_simp; try with_reducible rfl
                  simp only [Act.put, List.setIfInBounds_toArray, List.set_cons_zero, List.set_cons_succ]
                  refine take_at (i := 5) (v := ?_) rfl (by kernel_rfl) (by kernel_rfl) (by kernel_rfl) (fun _ _ _ h => h) (some 21) rfl (Or.inl ⟨by rfl, ?_⟩) ?_
                  rotate_left 1
                  · intro w; go_simp; try with_reducible rfl
                  simp only [Act.put, List.setIfInBounds_toArray, List.set_cons_zero, List.set_cons_succ]
                  refine take_at (i := 6) (v := ?_) rfl (by kernel_rfl) (by kernel_rfl) (by kernel_rfl) (fun _ _ _ h => h) (some 22) rfl (Or.inl ⟨by rfl, ?_⟩) ?_
                  rotate_left 1
                  · intro w; go_simp; try with_reducible rfl
                  simp only [Act.put, List.setIfInBounds_toArray, List.set_cons_zero, List.set_cons_succ]
                  refine take_at (i := 7) (v := ?_) rfl (by kernel_rfl) (by kernel_rfl) (by kernel_rfl) (fun _ _ _ h => h) (some 23) rfl (Or.inl ⟨by rfl, ?_⟩) ?_
                  rotate_left 1
                  · intro w; go_simp; try with_reducible rfl
                  simp only [Act.put, List.setIfInBounds_toArray, List.set_cons_zero, List.set_cons_succ]
                  refine wpAny_ready (rs := [9]) (by kernel_rfl) (by simp) ?_
                  refine AllReady.cons rfl (fun KK hKK => ?_) AllReady.nil
                  refine step_store (by rfl) 27 (.tmp 5) (.tmp 21) (by rfl) _ (tlC A6 c6 (u)) (by rfl) (by rfl) 27 tlZ HP52.out size27 rfl (tlC_one ..) none rfl ?_
                  intro v hbk hon
                  have HX := DoBox.made (A5 := A5) (c5 := c5) HBx52.out HQ.out HP52.out HO52.out HE52.out hbk hon
                  clear hbk hon; refine hKK _ _ ?_; clear hKK KK; simp only [Act.put]
                  refine take_at (i := 10) (v := ?_) rfl (by kernel_rfl) (by kernel_rfl) (by kernel_rfl) (fun _ _ _ h => h) (some 6) rfl (Or.inl ⟨by rfl, ?_⟩) ?_
                  rotate_left 1
                  · intro w; go_simp; try with_reducible rfl
                  simp only [Act.put, List.setIfInBounds_toArray, List.set_cons_zero, List.set_cons_succ]
                  refine take_at (i := 11) (v := ?_) rfl (by kernel_rfl) (by kernel_rfl) (by kernel_rfl) (fun _ _ _ h => h) (some 7) rfl (Or.inl ⟨by rfl, ?_⟩) ?_
                  rotate_left 1
                  · intro w; go_simp; try with_reducible rfl
                  simp only [Act.put, List.setIfInBounds_toArray, List.set_cons_zero, List.set_cons_succ]
                  refine wpAny_done (by kernel_rfl) ?_ _
                  exact HSH _ _ _ _ _ _ _ _ HX
                exact AllReady.nil
              exact AllReady.nil
            exact AllReady.nil
          exact AllReady.nil
        exact AllReady.nil
      · skip
        intro v3 p1 A5 c5 A1 cA1 B1 e1 HF
        obtain ⟨hb, hp, hbk, ho, he⟩ := HF
        have G3 := Lib.hid (G2.out.below hb); have HBU := Lib.hid hbk; have HOU := Lib.hid ho.rgs; have HEU := Lib.hid he.evs
        refine hKRx _ _ ?_
        clear hb hp hbk ho he hKRx KRx
        go_wp2_with (fail)
        go_loopw [8] (fun i wr => ∃ k : Nat, k ≤ ev.length ∧ i = .int .i64 k ∧ Hid (Below v3.heap.size v3 wr)) (fun i _ => ev.length - (intOf i).toNat)
        case atStart => exact ⟨0, Nat.zero_le _, rfl, Lib.hid (Below.refl _ _)⟩
        case round =>
          obtain ⟨k, hk, rfl, HB⟩ := hrel
          have hln := HMM.out.ln
          by_cases hlt : k < ev.length
          · have HEW := HEU.out.below HB.out
            obtain ⟨eb, eo, ye, hBe, hye, f0, f1⟩ := HEW.at_ hlt
            subst hBe
            have HGR := Lib.hid (G3.out.below HB.out)
            obtain ⟨ht1, ht2⟩ := HMM.out.told ye (List.mem_of_getElem? hye)
            have hte : (ye.h.toList == m.ho.toList) = false := ht1
            have htk : (keyR t.rs ye.h == 0) = false := by rw [int_beq]; exact decide_eq_false ht2
            have HKY := Lib.hid (fun v (hl2 : Rgs v A t.rs) => refKey_any A c t ye.h v hl2 HM.out)
            have HEB := Lib.hid (HEW)
            have HYE := Lib.hid hye
            clear ht1 ht2 hye f0 f1 HEW
            have hk1 : (k : Int) < ev.length := by omega
            go_upto_region 7 with (fail)
            have HFX : ∀ v, Below wr.heap.size wr v → (v.cell? ⟨eb, eo + k * 2, none⟩ = some (.string ye.h) ∧ v.cell? ⟨pm, 2, none⟩ = some (.string m.ho) ∧ v.cell? ⟨w.heap.size, 0, none⟩ = some (.slice A t.rs.length c) ∧ v.cell? ⟨w.heap.size, 1, none⟩ = some (.int .i64 t.ty) ∧ v.cell? ⟨w.heap.size, 2, none⟩ = some (.string t.ho) ∧ v.cell? ⟨w.heap.size, 3, none⟩ = some (.int .u32 t.ge) ∧ v.cell? ⟨w.heap.size, 4, none⟩ = some (.bool t.ap)) := fun v hbv => by
              have GV := HGR.out.below hbv
              obtain ⟨eb', eo', ye', hBe', hye', f0', _⟩ := (HEB.out.below hbv).at_ hlt
              obtain rfl : ye = ye' := Option.some.inj (HYE.out.symm.trans hye')
              injection hBe' with hBe'; injection hBe' with hq1 hq2; subst hq1 hq2
              exact ⟨f0', GV.cm.cell 2, GV.b.cell 0, GV.b.cell 1, GV.b.cell 2, GV.b.cell 3, GV.b.cell 4⟩
            have HFXh := Lib.hid HFX
            clear HFX
            go_region_held3 (fun v => v.cell? ⟨eb, eo + k * 2, none⟩ = some (.string ye.h) ∧ v.cell? ⟨pm, 2, none⟩ = some (.string m.ho) ∧ v.cell? ⟨w.heap.size, 0, none⟩ = some (.slice A t.rs.length c) ∧ v.cell? ⟨w.heap.size, 1, none⟩ = some (.int .i64 t.ty) ∧ v.cell? ⟨w.heap.size, 2, none⟩ = some (.string t.ho) ∧ v.cell? ⟨w.heap.size, 3, none⟩ = some (.int .u32 t.ge) ∧ v.cell? ⟨w.heap.size, 4, none⟩ = some (.bool t.ap)) (first | exact HFXh.out _ hb7 | exact HFXh.out _ (Below.refl _ _).drew | exact HFXh.out _ (Below.refl _ _)) (first
              | (go_at_call 17; refine (HKY.out _ (HGR.out.l.below (Below.refl _ _).drew)).mono ?_; rintro e v7 ⟨rfl, hb⟩; have hb7 := (Below.refl wr.heap.size wr).drew.trans hb; clear hb))
            all_goals (
              have HB7 := Lib.hid (HB.out.trans (hb7.mono HB.out.size))
              clear hb7
              go_wp2_with (fail)
              go_roundw
              case rel => exact ⟨k + 1, by omega, by go_num, HB7⟩
              case measure => simp [intOf]; omega)
          · obtain rfl : k = ev.length := by omega
            have GE := Lib.hid (G3.out.below HB.out); have HUE := Lib.hid (HBU.out.below HB.out HBU.out.lt); have HRU := Lib.hid (HOU.out.below HB.out)
            have HNL := HN.out.1
            cases hcd : (cd == 1) with
            | false =>
              obtain ⟨hut, hev⟩ := HMM.out.no (neB hcd)
              have hut' := hut.symm
              subst hut'
              have hcd2 : (cd != 1) = true := by simp [bne, hcd]
              have hel : ((ev.length : Int) == 0) = true := by rw [hev]; rfl
              clear hut hev hcd hln
              have u0 : wr.cell? ⟨p1, 0, none⟩ = some (.slice A1 t.rs.length cA1) := HUE.out.cell 0
              have u1 : wr.cell? ⟨p1, 1, none⟩ = some (.int .i64 t.ty) := HUE.out.cell 1
              have u2 : wr.cell? ⟨p1, 2, none⟩ = some (.string t.ho) := HUE.out.cell 2
              have u3 : wr.cell? ⟨p1, 3, none⟩ = some (.int .u32 t.ge) := HUE.out.cell 3
              have u4 : wr.cell? ⟨p1, 4, none⟩ = some (.bool t.ap) := HUE.out.cell 4
              have c0 : wr.cell? ⟨w.heap.size, 0, none⟩ = some (.slice A t.rs.length c) := GE.out.b.cell 0
              have c1 : wr.cell? ⟨w.heap.size, 1, none⟩ = some (.int .i64 t.ty) := GE.out.b.cell 1
              have c2 : wr.cell? ⟨w.heap.size, 2, none⟩ = some (.string t.ho) := GE.out.b.cell 2
              have c3 : wr.cell? ⟨w.heap.size, 3, none⟩ = some (.int .u32 t.ge) := GE.out.b.cell 3
              have c4 : wr.cell? ⟨w.heap.size, 4, none⟩ = some (.bool t.ap) := GE.out.b.cell 4
              go_wp2_with (fail)
              refine (tables_same A A1 c cA1 t wr GE.out.l HRU.out (Nat.le_trans HNL (by decide))).mono ?_; rintro e v8 ⟨rfl, hb8⟩
              have G8 := Lib.hid (GE.out.below hb8)
              clear hb8 u0 u1 u2 u3 u4 c0 c1 c2 c3 c4 hcd2
              go_wp2_with (fail)
              refine (wakes_any v8 G8.out.tb).mono ?_; rintro e v9 ⟨rfl, hb⟩
              have G9 := Lib.hid (G8.out.below hb); clear hb
              go_wp2_with (fail)
              go_ret
              exact ⟨rfl, G9.out.bel⟩
            | true =>
              obtain ⟨hgt, hgu⟩ := HMM.out.yes (eqB hcd)
              have hcd2 : (cd != 1) = false := by simp [bne, hcd]
              have HGT := Lib.hid (refGood_any A c t wr GE.out.l HM.out)
              have hus : u.rs.length ≤ maxLen := Nat.le_trans (goodB_iff.1 hgu).len (by unfold maxLen; decide)
              have HGU := Lib.hid (fun v (hl2 : Rgs v A1 u.rs) => good_any A1 cA1 u v hl2 hus)
              rw [hgt] at HGT
              rw [hgu] at HGU
              clear hgt hgu hus hcd hln
              have c0 : wr.cell? ⟨w.heap.size, 0, none⟩ = some (.slice A t.rs.length c) := GE.out.b.cell 0
              have c1 : wr.cell? ⟨w.heap.size, 1, none⟩ = some (.int .i64 t.ty) := GE.out.b.cell 1
              have c2 : wr.cell? ⟨w.heap.size, 2, none⟩ = some (.string t.ho) := GE.out.b.cell 2
              have c3 : wr.cell? ⟨w.heap.size, 3, none⟩ = some (.int .u32 t.ge) := GE.out.b.cell 3
              have c4 : wr.cell? ⟨w.heap.size, 4, none⟩ = some (.bool t.ap) := GE.out.b.cell 4
              go_wp2_with (fail)
              refine HGT.out.mono ?_; rintro e v8 ⟨rfl, hb8⟩
              have G8 := Lib.hid (GE.out.below hb8); have HU8 := Lib.hid (HUE.out.below hb8 HUE.out.lt); have HR8 := Lib.hid (HRU.out.below hb8)
              clear hb8 c0 c1 c2 c3 c4 hcd2
              have u0 : v8.cell? ⟨p1, 0, none⟩ = some (.slice A1 u.rs.length cA1) := HU8.out.cell 0
              have u1 : v8.cell? ⟨p1, 1, none⟩ = some (.int .i64 u.ty) := HU8.out.cell 1
              have u2 : v8.cell? ⟨p1, 2, none⟩ = some (.string u.ho) := HU8.out.cell 2
              have u3 : v8.cell? ⟨p1, 3, none⟩ = some (.int .u32 u.ge) := HU8.out.cell 3
              have u4 : v8.cell? ⟨p1, 4, none⟩ = some (.bool u.ap) := HU8.out.cell 4
              go_wp2_with (fail)
              refine (HGU.out _ HR8.out).mono ?_; rintro e v9 ⟨rfl, hb9⟩
              have G9 := Lib.hid (G8.out.below hb9); have HU9 := Lib.hid (HU8.out.below hb9 HU8.out.lt)
              clear hb9 u0 u1 u2 u3 u4
              have u3 : v9.cell? ⟨p1, 3, none⟩ = some (.int .u32 u.ge) := HU9.out.cell 3
              have c3 : v9.cell? ⟨w.heap.size, 3, none⟩ = some (.int .u32 t.ge) := G9.out.b.cell 3
              rcases HMM.out.gen with hge | ⟨hge, hgi⟩
              · have HGE9 := Lib.hid hge
                go_wp2_with (fail)
                refine (wakes_any v9 G9.out.tb).mono ?_; rintro e v10 ⟨rfl, hb⟩
                have G10 := Lib.hid (G9.out.below hb); clear hb
                go_wp2_with (fail)
                go_ret
                exact ⟨rfl, G10.out.bel⟩
              · obtain ⟨g, hgg⟩ : ∃ g, g = u.ge := ⟨_, rfl⟩
                have hinc : IntKind.u32.wrap (t.ge + 1) = g := by rw [hgg, hgi]; rfl
                rw [← hgg] at u3 hge
                have hgq : (g == g) = true := beq_self_eq_true _
                clear hgg hgi
                go_wp2_with (fail)
                refine (wakes_any v9 G9.out.tb).mono ?_; rintro e v10 ⟨rfl, hb⟩
                have G10 := Lib.hid (G9.out.below hb); clear hb
                go_wp2_with (fail)
                go_ret
                exact ⟨rfl, G10.out.bel⟩
end Go.Proofs.YtgekadfkokkapaaDoor
